import PyProof.Rows.All
import Wide.All
import OpenK.AllK
import Wide.FinOn
import Lean
import PyProof.EqAt
import PyProof.EqKinds
import PyProof.TupleCall
import PySem.Challenge.RW_nofall_k40_no_offers
set_option genSizeOf false
set_option genSizeOfSpec false
set_option Elab.async false
set_option linter.all false
set_option maxRecDepth 100000
open PySem renaming wpAny_bind → Â,wpAny_pure → Ê,sizeLine_eq → ì,wpAny_holding → ö,mem_of_lookup → đ,wpAny_mono → ĩ,wpAny_truthy_bool → į,wpAny_field → Ĳ,wpAny_Call_Name_kw → ĸ,wpAny_newObj_type → Ŀ,wpAny_callSpecial?_slot → ŀ,wpAny_call_entry → Ŗ,wpAny_execs_nil → ţ
open List renaming length_map → Ã,getElem?_eq_getElem → È,replicate → Ë,size_toArray → Ï,length_append → Ð,mem_singleton → Ò,mem_of_getElem? → Ó,mem_cons_of_mem → Ô,mem_cons_self → Ö,mem_append → Ø,getElem?_eq_some_iff → Þ,getElem?_map → à,range → á,mem_cons → â,mem_append_right → å,length_cons → ç,append_nil → í,map_map → ï,getD_eq_getElem?_getD → ò,map_append → ó,getElem?_append_right → ù,map_cons → û,lookup_cons → ÿ,mem_map → Ă,all_eq_true → Ą,getElem?_set_self → ą,getElem?_append_left → ď,getElem?_set_ne → Ę,length_take → Ě,length_drop → ě,take_add_one → Ğ,mem_filter → ġ,take_length → Ĩ,filterMap_cons → Ĭ,mem_range → Ķ,getElem?_replicate → ĺ,replicate_succ → ľ,take_of_length_le → Ł,not_mem_nil → ń,length_singleton → ņ,length_replicate → Ň,toArray → Ŏ,map_congr_left → Ő,take → ś,flatten_cons → Š,mem_append_left → Ŧ,getElem_mem → Ū,drop → ū,length_pos_iff → ů,sum_cons → Ŷ,all_cons → ŷ,length_zip → Ÿ,mem_filterMap → Ź,filter_append → ź,pairwise_singleton → ż,getElem?_cons_succ → Ž
open PySem.Heap renaming get?_push_of_some → Æ,lt_size → Ç,get?_push_size → Õ,get?_update_other → æ,get?_update_self → ğ,size_update → ħ,size_push → Ĵ,get?_push_ne → Ş
open Bool renaming false_ne_true → É,and_eq_true → Î,eq_iff_iff → ę,false_eq_true → Ĥ,not_eq_true' → ī,and_false → ķ,true_and → Ŝ
open Nat renaming le_refl → Ì,lt_of_lt_of_le → Û,ne_of_lt → ß,zero_le → ä,le_trans → î,lt_irrefl → ø,lt_succ_of_lt → Ā,le_succ → Į,ne_of_gt → ł,lt_succ_self → Ŭ
open PySem.PyData renaming int → Í,list → Ċ,eqv → Ē,depthAll → ė,canLayAll0 → Ī,tuple → Ŋ
open PySem.W renaming Frag → Ñ,mg_of → ë,mg_none_of → Č,boot_heap → ŏ,kitOne → Ŕ,kia_one → š,mroIn → ű,kla_obj → Ų,kia_tup → ų,hideAll → Ŵ,boot_o_0 → ŵ
open PySem.Obj renaming mapSeq → Ù
open Option.some renaming inj → Ý
open False renaming elim → è
open PySem.Str renaming ofString → ð
open PySem.NameKind renaming free → ñ,cell → ā
open PySem.Challenge renaming pw_nofall_k40_no_offers → ô
open PySem.Value renaming ref → ü,none → ý,type → ć,int → ĕ,bool → ŕ
open Ne renaming symm → ă
open Array renaming length_toList → ċ,getElem?_eq_some_iff → Ť
open PyProof.Rows renaming slot_tuple_getitem → ē,callWith_type1 → ĵ
open ForInStep renaming yield → Ė
open PySem.F renaming plainAttrs_list → ģ,type_list_append → ŋ,slot_list_append → Ō
open PySem.Builtin.SmallTypes renaming ownedTupleIsFree → İ,nextOf → ő
open Int renaming toNat_natCast → Ļ,emod_lt_of_pos → ž
open Option renaming map_eq_some_iff → Ľ,isSome_iff_exists → Ů
open Or renaming inl → Ń
open PySem.PassesOwn renaming never → Ņ
open PySem.Builtin.List renaming listExtendWith → Œ,listTooLong → Ţ
open PySem.Builtin.Slice renaming slicePlaces → Ś
open PySem.Builtin.Tuple renaming tupleExact → ş
open True renaming intro → ť
open PySem.Builtin.Getset_descriptor renaming descrCheckInstance → Ż
noncomputable section
namespace L2
open PySem PySem.Spec PyProof.Rows
def zK{n:Nat}(h:Nat.ble n 1000=true:=by rfl):n<=1000:=Nat.le_of_ble_eq_true h
abbrev Key:=Sum Int Str
def Jd:Key->Value->Bool
 |.inl k,v=>Value.isInt k v
 |.inr x,v=>Value.isStrOf x v
def V7(w:World):Key->Int
 |.inl k=>hashInt k
 |.inr x=>hashStr w x
def aZ:∀{k:Key}{v:Value},Jd k v=true->(∃i t,k=Sum.inl i/\v=ĕ i t)\/(∃x t,k=Sum.inr x/\v=Value.str x t)
 |.inl i,v,h=>by
  obtain⟨t,e⟩:=Value.isInt_shape (k:=i) (v:=v) h
  exact .inl ⟨i,t,rfl,e⟩
 |.inr x,v,h=>by
  obtain⟨t,e⟩:=Value.isStrOf_shape (x:=x) (v:=v) h
  exact .inr ⟨x,t,rfl,e⟩
def Rm(a b:Int):decide ((Sum.inl a:Key)=Sum.inl b)=(a == b):=by
 by_cases e:a=b
 ·subst e;simp
 ·have h:¬(Sum.inl a:Key)=Sum.inl b:=λq=>e (Sum.inl.inj q)
  rw[decide_eq_false h]
  exact(beq_eq_false_iff_ne.mpr e).symm
def Ri(a b:Str):decide ((Sum.inr a:Key)=Sum.inr b)=decide (a=b):=by
 by_cases e:a=b
 ·subst e;simp
 ·have h:¬(Sum.inr a:Key)=Sum.inr b:=λq=>e (Sum.inr.inj q)
  rw[decide_eq_false h,decide_eq_false e]
def Rk(a:Int)(b:Str):decide ((Sum.inl a:Key)=Sum.inr b)=false:=decide_eq_false (λq=>nomatch q)
def Rj(a:Str)(b:Int):decide ((Sum.inr a:Key)=Sum.inl b)=false:=decide_eq_false (λq=>nomatch q)
def jl(prog:Program)(w:World):PySem.KeyKind prog w Key where
 is:=Jd
 hash:=V7 w
 inj:=λv a b ha hb=>by
  rcases aZ ha with ⟨i,t,rfl,rfl⟩|⟨x,t,rfl,rfl⟩
  ·rcases aZ hb with ⟨j,u,rfl,e⟩|⟨y,u,rfl,e⟩
   ·injection e with e1 _;rw[e1]
   ·exact nomatch e
  ·rcases aZ hb with ⟨j,u,rfl,e⟩|⟨y,u,rfl,e⟩
   ·exact nomatch e
   ·injection e with e1 _;rw[e1]
 byValue:=λk v h=>by
  rcases aZ h with ⟨i,t,rfl,rfl⟩|⟨x,t,rfl,rfl⟩ <;> rfl
 pyHash:=λhv h=>by
  rcases aZ hv with ⟨i,t,rfl,rfl⟩|⟨x,t,rfl,rfl⟩
  ·exact wpAny_pyHash_int h
  ·exact wpAny_pyHash_str h
 eqBool:=λhu hv h=>by
  rcases aZ hu with ⟨i,t,rfl,rfl⟩|⟨x,t,rfl,rfl⟩
  ·rcases aZ hv with ⟨j,u,rfl,rfl⟩|⟨y,u,rfl,rfl⟩
   ·rw[Rm] at h;exact wpAny_eqBool_int h
   ·rw[Rk] at h;exact SeqAt.EqAt.int_str i t y u _ _ _ _ h
  ·rcases aZ hv with ⟨j,u,rfl,rfl⟩|⟨y,u,rfl,rfl⟩
   ·rw[Rj] at h;exact SeqAt.EqAt.str_int x t j u _ _ _ _ h
   ·rw[Ri] at h;exact wpAny_eqBool_str h
 «strs»:=λk x t v h=>by
  rcases aZ h with ⟨i,u,rfl,e⟩|⟨y,u,rfl,e⟩
  ·exact nomatch e
  ·injection e with e1 _
   subst e1
   cases v <;> rfl
inductive V where
 |non|bl (b:Bool)|int (i:Int)|str (x:Str)|byt (b:Array UInt8)|flt (b:UInt64)|ref (a:Addr)|ty (n:String)
 deriving DecidableEq
def RelV:V->Value->Prop
 |.non,u=>u=ý
 |.bl b,u=>u=ŕ b
 |.int i,u=>∃t,u=ĕ i t
 |.str x,u=>∃t,u=Value.str x t
 |.byt b,u=>∃t,u=Value.bytes b t
 |.flt b,u=>∃t,u=Value.float b t
 |.ref a,u=>u=ü a
 |.ty n,u=>u=ć n
abbrev Vals:List V->List Value->Prop:=Paired RelV
def Vals.length{xs:List V}{us:List Value}(r:Vals xs us):xs.length=us.length:=Paired.length r
def Vals.get:∀{xs:List V}{us:List Value}{i:Nat}{x:V},Vals xs us->xs[i]?=some x->∃u,us[i]?=some u/\RelV x u
 |_,_,_,_,.nil,e=>by simp at e
 |_,_,0,_,.cons r _,e=>by simp at e;subst e;exact⟨_,rfl,r⟩
 |_,_,i+1,x,.cons _ t,e=>by
  obtain⟨u,h1,h2⟩:=Vals.get (i:=i) (x:=x) t (by simpa using e)
  exact⟨u,by simpa using h1,h2⟩
def Vals.set{x:V}{u:Value}(r:RelV x u):∀{xs:List V}{us:List Value} (i:Nat),Vals xs us->Vals (xs.set i x) (us.set i u)
 |_,_,_,.nil=>.nil
 |_,_,0,.cons _ t=>.cons r t
 |_,_,i+1,.cons q t=>.cons q (Vals.set r i t)
def Vals.append:∀{xs ys:List V}{us ws:List Value},Vals xs us->Vals ys ws->Vals (xs++ys) (us++ws)
 |_,_,_,_,.nil,s=>s
 |_,_,_,_,.cons r t,s=>.cons r (Vals.append t s)
def Vals.take:∀{xs:List V}{us:List Value} (n:Nat),Vals xs us->Vals (xs.take n) (us.take n)
 |_,_,0,_=>.nil
 |_,_,_+1,.nil=>.nil
 |_,_,n+1,.cons r t=>.cons r (Vals.take n t)
def Vals.drop:∀{xs:List V}{us:List Value} (n:Nat),Vals xs us->Vals (xs.drop n) (us.drop n)
 |_,_,0,r=>r
 |_,_,_+1,.nil=>.nil
 |_,_,n+1,.cons _ t=>Vals.drop n t
def R8:Option V->Option Value->Prop
 |some v,some u=>RelV v u
 |none,none=>True
 |_,_=>False
def KV{κ:Type}:List (κ×V)->List (κ×Value)->Prop:=Paired λ(p:κ×V) (q:κ×Value)=>p.1=q.1/\RelV p.2 q.2
def kV:Key->V
 |.inl i=>.int i
 |.inr x=>.str x
inductive HO where
 |lst (xs:List V)
 |tup (xs:List V)
 |dK (kvs:List (Key×V))|dT (kvs:List (List Key×V))
 |set (S:Int->Bool) (n:Nat)
 |ins (C dx:Addr) (fs:List (Str×V))
 |own (x:Addr)
 |xd (fs:List (Str×V))
 |met (f x:Addr)
 |rng (lo hi:Int)
 |frz (o:Obj) (u:HO)
 |tbl (ps:Array Value)
 |ext (φ:Heap->Prop)
abbrev Hp:=Addr->Option HO
def upd(H:Hp)(a:Addr)(o:HO):Hp:=λb=>if b=a then some o else H b
def ao{H:Hp}{a:Addr}{o:HO}:upd H a o a=some o:=by unfold upd;rw[if_pos rfl]
def ak{H:Hp}{a b:Addr}{o:HO}(h:b≠a):upd H a o b=H b:=by unfold upd;rw[if_neg h]
def aF{H:Hp}{a b:Addr}{o:HO}(h:H a=some o)(h':H b=none):a≠b:=by
 intro e;subst e;rw[h] at h';cases h'
section
variable (P:Program) (w:World)
def aU(H:Hp)(h:Heap)(a:Addr):HO->Prop
 |.lst xs=>xs.length<=sizeLine/\∃(its:List Value) (n:Nat),Vals xs its/\h.get? a=some { cls:=.type "list",data:=.seq its.toArray n }
 |.tup xs=>xs.length<=sizeLine/\∃its:List Value,Vals xs its/\IsTup h a its.toArray
 |.dK kvs=>kvs.length<=sizeLine/\(a == sysModules)=false/\∃vs,KV kvs vs/\h.DictOf (jl P w) a vs
 |.dT kvs=>kvs.length<=sizeLine/\(a == sysModules)=false/\∃xs:List (List Key×Addr×Value),
   Paired (λ(p:List Key×V) (q:List Key×Addr×Value)=>p.1=q.1/\H q.2.1=some (.tup (p.1.map kV))/\RelV p.2 q.2.2) kvs xs /\
   ∃o es ep,h.get? a=some o/\o.ExactDict/\o.data=.dict es ep/\es.toList=xs.map (entryOfKey (tupleKind (jl P w)))/\(xs.map (·.1)).Nodup
 |.set S n=>h.SetOf (intKind P w) a S n
 |.ins C dx fs=>H dx=some (.own a)/\fs.length<=1000/\dx≠a/\h.get? a=some (W.instObj C dx) /\
   ∃mA,h.Ns1 dx mA/\(∀f,R8 (fs.lookup f) (mA f))/\PySem.Within mA (fs.map (·.1))
 |.own _=>∃o,h.get? a=some o
 |.xd fs=>∃mA,h.Ns1 a mA/\∀f,R8 (fs.lookup f) (mA f)
 |.rng lo hi=>∃t u v,h.get? a=some { cls:=.type "range",data:=.fields #[.int lo t,.int hi u,.int 1 v] }
 |.frz o u=>h.get? a=some o/\aU H h a u
 |.tbl ps=>h.get? a=some { cls:=.none,data:=.fields ps }
 |.met f x=>h.get? a=some (W.methodObj (.ref f) (.ref x))
 |.ext φ=>φ h/\(∃o,h.get? a=some o)/\∀h1 h2:Heap,φ h1->(∀o,h1.get? a=some o->h2.get? a=some o)->φ h2
def HOk(H:Hp)(h:Heap):Prop:=∀a o,H a=some o->aU P w H h a o
end
section
variable {P:Program}{w:World}{H H':Hp}{h h':Heap}{a:Addr}{o:HO}
def aU.lt(x:aU P w H h a o):a<h.objs.size:=by
 cases o with
 |lst xs=>obtain⟨_,_,_,_,e⟩:=x;exact Ç e
 |tup xs=>obtain⟨_,_,_,p⟩:=x;exact p.lt
 |dK kvs=>obtain⟨_,_,_,_,o,_,_,e,_⟩:=x;exact Ç e
 |dT kvs=>obtain⟨_,_,_,_,o,_,_,e,_⟩:=x;exact Ç e
 |set S n=>obtain⟨o,_,_,_,e,_⟩:=x;exact Ç e
 |ins C dx fs=>obtain⟨_,_,_,e,_⟩:=x;exact Ç e
 |own y=>obtain⟨_,e⟩:=x;exact Ç e
 |xd fs=>obtain⟨_,⟨_,_,_,e,_⟩,_⟩:=x;exact Ç e
 |rng lo hi=>obtain⟨_,_,_,e⟩:=x;exact Ç e
 |frz ob u=>obtain⟨e,_⟩:=x;exact Ç e
 |tbl ps=>exact Ç (show h.get? a=some _ from x)
 |met f y=>exact Ç (show h.get? a=some _ from x)
 |ext φ=>obtain⟨_,⟨_,e⟩,_⟩:=x;exact Ç e
def Paired.Ii{α β:Type}{F G:α->β->Prop}:∀{l₁:List α}{l₂:List β},Paired F l₁ l₂->(∀a b,F a b->G a b)->Paired G l₁ l₂
 |_,_,.nil,_=>.nil
 |_,_,.cons r t,f=>.cons (f _ _ r) (Paired.Ii t f)
def aU.stay(x:aU P w H h a o)(k:∀b u,(b=a\/H b=some (.own a))->h.get? b=some u->h'.get? b=some u)(ho:∀b,H b=some (.own a)->H' b=some (.own a))(ht:∀b xs,H b=some (.tup xs)->H' b=some (.tup xs)):aU P w H' h' a o:=by
 induction o with
 |lst xs=>obtain⟨z,its,n,r,e⟩:=x;exact⟨z,its,n,r,k _ _ (.inl rfl) e⟩
 |tup xs=>obtain⟨z,its,r,ob,e,c⟩:=x;exact⟨z,its,r,ob,k _ _ (.inl rfl) e,c⟩
 |dK kvs=>obtain⟨z,y,vs,r,ob,es,ep,e,c⟩:=x;exact⟨z,y,vs,r,ob,es,ep,k _ _ (.inl rfl) e,c⟩
 |dT kvs =>
  obtain⟨z,y,xs,r,ob,es,ep,e,c⟩:=x
  exact⟨z,y,xs,Paired.Ii r λp q z=>⟨z.1,ht _ _ z.2.1,z.2.2⟩,ob,es,ep,k _ _ (.inl rfl) e,c⟩
 |set S n=>obtain⟨ob,es,ep,t,e,c⟩:=x;exact⟨ob,es,ep,t,k _ _ (.inl rfl) e,c⟩
 |ins C dx fs =>
  obtain⟨d,z,ne,e,mA,⟨od,es,ep,e2,c⟩,r⟩:=x
  exact⟨ho _ d,z,ne,k _ _ (.inl rfl) e,mA,⟨od,es,ep,k _ _ (.inr d) e2,c⟩,r⟩
 |own y=>obtain⟨ob,e⟩:=x;exact⟨ob,k _ _ (.inl rfl) e⟩
 |xd fs=>obtain⟨mA,⟨od,es,ep,e,c⟩,r⟩:=x;exact⟨mA,⟨od,es,ep,k _ _ (.inl rfl) e,c⟩,r⟩
 |rng lo hi=>obtain⟨t,u,v,e⟩:=x;exact⟨t,u,v,k _ _ (.inl rfl) e⟩
 |frz ob u ih=>obtain⟨e,q⟩:=x;exact⟨k _ _ (.inl rfl) e,ih q⟩
 |tbl ps =>
  have e:h.get? a=some { cls:=.none,data:=.fields ps }:=x
  show h'.get? a=some { cls:=.none,data:=.fields ps }
  exact k a _ (.inl rfl) e
 |met f y =>
  have e:h.get? a=some (W.methodObj (.ref f) (.ref y)):=x
  show h'.get? a=some (W.methodObj (.ref f) (.ref y))
  exact k a _ (.inl rfl) e
 |ext φ=>obtain⟨p,⟨o,e⟩,st⟩:=x;exact⟨st _ _ p λo q=>k _ _ (.inl rfl) q,⟨o,k _ _ (.inl rfl) e⟩,st⟩
def HOk.lt(x:HOk P w H h)(e:H a=some o):a<h.objs.size:=(x a o e).lt
def HOk.fresh(x:HOk P w H h)(e:h.objs.size<=a):H a=none:=by
 cases q:H a with
 |none=>rfl
 |some u=>exact absurd (Û (x.lt q) e) (ø _)
def HOk.kept(x:HOk P w H h)(k:∀b u,h.get? b=some u->h'.get? b=some u):HOk P w H h':=λa o e =>
 (x a o e).stay (λb u _ q=>k b u q) (λ_ q=>q) λ_ _ q=>q
def HOk.laid(x:HOk P w H h)(k:∀b u,h.get? b=some u->h'.get? b=some u)(hp:h.objs.size<=a)(new:aU P w (upd H a o) h' a o):HOk P w (upd H a o) h':=λb u e=>by
 have hn:=x.fresh hp
 by_cases hb:b=a
 ·subst hb;rw[ao] at e;cases e;exact new
 ·rw[ak hb] at e
  exact(x b u e).stay (λc v _ q=>k c v q) (λc q=>by rw[ak (aF q hn)];exact q) λc xs q=>by rw[ak (aF q hn)];exact q
end
def Rd(H:Hp)(a:Addr)(u:HO):Prop:=H a=some u\/∃o,H a=some (.frz o u)
def Rd.ok{P:Program}{w:World}{H:Hp}{h:Heap}{a:Addr}{u:HO}(r:Rd H a u)(x:HOk P w H h):aU P w H h a u:=by
 rcases r with r|⟨o,r⟩
 ·exact x a u r
 ·obtain⟨_,q⟩:=x a _ r
  exact q
def Mut:Option HO->Prop
 |some (.lst _)=>True
 |some (.dK _)=>True
 |some (.dT _)=>True
 |some (.set _ _)=>True
 |some (.ins _ _ _)=>True
 |some (.ext _)=>True
 |_=>False
section
variable {P:Program}{w:World}{H:Hp}{h h':Heap}{x e:Addr}{o':HO}
def HOk.write(ok:HOk P w H h)(mu:Mut (H x))(he:e=x\/H e=some (.own x))(k:∀b u,b≠e->h.get? b=some u->h'.get? b=some u)(heo:∃u,h'.get? e=some u)(new:aU P w (upd H x o') h' x o'):HOk P w (upd H x o') h':=λb u q=>by
 have nown:∀c y,H c=some (.own y)->c≠x:=λc y r z=>by subst z;rw[r] at mu;exact mu
 have ntup:∀c xs,H c=some (.tup xs)->c≠x:=λc xs r z=>by subst z;rw[r] at mu;exact mu
 by_cases hb:b=x
 ·subst hb;rw[ao] at q;cases q;exact new
 ·rw[ak hb] at q
  by_cases hbe:b=e
  ·have q':H b=some (.own x):=by
    rcases he with z|z
    ·exact absurd (hbe.trans z) hb
    ·rw[hbe];exact z
   rw[q] at q';cases q'
   obtain⟨v,hv⟩:=heo
   exact⟨v,by rw[hbe];exact hv⟩
  ·refine(ok b u q).stay (λc v hc r=>k c v ?_ r) (λc r=>by rw[ak (nown c b r)];exact r) λc xs r=>by rw[ak (ntup c xs r)];exact r
   rcases hc with rfl|hc
   ·exact hbe
   ·rintro rfl
    rcases he with z|z
    ·exact nown c b hc z
    ·rw[hc] at z;cases z;exact hb rfl
end
structure Un(fs ex:List Addr)(H H':Hp)(h h':Heap):Prop where
 keep:∀b o,h.get? b=some o->H b=none->b∉fs->b∉ex->h'.get? b=some o
 slot:∀b o,h.get? b=some o->H b=none->b∈fs->b∉ex->∃sl,h'.get? b=some { o with slots:=sl }
 free:∀b o,h.get? b=some o->H b=none->b∉ex->H' b=none
 there:∀b o,h.get? b=some o->b∉ex->∃o',h'.get? b=some o'
 tups:∀b xs,H b=some (.tup xs)->H' b=some (.tup xs)
 frzs:∀b o u,H b=some (.frz o u)->H' b=some (.frz o u)
 tbls:∀b ps,H b=some (.tbl ps)->∃more,H' b=some (.tbl (ps++more))
section
variable {fs fs' ex ex':List Addr}{H H1 H2:Hp}{h h1 h2 h':Heap}{a x e:Addr}{o:HO}
def Un.any(u:Un fs ex H H1 h h1){b:Addr}{ob:Obj}(q:h.get? b=some ob)(n:H b=none)(hx:b∉ex):∃sl,h1.get? b=some { ob with slots:=sl }:=by
 by_cases hb:b∈fs
 ·exact u.slot b ob q n hb hx
 ·exact⟨ob.slots,u.keep b ob q n hb hx⟩
def Un.kept(k:∀b u,h.get? b=some u->h'.get? b=some u):Un fs ex H H h h' :=
 ⟨λb ob q _ _ _=>k b ob q,λb ob q _ _ _=>⟨ob.slots,k b ob q⟩,λ_ _ _ n _=>n,λb ob q _=>⟨ob,k b ob q⟩,λ_ _ q=>q,λ_ _ _ q=>q,λ_ ps q=>⟨#[],by rw[q];simp⟩⟩
def Un.refl:Un fs ex H H h h:=Un.kept λ_ _ q=>q
def Un.laid(k:∀b u,h.get? b=some u->h'.get? b=some u)(hp:h.objs.size<=a)(hn:H a=none):Un fs ex H (upd H a o) h h' where
 keep:=λb u q _ _ _=>k b u q
 slot:=λb u q _ _ _=>⟨u.slots,k b u q⟩
 free:=λb u q n _=>by rw[ak (ß (Û (Ç q) hp))];exact n
 there:=λb u q _=>⟨u,k b u q⟩
 tups:=λb xs q=>by rw[ak (aF q hn)];exact q
 frzs:=λb u xs q=>by rw[ak (aF q hn)];exact q
 tbls:=λb ps q=>⟨#[],by rw[ak (aF q hn),q];simp⟩
def Un.write(mu:Mut (H x))(he:e=x\/H e=some (.own x))(k:∀b u,b≠e->h.get? b=some u->h'.get? b=some u)(heo:∃u,h'.get? e=some u):Un fs ex H (upd H x o) h h':=by
 have hx:∀b,H b=none->b≠x:=λb n z=>by subst z;rw[n] at mu;exact mu
 have hb:∀b,H b=none->b≠e:=λb n z=>by
  subst z
  rcases he with r|r
  ·exact hx b n r
  ·rw[n] at r;cases r
 have hm:∀b u,H b=some u->¬Mut (some u)->b≠x:=λb u q nm z=>by subst z;rw[q] at mu;exact nm mu
 refine⟨λb u q n _ _=>k b u (hb b n) q,λb u q n _ _=>⟨u.slots,k b u (hb b n) q⟩,λb u q n _=>by rw[ak (hx b n)];exact n,λb u q _=>?_,
  λb xs q=>by rw[ak (hm b _ q λz=>z)];exact q,λb u xs q=>by rw[ak (hm b _ q λz=>z)];exact q,λb ps q=>⟨#[],by rw[ak (hm b _ q λz=>z),q];simp⟩⟩
 by_cases hbe:b=e
 ·subst hbe;exact heo
 ·exact⟨u,k b u hbe q⟩
end
def trk(h:Heap)(H:Hp):List Addr:=(á h.objs.size).filter λa=>(H a).isSome
def vp(h:Heap)(H:Hp):Heap:=Ŵ h (trk h H)
def Eu(h:Heap)(H:Hp):(vp h H).objs.size=h.objs.size:=W.hideAll_size _ _
def qT{h:Heap}{H:Hp}{b:Addr}{o:Obj}(e:h.get? b=some o)(n:H b=none):(vp h H).get? b=some o :=
 W.hideAll_get _ e λhm=>by
  have q:(H b).isSome=true:=(ġ.mp hm).2
  rw[n] at q;simp at q
def Lr{h:Heap}{H:Hp}{b:Addr}{o:Obj}(e:(vp h H).get? b=some o):h.get? b=some o/\H b=none:=by
 have e':h.get? b=some o:=W.of_hideAll (trk h H) e
 refine⟨e',?_⟩
 cases q:H b with
 |none=>rfl
 |some x =>
  have hm:b∈trk h H:=ġ.mpr ⟨Ķ.mpr (Ç e'),by simp[q]⟩
  have z:(vp h H).get? b=none:=W.hideAll_none (trk h H) hm
  rw[z] at e;cases e
def vR(g h:Heap)(L:Addr):List (Addr×Obj):=(á h.objs.size).filterMap λa=>if a=L\/(g.get? a).isSome=true then none else (h.get? a).map λo=>(a,o)
def qH{g h:Heap}{L:Addr}{p:Addr×Obj}(hp:p∈vR g h L):p.1≠L/\g.get? p.1=none/\h.get? p.1=some p.2:=by
 obtain⟨b,_,e⟩:=Ź.mp hp
 split at e
 ·cases e
 ·rename_i hn
  cases q:h.get? b with
  |none=>rw[q] at e;simp at e
  |some u =>
   rw[q] at e
   simp only[Option.map_some,Option.some.injEq] at e
   subst e
   refine⟨λz=>hn (.inl z),?_,q⟩
   show g.get? b=none
   cases r:g.get? b with
   |none=>rfl
   |some v=>exact(hn (.inr (by simp[r]))).elim
def rest(g h:Heap)(L d:Addr):List (Addr×Obj):=(vR g h L).filter λp=>decide (p.1≠d)
def HY{g h:Heap}{L:Addr}:News g L h (vR g h L):=λp hp=>let ⟨a,b,c⟩:=qH hp;⟨c,a,b⟩
structure Mod(K:Ñ)(mg:Str->Option Value)(base:Heap):Prop where
 kin:K.In base
 glob:base.Ns mainGlobals mg
 blt:∃mb,base.Ns builtinsNs mb/\∀x:Str,x≠"__name__"->mb x=bootBuiltins x
 nolimit:base.NoLimit
structure Cx where
 prog:Program
 w:World
 K:Ñ
 mg:Str->Option Value
 base:Heap
 A:Around
 N:List Str
 s₀:Shared
 H₀:Hp
 env:Env
 outer:List Env
 stack:List Env
 ex:List Addr
 fn:Str->Bool
 calm:Bool
 pn:List (Addr×Obj)
 xe:Value->Shared->Prop
 sf:List (Addr×Obj×HO):=[]
def frs(l:List Env):List Addr:=l.filterMap (·.frame)
abbrev Cx.fs(X:Cx):List Addr:=frs X.outer
def Vis(sc:Scope)(x:Str):Prop:=sc.names.lookup x=some .local\/sc.names.lookup x=some .cell\/sc.names.lookup x=some .free
def Loc(sc:Scope)(x:Str):Prop:=sc.names.lookup x=some .local\/sc.names.lookup x=some .cell
def Look(env:Env)(h:Heap)(m:Str->Option Value)(x:Str)(u:Value):Prop :=
 (env.kindOf x=some .local/\m x=some u)\/((env.kindOf x=some .cell\/env.kindOf x=some .free)/\∃c,env.cells.lookup x=some c/\h.IsCell c (some u))
abbrev zS(X:Cx)(e:Expr)(es:List Expr):Prop:=starEach (e::es) X.env=(false,eval e X.env)::starEach es X.env
abbrev zP(X:Cx)(p:Pos)(es:List Expr):Prop:=(backTo p (starEach es X.env)).any (·.1)=false
abbrev zB(x:Str):Prop:=(x == ("__debug__":Str))=false
abbrev zF(X:Cx)(e:Expr):Prop:=∀x,foldedSetIterable e X.env x=pure x
abbrev zL(X:Cx)(x:Str):Prop:=X.fn x=true\/X.env.scope.names.lookup x=some .local
abbrev zW(X:Cx)(p:Pos)(es:List Expr):Prop:=((backTo p (starEach es X.env)).all (λx=>!x.1)&&(backToKw p (keywordEach [] X.env)).all (λx=>x.1.isSome)&&decide (es.length+([]:List Keyword).length+(if ([]:List Keyword).isEmpty then 0 else 1)<30))=true
def zQ{sc:Scope}{x:Str}(h:(sc.names.lookup x == some .local||sc.names.lookup x == some .cell)=true:=by rfl):Loc sc x:=(Bool.or_eq_true_iff.mp h).imp (λz=>eq_of_beq z) λz=>eq_of_beq z
structure Cx.Ok(X:Cx):Prop where
 mod:Mod X.K X.mg X.base
 kind:X.env.scope.kind=.function
 glob:X.env.globals=mainGlobals
 blt:X.env.builtins=builtinsNs
 above:X.s₀.heap.objs.size<=X.env.locals
 inj:∀x y c,X.env.cells.lookup x=some c->X.env.cells.lookup y=some c->x=y
 has:∀x,(X.env.kindOf x=some .cell\/X.env.kindOf x=some .free)->∃c,X.env.cells.lookup x=some c
 cab:∀x c,X.fn x=true->X.env.cells.lookup x=some c->X.s₀.heap.objs.size<=c
 hd:X.calm=true->X.A.handled=none
 frames:X.A.frames=some X.stack
 stk:X.stack=X.outer\/(X.stack=X.env::X.outer/\X.env.frame=some X.env.locals)
 exf:∀b∈X.ex,b≠X.env.locals/\∀x c,X.env.cells.lookup x=some c->c≠b
 bs:∀b o,X.base.get? b=some o->X.s₀.heap.get? b=some o/\X.H₀ b=none
 bsz:X.base.objs.size<=X.s₀.heap.objs.size
 noex:∀b o,X.base.get? b=some o->b∉X.ex
 exfs:∀b∈X.ex,b∉X.fs
 gY:X.s₀.heap.FunFrames X.base X.outer
 frf:∀b∈X.fs,X.H₀ b=none
 sof:∀q∈X.sf,X.A.handled=some (.ref q.1)/\X.H₀ q.1=some (.frz q.2.1 q.2.2)/\∃ws,q.2.1.data=.fields ws/\ws[2]?=some .none
structure Inv(X:Cx)(pins:List (Addr×Obj))(σ:List (Option V))(H:Hp)(s:Shared):Prop where
 ok:X.Ok
 os:s.os=X.s₀.os
 bare:AllBare s.gens
 base:Un X.fs X.ex X.H₀ H X.s₀.heap s.heap
 loc:∃m,s.heap.Ns X.env.locals m/\∀(i:Nat) (x:Str) (v:V),X.N[i]?=some x->σ[i]?=some (some v)->Vis X.env.scope x->∃u,RelV v u/\Look X.env s.heap m x u
 cell:∀x c,X.env.cells.lookup x=some c->∃v,s.heap.IsCell c v
 free:H X.env.locals=none
 freeC:∀x c,X.env.cells.lookup x=some c->H c=none
 pin:∀p∈X.pn++pins,s.heap.get? p.1=some p.2/\H p.1=none/\p.1≠X.env.locals/\p.1∉X.fs/\∀v,p.2.data≠.cell v
 hok:HOk X.prog X.w H s.heap
 len:σ.length=X.N.length
section
variable {X:Cx}{pins:List (Addr×Obj)}{σ:List (Option V)}{H H':Hp}{s:Shared}{h':Heap}
def Cx.Ok.VR(ok:X.Ok){b:Addr}{o:Obj}(e:X.base.get? b=some o):b∉X.fs:=λhb=>by
 have:=(ok.gY.mem hb).1
 rw[e] at this;cases this
def Inv.bs(I:Inv X pins σ H s):∀b o,X.base.get? b=some o->s.heap.get? b=some o/\H b=none:=λb o e =>
 ⟨I.base.keep b o (I.ok.bs b o e).1 (I.ok.bs b o e).2 (I.ok.VR e) (I.ok.noex b o e),I.base.free b o (I.ok.bs b o e).1 (I.ok.bs b o e).2 (I.ok.noex b o e)⟩
def Inv.bk(I:Inv X pins σ H s):∀b o,X.base.get? b=some o->s.heap.get? b=some o:=λb o e=>(I.bs b o e).1
def Inv.mod(I:Inv X pins σ H s):Mod X.K X.mg X.base:=I.ok.mod
def Inv.kIn(I:Inv X pins σ H s):X.K.In s.heap:=I.ok.mod.kin.keeps I.bk
def Inv.fr(I:Inv X pins σ H s):∃m,Fr X.base X.env.locals s.heap m :=
 let ⟨m,hn,_⟩:=I.loc
 ⟨m,hn,I.bk,î I.ok.bsz I.ok.above⟩
def Inv.lt(I:Inv X pins σ H s):X.env.locals<s.heap.objs.size:=let ⟨_,hn,_⟩:=I.loc;hn.lt
def Inv.sz(I:Inv X pins σ H s):X.s₀.heap.objs.size<=s.heap.objs.size:=î I.ok.above (Nat.le_of_lt I.lt)
def Inv.VP(I:Inv X pins σ H s){a:Addr}(h:s.heap.objs.size<=a):a∉X.fs:=λhb=>by
 obtain⟨_,o,ho,_⟩:=I.ok.gY.mem hb
 exact absurd (Û (Ç ho) (î I.sz h)) (ø _)
def Inv.cne(I:Inv X pins σ H s):∀x c,X.env.cells.lookup x=some c->c≠X.env.locals:=λx c e z=>by
 obtain⟨v,o,ho,hd⟩:=I.cell x c e
 obtain⟨m,⟨o',es,ep,ho',hd',_⟩,_⟩:=I.loc
 rw[z,ho'] at ho;cases ho;rw[hd'] at hd;cases hd
def Inv.gY(I:Inv X pins σ H s):s.heap.FunFrames X.base X.outer:=by
 have all:∀(l:List Env),(∀b∈frs l,b∈X.fs)->X.s₀.heap.FunFrames X.base l->s.heap.FunFrames X.base l:=by
  intro l
  induction l with
  |nil=>intro _ _;trivial
  |cons env r ih =>
   intro hs hl
   obtain⟨hk,⟨L,o,hf,hn,ho,hd⟩,hr⟩:=hl
   have hL:L∈X.fs:=hs L (by unfold frs;rw[Ĭ,hf];exact Ö)
   obtain⟨sl,e⟩:=I.base.slot L o ho (I.ok.frf L hL) hL λz=>I.ok.exfs L z hL
   exact⟨hk,⟨L,_,hf,hn,e,hd⟩,ih (λb hb=>hs b (by unfold frs;rw[Ĭ,hf];exact Ô _ hb)) hr⟩
 exact all X.outer (λ_ hb=>hb) I.ok.gY
def Inv.stack(I:Inv X pins σ H s):s.heap.FunFrames X.base X.stack:=by
 rcases I.ok.stk with e|⟨e,hf⟩
 ·rw[e];exact I.gY
 ·rw[e]
  obtain⟨m,hn,_⟩:=I.loc
  refine .cons (by rw[I.ok.kind];decide) hf hn ?_ I.gY
  exact Heap.get?_none_of_le (î I.ok.bsz I.ok.above)
def Inv.pK(I:Inv X pins σ H s):∀b∈frs X.stack,b∈X.env.locals::X.fs:=λb hb=>by
 rcases I.ok.stk with e|⟨e,hf⟩
 ·rw[e] at hb;exact Ô _ hb
 ·rw[e] at hb
  unfold frs at hb
  rw[Ĭ,hf] at hb
  exact hb
def Inv.ur(I:Inv X pins σ H s):∀b∈frs X.stack,H b=none:=λb hb=>by
 rcases â.mp (I.pK b hb) with e|hb
 ·rw[e];exact I.free
 ·obtain⟨_,o,ho,_⟩:=I.ok.gY.mem hb
  exact I.base.free b o ho (I.ok.frf b hb) λz=>I.ok.exfs b z hb
def Inv.step{g':Array GenState}{t':Nat}{d':Drawn}{ch:List Addr}(I:Inv X pins σ H s)(hch:∀b∈ch,(b∈X.ex\/X.s₀.heap.objs.size<=b)/\b≠X.env.locals/\(∀x c,X.env.cells.lookup x=some c->c≠b)/\∀p∈X.pn++pins,p.1≠b)(keep:∀b o,b≠X.env.locals->b∉X.fs->b∉ch->s.heap.get? b=some o->H b=none->h'.get? b=some o)(slot:∀b o,b≠X.env.locals->b∈X.fs->b∉ch->s.heap.get? b=some o->H b=none->∃sl,h'.get? b=some { o with slots:=sl })(free:∀b o,b∉ch->s.heap.get? b=some o->H b=none->H' b=none)(there:∀b o,b∉ch->s.heap.get? b=some o->∃o',h'.get? b=some o')(tups:∀b xs,H b=some (.tup xs)->H' b=some (.tup xs))(frzs:∀b o u,H b=some (.frz o u)->H' b=some (.frz o u))(tbls:∀b ps,H b=some (.tbl ps)->∃more,H' b=some (.tbl (ps++more)))(ns:∀m,s.heap.Ns X.env.locals m->h'.Ns X.env.locals m)(hok:HOk X.prog X.w H' h')(hg:AllBare g') :
  Inv X pins σ H' { s with heap:=h',gens:=g',drawn:=d',toks:=t' }:=by
 have neL:∀b o,X.s₀.heap.get? b=some o->b≠X.env.locals:=λb o e=>ß (Û (Ç e) I.ok.above)
 have neC:∀b o,X.s₀.heap.get? b=some o->b∉X.ex->b∉ch:=λb o e hx hb=>by
  rcases(hch b hb).1 with z|z
  ·exact hx z
  ·exact absurd (Û (Ç e) z) (ø _)
 have cellK:∀x c,X.env.cells.lookup x=some c->∀v,s.heap.IsCell c v->h'.IsCell c v:=λx c e v ⟨o,ho,hd⟩=>by
  have nch:c∉ch:=λz=>(hch c z).2.2.1 x c e rfl
  by_cases hc:c∈X.fs
  ·obtain⟨sl,q⟩:=slot c o (I.cne x c e) hc nch ho (I.freeC x c e)
   exact⟨_,q,hd⟩
  ·exact⟨o,keep c o (I.cne x c e) hc nch ho (I.freeC x c e),hd⟩
 refine⟨I.ok,I.os,hg,⟨λb o e n hb hx=>?_,λb o e n hb hx=>?_,λb o e n hx=>?_,λb o e hx=>?_,λb xs e=>tups b xs (I.base.tups b xs e),λb o xs e=>frzs b o xs (I.base.frzs b o xs e),λb ps e=>?_⟩,?_,λx c e=>?_,?_,λx c e=>?_,λp hp=>?_,hok,I.len⟩
 ·exact keep b o (neL b o e) hb (neC b o e hx) (I.base.keep b o e n hb hx) (I.base.free b o e n hx)
 ·obtain⟨sl,e1⟩:=I.base.slot b o e n hb hx
  obtain⟨sl',e2⟩:=slot b _ (neL b o e) hb (neC b o e hx) e1 (I.base.free b o e n hx)
  exact⟨sl',e2⟩
 ·obtain⟨o',e1⟩:=I.base.there b o e hx
  exact free b o' (neC b o e hx) e1 (I.base.free b o e n hx)
 ·obtain⟨o',e1⟩:=I.base.there b o e hx
  exact there b o' (neC b o e hx) e1
 ·obtain⟨m1,e1⟩:=I.base.tbls b ps e
  obtain⟨m2,e2⟩:=tbls b _ e1
  exact⟨m1++m2,by rw[e2,Array.append_assoc]⟩
 ·obtain⟨m,hn,hl⟩:=I.loc
  refine⟨m,ns m hn,λi x v e1 e2 e3=>?_⟩
  obtain⟨u,r,l⟩:=hl i x v e1 e2 e3
  refine⟨u,r,?_⟩
  rcases l with l|⟨k,c,e,z⟩
  ·exact .inl l
  ·exact .inr ⟨k,c,e,cellK x c e _ z⟩
 ·obtain⟨v,z⟩:=I.cell x c e
  exact⟨v,cellK x c e v z⟩
 ·obtain⟨m,⟨o,_,_,ho,_⟩,_⟩:=I.loc
  exact free _ o (λz=>(hch _ z).2.1 rfl) ho I.free
 ·obtain⟨v,o,ho,hd⟩:=I.cell x c e
  exact free c o (λz=>(hch c z).2.2.1 x c e rfl) ho (I.freeC x c e)
 ·obtain⟨e,n,ne,nf,d⟩:=I.pin p hp
  have nch:p.1∉ch:=λz=>(hch p.1 z).2.2.2 p hp rfl
  exact⟨keep p.1 p.2 ne nf nch e n,free p.1 p.2 nch e n,ne,nf,d⟩
def Inv.un{t':Nat}(I:Inv X pins σ H s)(u:Un X.fs [] H H' s.heap h')(hok:HOk X.prog X.w H' h'):Inv X pins σ H' { s with heap:=h',toks:=t' }:=by
 obtain⟨m,⟨o,es,ep,ho,r⟩,_⟩:=id I.loc
 obtain⟨sl,hL⟩:=u.any ho I.free (by simp)
 exact I.step (g':=s.gens) (d':=s.drawn) (ch:=[]) (λ_ z=>nomatch z) (λb o _ hb _ e n=>u.keep b o e n hb (by simp)) (λb o _ hb _ e n=>u.slot b o e n hb (by simp)) (λb o _ e n=>u.free b o e n (by simp)) (λb o _ e=>u.there b o e (by simp)) u.tups u.frzs u.tbls (λm' hm=>by
  obtain⟨o',es',ep',ho',r'⟩:=hm
  rw[ho] at ho';cases ho'
  exact⟨_,es',ep',hL,r'⟩) hok I.bare
def Inv.call{g':Array GenState}{t':Nat}{d':Drawn}{ch:List Addr}(I:Inv X pins σ H s)(u:Un (frs X.stack) ch H H' s.heap h')(hok:HOk X.prog X.w H' h')(hg:AllBare g')(hch:∀b∈ch,(b∈X.ex\/X.s₀.heap.objs.size<=b)/\b≠X.env.locals/\(∀x c,X.env.cells.lookup x=some c->c≠b)/\∀p∈X.pn++pins,p.1≠b) :
  Inv X pins σ H' { s with heap:=h',gens:=g',drawn:=d',toks:=t' }:=by
 obtain⟨m,⟨o,es,ep,ho,r⟩,_⟩:=id I.loc
 obtain⟨sl,hL⟩:=u.any ho I.free λz=>(hch _ z).2.1 rfl
 exact I.step (ch:=ch) hch (λb o hL hb hc e n=>u.keep b o e n (λz=>(â.mp (I.pK b z)).elim hL hb) hc) (λb o _ _ hc e n=>u.any e n hc) (λb o hc e n=>u.free b o e n hc) (λb o hc e=>u.there b o e hc) u.tups u.frzs u.tbls (λm' hm=>by
  obtain⟨o',es',ep',ho',r'⟩:=hm
  rw[ho] at ho';cases ho'
  exact⟨_,es',ep',hL,r'⟩) hok hg
def Inv.turned{t':Nat}{it:Addr}(I:Inv X pins σ H s)(k:∀b o,b≠it->s.heap.get? b=some o->h'.get? b=some o)(hn:H it=none)(hL:it≠X.env.locals)(h1:it∈X.ex\/X.s₀.heap.objs.size<=it)(h2:∀x c,X.env.cells.lookup x=some c->c≠it)(h3:∀p∈X.pn++pins,p.1≠it):Inv X pins σ H { s with heap:=h',toks:=t' }:=by
 have nit:∀b u,H b=some u->b≠it:=λb u e z=>by rw[z,hn] at e;cases e
 refine I.step (g':=s.gens) (d':=s.drawn) (ch:=[it]) (λb hb=>?_) (λb o _ _ hc e _=>k b o (λz=>hc (by simp[z])) e) (λb o _ _ hc e _=>⟨o.slots,k b o (λz=>hc (by simp[z])) e⟩) (λ_ _ _ _ n=>n)
  (λb o hc e=>⟨o,k b o (λz=>hc (by simp[z])) e⟩) (λ_ _ e=>e) (λ_ _ _ e=>e) (λb ps e=>⟨#[],by rw[e];simp⟩) (λm hm=>?_) (λb u e=>?_) I.bare
 ·have e:b=it:=by simpa using hb
  subst e
  exact⟨h1,hL,h2,h3⟩
 ·obtain⟨o,es,ep,ho,r⟩:=hm
  exact⟨o,es,ep,k _ o (ă hL) ho,r⟩
 ·refine(I.hok b u e).stay (λc v hc q=>k c v ?_ q) (λ_ q=>q) λ_ _ q=>q
  rcases hc with z|z
  ·rw[z];exact nit b u e
  ·exact nit c _ z
def Inv.tok(I:Inv X pins σ H s)(t:Nat):Inv X pins σ H { s with toks:=t }:=I.un (h':=s.heap) (t':=t) Un.refl I.hok
def Inv.kept{t':Nat}(I:Inv X pins σ H s)(k:∀b u,s.heap.get? b=some u->h'.get? b=some u):Inv X pins σ H { s with heap:=h',toks:=t' }:=I.un (Un.kept k) (I.hok.kept k)
def Inv.laid{a:Addr}{o:HO}{t':Nat}(I:Inv X pins σ H s)(k:∀b u,s.heap.get? b=some u->h'.get? b=some u)(hp:s.heap.objs.size<=a)(new:aU X.prog X.w (upd H a o) h' a o) :
  Inv X pins σ (upd H a o) { s with heap:=h',toks:=t' }:=I.un (Un.laid k hp (I.hok.fresh hp)) (I.hok.laid k hp new)
def Inv.write{x e:Addr}{o:HO}{t':Nat}(I:Inv X pins σ H s)(mu:Mut (H x))(he:e=x\/H e=some (.own x))(k:∀b u,b≠e->s.heap.get? b=some u->h'.get? b=some u)(heo:∃u,h'.get? e=some u)(new:aU X.prog X.w (upd H x o) h' x o):Inv X pins σ (upd H x o) { s with heap:=h',toks:=t' }:=I.un (Un.write mu he k heo) (I.hok.write mu he k heo new)
def Inv.oV{pins':List (Addr×Obj)}(I:Inv X pins σ H s)(h:∀p∈pins',s.heap.get? p.1=some p.2/\H p.1=none/\p.1≠X.env.locals/\p.1∉X.fs/\∀v,p.2.data≠.cell v):Inv X pins' σ H s :=
 ⟨I.ok,I.os,I.bare,I.base,I.loc,I.cell,I.free,I.freeC,λp hp=>(Ø.mp hp).elim (λz=>I.pin p (Ŧ _ z)) (h p),I.hok,I.len⟩
def qK{N:List Str}(hN:N.Nodup){i j:Nat}{x:Str}(a:N[i]?=some x)(b:N[j]?=some x):i=j:=by
 obtain⟨h1,e1⟩:=Þ.mp a
 obtain⟨h2,e2⟩:=Þ.mp b
 exact(List.getElem_inj hN).mp (e1.trans e2.symm)
def sy{M:Model}{A:Around}{E:Value->Shared->Prop}{i:Nat}{x:Str}{v:V}{u:Value}{Q:Unit->Shared->Prop}(I:Inv X pins σ H s)(hU:∀j,X.N[j]?=some x->j=i)(hi:X.N[i]?=some x)(hx:Loc X.env.scope x)(r:RelV v u)(h:∀s',Inv X pins (σ.set i (some v)) H s'->(∃a,Heap.SameBut a s.heap s'.heap/\(a=X.env.locals\/X.env.cells.lookup x=some a))->Q () s')(hf:X.fn x=true\/X.env.scope.names.lookup x=some .local:=by first|exact .inl rfl|exact .inr rfl|assumption):wpAny M A (storeName X.env x u) Q E s:=by
 obtain⟨m,hn,hl⟩:=id I.loc
 have hcls:(X.env.scope.kind == .class || (X.env.scope.kind == .module&&X.env.locals != X.env.globals))=false:=by rw[I.ok.kind];rfl
 have hiσ:i<σ.length:=by rw[I.len];exact(Þ.mp hi).1
 have cne:=I.cne
 have tracked:∀{a:Addr}{h':Heap},(∃o,s.heap.get? a=some o/\H a=none)->Heap.SameBut a s.heap h'->HOk X.prog X.w H h':=λ{a h'} ha hs b ob e=>by
  obtain⟨_,_,hfree⟩:=ha
  refine(I.hok b ob e).stay (λc w' hc q=>(hs.2 c ?_).trans q) (λ_ q=>q) λ_ _ q=>q
  rintro rfl
  rcases hc with rfl|hc
  ·rw[hfree] at e;cases e
  ·rw[hfree] at hc;cases hc
 rcases hx with hk|hk
 ·refine wpAny_storeName_local hk hn (λh' hn' hs=>?_) hcls
  obtain⟨oL,_,_,hoL,_⟩:=id hn
  refine h _ ⟨I.ok,I.os,I.bare,⟨λb o e n hb hx=>?_,λb o e n hb hx=>?_,I.base.free,λb o e hx=>?_,I.base.tups,I.base.frzs,I.base.tbls⟩,⟨_,hn',λj y v' e1 e2 e3=>?_⟩,λy c e=>?_,I.free,I.freeC,λp hp=>?_,tracked ⟨oL,hoL,I.free⟩ hs,by simpa using I.len⟩ ⟨_,hs,.inl rfl⟩
  ·exact(hs.2 b (ß (Û (Ç e) I.ok.above))).trans (I.base.keep b o e n hb hx)
  ·obtain⟨sl,e1⟩:=I.base.slot b o e n hb hx
   exact⟨sl,(hs.2 b (ß (Û (Ç e) I.ok.above))).trans e1⟩
  ·obtain⟨o',e1⟩:=I.base.there b o e hx
   exact⟨o',(hs.2 b (ß (Û (Ç e) I.ok.above))).trans e1⟩
  ·by_cases hj:j=i
   ·subst hj
    rw[hi] at e1;cases e1
    rw[ą hiσ] at e2
    cases e2
    exact⟨u,r,.inl ⟨hk,by simp⟩⟩
   ·rw[Ę (ă hj)] at e2
    obtain⟨u',r',q⟩:=hl j y v' e1 e2 e3
    refine⟨u',r',?_⟩
    rcases q with ⟨k,e⟩|⟨k,c,e,z⟩
    ·refine .inl ⟨k,?_⟩
     have:y≠x:=λe=>hj (hU _ (e ▸ e1))
     simp[this,e]
    ·exact .inr ⟨k,c,e,z.sameBut hs (cne y c e)⟩
  ·obtain⟨w',z⟩:=I.cell y c e
   exact⟨w',z.sameBut hs (cne y c e)⟩
  ·obtain⟨e,n,ne,nf,d⟩:=I.pin p hp
   exact⟨(hs.2 p.1 ne).trans e,n,ne,nf,d⟩
 ·have hfn:X.fn x=true:=by
   rcases hf with z|z
   ·exact z
   ·rw[z] at hk;cases hk
  obtain⟨c,hc⟩:=I.ok.has x (.inl hk)
  obtain⟨w',z⟩:=I.cell x c hc
  refine wpAny_storeName_cell I.ok.kind hk hc z (λh' hc' hs=>?_)
  obtain⟨oc,hoc,hocd⟩:=id z
  refine h { s with heap:=h' } ⟨I.ok,I.os,I.bare,⟨λb o e n hb hx=>?_,λb o e n hb hx=>?_,I.base.free,λb o e hx=>?_,I.base.tups,I.base.frzs,I.base.tbls⟩,⟨m,hn.sameBut hs (ă (cne x c hc)),λj y v' e1 e2 e3=>?_⟩,λy c' e=>?_,I.free,I.freeC,λp hp=>?_,tracked ⟨oc,hoc,I.freeC x c hc⟩ hs,by simpa using I.len⟩ ⟨c,hs,.inr hc⟩
  ·exact(hs.2 b (ß (Û (Ç e) (I.ok.cab x c hfn hc)))).trans (I.base.keep b o e n hb hx)
  ·obtain⟨sl,e1⟩:=I.base.slot b o e n hb hx
   exact⟨sl,(hs.2 b (ß (Û (Ç e) (I.ok.cab x c hfn hc)))).trans e1⟩
  ·obtain⟨o',e1⟩:=I.base.there b o e hx
   exact⟨o',(hs.2 b (ß (Û (Ç e) (I.ok.cab x c hfn hc)))).trans e1⟩
  ·by_cases hj:j=i
   ·subst hj
    rw[hi] at e1;cases e1
    rw[ą hiσ] at e2
    cases e2
    exact⟨u,r,.inr ⟨.inl hk,c,hc,hc'⟩⟩
   ·rw[Ę (ă hj)] at e2
    obtain⟨u',r',q⟩:=hl j y v' e1 e2 e3
    refine⟨u',r',?_⟩
    rcases q with q|⟨k,c',e,z'⟩
    ·exact .inl q
    ·refine .inr ⟨k,c',e,z'.sameBut hs ?_⟩
     rintro rfl
     exact hj (hU _ (I.ok.inj _ _ _ e hc ▸ e1))
  ·by_cases hcc:c'=c
   ·subst hcc;exact⟨_,hc'⟩
   ·obtain⟨w2,z2⟩:=I.cell y c' e
    exact⟨w2,z2.sameBut hs hcc⟩
  ·obtain⟨e,n,ne,nf,d⟩:=I.pin p hp
   refine⟨(hs.2 p.1 ?_).trans e,n,ne,nf,d⟩
   intro q
   rw[q,hoc] at e
   have q':oc=p.2:=Ý e
   exact d w' (by rw[←q'];exact hocd)
def pJ{M:Model}{A:Around}{E:Value->Shared->Prop}{i:Nat}{x:Str}{v:V}{u:Value}{Q:Unit->Shared->Prop}(I:Inv X pins σ H s)(hN:X.N.Nodup)(hi:X.N[i]?=some x)(hx:Loc X.env.scope x)(r:RelV v u)(h:∀s',Inv X pins (σ.set i (some v)) H s'->Q () s')(hf:X.fn x=true\/X.env.scope.names.lookup x=some .local:=by first|exact .inl rfl|exact .inr rfl|assumption):wpAny M A (storeName X.env x u) Q E s :=
 sy I (λj h=>qK hN h hi) hi hx r (λs' I' _=>h s' I') hf
def Inv.call'{s':Shared}{ch:List Addr}(I:Inv X pins σ H s)(ho:s'.os=s.os)(u:Un (frs X.stack) ch H H' s.heap s'.heap)(hok:HOk X.prog X.w H' s'.heap)(hg:AllBare s'.gens)(hch:∀b∈ch,(b∈X.ex\/X.s₀.heap.objs.size<=b)/\b≠X.env.locals/\(∀x c,X.env.cells.lookup x=some c->c≠b)/\∀p∈X.pn++pins,p.1≠b):Inv X pins σ H' s':=by
 obtain⟨h',g',d',t',o'⟩:=s'
 have e:o'=s.os:=ho
 subst e
 exact I.call (g':=g') (t':=t') (d':=d') u hok hg hch
end
abbrev XK:=Value->Option Addr->Hp->Prop
abbrev St:=List (Option V)
abbrev VK:=V->Hp->Prop
abbrev TE:=St->Hp->VK->Prop
abbrev TT:=St->Hp->(Bool->Hp->Prop)->Prop
abbrev TA:=St->Hp->(List V->Hp->Prop)->Prop
structure Ends where
 nx:St->Hp->Prop
 rt:VK
 bk:St->Hp->Prop:=λ_ _=>False
 ct:St->Hp->Prop:=λ_ _=>False
abbrev TS:=Ends->St->Hp->Prop
def EP(X:Cx)(pins:List (Addr×Obj))(σ:St)(Q:VK)(u:Value)(s':Shared):Prop:=∃v H',Inv X pins σ H' s'/\RelV v u/\Q v H'
def TP(X:Cx)(pins:List (Addr×Obj))(σ:St)(Q:Bool->Hp->Prop)(b:Bool)(s':Shared):Prop:=∃H',Inv X pins σ H' s'/\Q b H'
def AP(X:Cx)(pins:List (Addr×Obj))(σ:St)(Q:List V->Hp->Prop)(us:List Value)(s':Shared):Prop:=∃vs H',Inv X pins σ H' s'/\Vals vs us/\Q vs H'
def SP(X:Cx)(pins:List (Addr×Obj))(D:Ends)(f:Flow)(s':Shared):Prop :=
 match f with
 |.next=>∃σ' H',Inv X pins σ' H' s'/\D.nx σ' H'
 |.brk=>∃σ' H',Inv X pins σ' H' s'/\D.bk σ' H'
 |.cont=>∃σ' H',Inv X pins σ' H' s'/\D.ct σ' H'
 |.ret u=>∃v σ' H',Inv X pins σ' H' s'/\RelV v u/\D.rt v H'
def PE(X:Cx)(e:Expr)(t:TE):Prop :=
 ∀(pins:List (Addr×Obj)) (s:Shared) (σ:St) (H:Hp) (Q:VK),Inv X pins σ H s->t σ H Q->wpAny (model X.prog X.w) X.A (eval e X.env) (EP X pins σ Q) X.xe s
def PT(X:Cx)(e:Expr)(t:TT):Prop :=
 ∀(pins:List (Addr×Obj)) (s:Shared) (σ:St) (H:Hp) (Q:Bool->Hp->Prop),Inv X pins σ H s->t σ H Q->wpAny (model X.prog X.w) X.A (isTrue e X.env (eval e X.env)) (TP X pins σ Q) X.xe s
def PW(X:Cx)(e:Expr)(t:TT):Prop :=
 ∀(whole:Sem Value) (pins:List (Addr×Obj)) (s:Shared) (σ:St) (H:Hp) (Q:Bool->Hp->Prop),Inv X pins σ H s->t σ H Q->wpAny (model X.prog X.w) X.A (isTrue e X.env whole) (TP X pins σ Q) X.xe s
def PW.pt{X:Cx}{e:Expr}{t:TT}(h:PW X e t):PT X e t:=h _
def PA(X:Cx)(es:List Expr)(t:TA):Prop :=
 ∀(pos:Pos) (pins:List (Addr×Obj)) (s:Shared) (σ:St) (H:Hp) (Q:List V->Hp->Prop),Inv X pins σ H s->t σ H Q->wpAny (model X.prog X.w) X.A (spliced (backTo pos (starEach es X.env))) (AP X pins σ Q) X.xe s
def PS(X:Cx)(st:Stmt)(t:TS):Prop :=
 ∀(pins:List (Addr×Obj)) (s:Shared) (σ:St) (H:Hp) (D:Ends),Inv X pins σ H s->t D σ H->wpAny (model X.prog X.w) X.A (exec st X.env) (SP X pins D) X.xe s
def PSs(X:Cx)(st:List Stmt)(t:TS):Prop :=
 ∀(pins:List (Addr×Obj)) (s:Shared) (σ:St) (H:Hp) (D:Ends),Inv X pins σ H s->t D σ H->wpAny (model X.prog X.w) X.A (execs st X.env) (SP X pins D) X.xe s
def thn{α:Type}{t:Sem α}{Q Q':α->Shared->Prop}{M:Model}{A:Around}{E:Value->Shared->Prop}{s:Shared}(h:wpAny M A t Q E s)(hQ:∀a s,Q a s->Q' a s):wpAny M A t Q' E s:=ĩ h hQ λ_ _ x=>x
section
variable {X:Cx}
def bin{a b:Expr}{ta tb:TE}(ha:PE X a ta)(hb:PE X b tb){pins:List (Addr×Obj)}{s:Shared}{σ:St}{H:Hp}{R:V->V->Hp->Prop}(I:Inv X pins σ H s)(h:ta σ H λx H1=>tb σ H1 λy H2=>R x y H2){α:Type}{Q:α->Shared->Prop}{f:Value->Value->Sem α}(hf:∀v u s2 x y H2,Inv X pins σ H2 s2->RelV x v->RelV y u->R x y H2->wpAny (model X.prog X.w) X.A (f v u) Q X.xe s2) :
  wpAny (model X.prog X.w) X.A (eval a X.env) (λv s₁=>wpAny (model X.prog X.w) X.A (eval b X.env) (λu s₂=>wpAny (model X.prog X.w) X.A (f v u) Q X.xe s₂) X.xe s₁) X.xe s:=by
 refine thn (ha pins s σ H _ I h) λv s1 ⟨x,H1,I1,r1,q1⟩=>?_
 refine thn (hb pins s1 σ H1 _ I1 q1) λu s2 ⟨y,H2,I2,r2,q2⟩=>?_
 exact hf v u s2 x y H2 I2 r1 r2 q2
def rF(i:Nat):TE:=λσ H Q=>∃v,σ[i]?=some (some v)/\Q v H
def tC(v:V):TE:=λ_ H Q=>Q v H
def Qn{i:Nat}{x:Str}{pos:Pos}(hN:X.N[i]?=some x)(hv:Vis X.env.scope x)(hd:(x == ("__debug__":Str))=false:=by decide)(hcd:(x == ("__classdict__":Str))=false:=by decide):PE X (.Name x pos) (rF i):=by
 intro pins s σ H Q I h
 obtain⟨v,e,h⟩:=h
 obtain⟨m,hn,hl⟩:=I.loc
 obtain⟨u,r,l⟩:=hl i x v hN e hv
 have fin:EP X pins σ Q u s:=⟨v,H,I,r,h⟩
 rcases l with ⟨hk,hm⟩|⟨hk,c,hc,hcell⟩
 ·exact wpAny_Name (wpAny_loadName_local I.ok.kind hk hn hm fin) hd
 ·rcases hk with hk|hk
  ·exact wpAny_Name (wpAny_loadName_cell I.ok.kind hk hc hcell fin) hd
  ·exact wpAny_Name (wpAny_loadName_free I.ok.kind hk hc hcell fin hcd) hd
def G7{i j pos}:PE X (.Constant (.int i) j pos) (tC (.int i)):=λ_ _ _ H _ I h=>wpAny_Constant_int ⟨.int i,H,I.tok _,⟨_,rfl⟩,h⟩
def T5{b j pos}:PE X (.Constant (.bool b) j pos) (tC (.bl b)):=λ_ _ _ H _ I h=>Constant_bool ⟨.bl b,H,I,rfl,h⟩
def Qt{j pos}:PE X (.Constant .none j pos) (tC .non):=λ_ _ _ H _ I h=>Constant_none ⟨.non,H,I,rfl,h⟩
def Qo{x j pos}:PE X (.Constant (.str x) j pos) (tC (.str x)):=λ_ _ _ H _ I h=>Calls.Constant_str ⟨.str x,H,I.tok _,⟨_,rfl⟩,h⟩
def Gl(X:Cx)(x:Str):Prop:=X.env.kindOf x=some .globalImplicit
def jm{E:Value->Shared->Prop}{pins:List (Addr×Obj)}{s:Shared}{σ:St}{H:Hp}{x:Str}{u:Value}{pos:Pos}{Q:Value->Shared->Prop}(I:Inv X pins σ H s)(hg:Gl X x)(hm:X.mg x=some u)(h:Q u s)(hd:(x == ("__debug__":Str))=false:=by decide):wpAny (model X.prog X.w) X.A (eval (.Name x pos) X.env) Q E s :=
 Calls.Name_function_global I.ok.kind hg (Calls.loadGlobal_global (by rw[I.ok.glob];exact I.mod.glob.keeps I.bk) hm h) hd
def iK{E:Value->Shared->Prop}{pins:List (Addr×Obj)}{s:Shared}{σ:St}{H:Hp}{x:Str}{u:Value}{pos:Pos}{Q:Value->Shared->Prop}(I:Inv X pins σ H s)(hg:Gl X x)(hm:X.mg x=none)(hv:bootBuiltins x=some u)(h:Q u s)(hn:x≠"__name__":=by decide)(hd:(x == ("__debug__":Str))=false:=by decide):wpAny (model X.prog X.w) X.A (eval (.Name x pos) X.env) Q E s:=by
 obtain⟨mb,h1,h2⟩:=I.mod.blt
 exact Calls.Name_function_global I.ok.kind hg (Calls.loadGlobal_builtin (by rw[I.ok.glob];exact I.mod.glob.keeps I.bk) hm (by rw[I.ok.blt];exact h1.keeps I.bk) ((h2 x hn).trans hv) h) hd
def cL{x:Str}{v:V}{u:Value}{pos:Pos}(hg:Gl X x)(hm:X.mg x=some u)(r:RelV v u)(hd:(x == ("__debug__":Str))=false:=by decide):PE X (.Name x pos) (tC v) :=
 λ_ _ _ H _ I h=>jm I hg hm ⟨v,H,I,r,h⟩ hd
def jZ{x:Str}{v:V}{u:Value}{pos:Pos}(hg:Gl X x)(hm:X.mg x=none)(hv:bootBuiltins x=some u)(r:RelV v u)(hn:x≠"__name__":=by decide)(hd:(x == ("__debug__":Str))=false:=by decide):PE X (.Name x pos) (tC v) :=
 λ_ _ _ H _ I h=>iK I hg hm hv ⟨v,H,I,r,h⟩ hn hd
variable {a b:Expr}{ta tb:TE}{pos:Pos}
def PC(X:Cx)(op:CmpOp)(a b:Expr)(t:TE):Prop :=
 ∀(pins:List (Addr×Obj)) (s:Shared) (σ:St) (H:Hp) (Q:VK),Inv X pins σ H s->t σ H Q ->
  wpAny (model X.prog X.w) X.A (eval a X.env) (λv s₁=>wpAny (model X.prog X.w) X.A (eval b X.env) (λu s₂=>wpAny (model X.prog X.w) X.A (compareOp op v u) (EP X pins σ Q) X.xe s₂) X.xe s₁) X.xe s
def tB(t:TE):TT:=λσ H Q=>t σ H λx H1=>∃c,x=.bl c/\Q c H1
def VJ{op:CmpOp}{t:TE}(h:PC X op a b t)(h1:behindInMarks op b=false:=by first|exact nobehind _ (by decide) (by decide)|rfl):PT X (.Compare a [op] [b] pos) (tB t):=by
 intro pins s σ H Q I hw
 refine wpAny_isTrue_Compare1 (thn (h pins s σ H _ I hw) λv s1 h1=>thn h1 λu s2 h2=>thn h2 λc s3 ⟨x,H1,I1,r1,q1⟩=>?_) h1
 obtain⟨d,rfl,q⟩:=q1
 cases r1
 exact į ⟨H1,I1,q⟩
def Qh{e:Expr}{t:TE}(h:PE X e t)(he:∀whole,isTrue e X.env whole=(do let v ←whole;standAt e.pos;holding [v] (truthy v)):=by intro _;rfl):PT X e (tB t):=by
 intro pins s σ H Q I hw
 refine isTrue_plain (thn (h pins s σ H _ I hw) λv s1 ⟨x,H1,I1,r1,q1⟩=>?_) (he _)
 obtain⟨d,rfl,q⟩:=q1
 cases r1
 exact į ⟨H1,I1,q⟩
variable {tA tB':TT}{rest:List Expr}
def Td(t u:TT):TT:=λσ H Q=>t σ H λc H1=>if c=true then u σ H1 Q else Q false H1
def tOr(t u:TT):TT:=λσ H Q=>t σ H λc H1=>if c=true then Q true H1 else u σ H1 Q
def Vo(t:TT):TT:=λσ H Q=>t σ H λc H1=>Q (!c) H1
def Bs(ha:PT X a tA):PW X (.BoolOp .And [a] pos) tA:=by
 intro wh pins s σ H Q I h
 refine isTrue_and (thn (ha pins s σ H Q I h) λc s1 e=>?_)
 cases c with
 |true=>exact isTrue_and_nil e
 |false=>exact e
def GP(ha:PT X a tA):PW X (.BoolOp .Or [a] pos) tA:=by
 intro wh pins s σ H Q I h
 refine isTrue_or (thn (ha pins s σ H Q I h) λc s1 e=>?_)
 cases c with
 |false=>exact isTrue_or_nil e
 |true=>exact e
def GQ(ha:PT X a tA)(hb:PW X (.BoolOp .And (b::rest) pos) tB'):PW X (.BoolOp .And (a::b::rest) pos) (Td tA tB'):=by
 intro wh pins s σ H Q I h
 refine isTrue_and (thn (ha pins s σ H _ I h) λc s1 ⟨H1,I1,q1⟩=>?_)
 cases c with
 |true=>exact hb wh pins s1 σ H1 Q I1 q1
 |false=>exact⟨H1,I1,q1⟩
def N6(ha:PT X a tA)(hb:PW X (.BoolOp .Or (b::rest) pos) tB'):PW X (.BoolOp .Or (a::b::rest) pos) (tOr tA tB'):=by
 intro wh pins s σ H Q I h
 refine isTrue_or (thn (ha pins s σ H _ I h) λc s1 ⟨H1,I1,q1⟩=>?_)
 cases c with
 |true=>exact⟨H1,I1,q1⟩
 |false=>exact hb wh pins s1 σ H1 Q I1 q1
def Qi(ha:PT X a tA):PT X (.UnaryOp .Not a pos) (Vo tA):=by
 intro pins s σ H Q I h
 exact isTrue_not (ha pins s σ H (λc H1=>Q (!c) H1) I h)
def Tc(ta tb:TE):TE:=λσ H Q=>ta σ H λx H1=>∃c,x=.bl c/\if c=true then tb σ H1 Q else Q (.bl false) H1
def SQ(ta:TE):TE:=λσ H Q=>ta σ H λx H1=>∃c,x=.bl c/\Q (.bl (!c)) H1
def Qq{op}{t:TE}(h:PE X a t):PE X (.BoolOp op [a] pos) t:=λpins s σ H Q I hw=>BoolOp_one (h pins s σ H Q I hw)
def Qv(ha:PE X a ta)(hb:PE X (.BoolOp .And (b::rest) pos) tb):PE X (.BoolOp .And (a::b::rest) pos) (Tc ta tb):=by
 intro pins s σ H Q I h
 refine BoolOp_and (thn (ha pins s σ H _ I h) λv s1 ⟨x,H1,I1,r1,q1⟩=>?_)
 obtain⟨c,rfl,q1⟩:=q1
 cases r1
 refine į ?_
 cases c with
 |true=>exact hb pins s1 σ H1 Q I1 q1
 |false=>exact⟨.bl false,H1,I1,rfl,q1⟩
def Qs(ha:PE X a ta):PE X (.UnaryOp .Not a pos) (SQ ta):=by
 intro pins s σ H Q I h
 refine UnaryOp_ (thn (ha pins s σ H _ I h) λv s1 ⟨x,H1,I1,r1,q1⟩=>?_)
 obtain⟨c,rfl,q1⟩:=q1
 cases r1
 exact not_of (į ⟨.bl (!c),H1,I1,rfl,q1⟩)
end
def SqL(K:Ñ)(H:Hp)(a:Addr)(xs:List V):Prop :=
 Rd H a (.lst xs) ∨
  ∃(o:Obj) (its:Array Value) (n:Nat),K.lookup a=some o/\o.cls=.type "list"/\o.dict=none/\o.data=.seq its n/\its.size<=sizeLine/\Vals xs its.toList
def SqT(K:Ñ)(H:Hp)(a:Addr)(xs:List V):Prop :=
 Rd H a (.tup xs) ∨
  ∃(o:Obj) (its:Array Value) (n:Nat),K.lookup a=some o/\o.cls=.type "tuple"/\o.data=.seq its n/\its.size<=sizeLine/\Vals xs its.toList
def Wh:Value->Option V
 |.none=>some .non
 |.bool b=>some (.bl b)
 |.int i _=>some (.int i)
 |.str x _=>some (.str x)
 |.bytes b _=>some (.byt b)
 |.float b _=>some (.flt b)
 |.ref a=>some (.ref a)
 |.type n=>some (.ty n)
 |_=>none
def RelV.abs{x:V}{u:Value}(r:RelV x u):Wh u=some x:=by
 cases x with
 |non=>cases r;rfl
 |bl _=>cases r;rfl
 |int _=>obtain⟨t,rfl⟩:=r;rfl
 |str _=>obtain⟨t,rfl⟩:=r;rfl
 |byt _=>obtain⟨t,rfl⟩:=r;rfl
 |flt _=>obtain⟨t,rfl⟩:=r;rfl
 |ref _=>cases r;rfl
 |ty _=>cases r;rfl
def RelV.inj{x y:V}{u:Value}(r:RelV x u)(q:RelV y u):x=y:=Ý (r.abs.symm.trans q.abs)
def Vals.inj:∀{xs ys:List V}{us:List Value},Vals xs us->Vals ys us->xs=ys
 |_,_,_,.nil,.nil=>rfl
 |_,_,_,.cons r t,.cons r' t'=>by rw[r.inj r',Vals.inj t t']
section
variable {X:Cx}{pins:List (Addr×Obj)}{σ:St}{H:Hp}{s:Shared}{a:Addr}{xs ys:List V}
def SqL.of{K:Ñ}(h:H a=some (.lst xs)):SqL K H a xs:=.inl (.inl h)
def SqT.of{K:Ñ}(h:H a=some (.tup xs)):SqT K H a xs:=.inl (.inl h)
def Inv.list(I:Inv X pins σ H s)(h:SqL X.K H a xs):∃its:List Value,Vals xs its/\PlainL s.heap a its.toArray/\xs.length<=sizeLine:=by
 rcases h with h|⟨o,its,n,hk,hc,hd,hs,hz,r⟩
 ·obtain⟨z,its,n,r,e⟩:=h.ok I.hok
  exact⟨its,r,⟨_,n,e,rfl,rfl,rfl⟩,z⟩
 ·refine⟨its.toList,r,⟨o,n,I.kIn a o hk,hc,hd,by simpa using hs⟩,?_⟩
  have e:=r.length
  simp only[ċ] at e
  omega
def Inv.tuple(I:Inv X pins σ H s)(h:SqT X.K H a xs):∃its:List Value,Vals xs its/\IsTup s.heap a its.toArray/\xs.length<=sizeLine:=by
 rcases h with h|⟨o,its,n,hk,hc,hs,hz,r⟩
 ·obtain⟨z,its,r,p⟩:=h.ok I.hok
  exact⟨its,r,p,z⟩
 ·refine⟨its.toList,r,⟨o,I.kIn a o hk,hc,n,by simpa using hs⟩,?_⟩
  have e:=r.length
  simp only[ċ] at e
  omega
def Inv.xG(I:Inv X pins σ H s)(h:SqL X.K H a xs)(h':SqL X.K H a ys):xs=ys:=by
 obtain⟨its,r,⟨o,n,e,_,_,d⟩,_⟩:=I.list h
 obtain⟨its',r',⟨o',n',e',_,_,d'⟩,_⟩:=I.list h'
 rw[e] at e';cases e'
 rw[d] at d'
 injection d' with d1 _
 have:its=its':=by simpa using congrArg Array.toList d1
 subst this
 exact r.inj r'
def Inv.Dj(I:Inv X pins σ H s)(h:SqT X.K H a xs)(h':SqT X.K H a ys):xs=ys:=by
 obtain⟨its,r,⟨o,e,_,n,d⟩,_⟩:=I.tuple h
 obtain⟨its',r',⟨o',e',_,n',d'⟩,_⟩:=I.tuple h'
 rw[e] at e';cases e'
 rw[d] at d'
 injection d' with d1 _
 have:its=its':=by simpa using congrArg Array.toList d1
 subst this
 exact r.inj r'
end
abbrev Cx.wish(X:Cx)(E:Value->Shared->Prop):Cx:={ X with xe:=E }
abbrev Cx.nox(X:Cx):Cx:=X.wish λ_ _=>False
def Cx.Ok.wish{X:Cx}(ok:X.Ok)(E:Value->Shared->Prop):(X.wish E).Ok :=
 ⟨ok.mod,ok.kind,ok.glob,ok.blt,ok.above,ok.inj,ok.has,ok.cab,ok.hd,ok.frames,ok.stk,ok.exf,ok.bs,ok.bsz,ok.noex,ok.exfs,ok.gY,ok.frf,ok.sof⟩
def Cx.Ok.fC{X:Cx}{E:Value->Shared->Prop}(ok:(X.wish E).Ok):X.Ok :=
 ⟨ok.mod,ok.kind,ok.glob,ok.blt,ok.above,ok.inj,ok.has,ok.cab,ok.hd,ok.frames,ok.stk,ok.exf,ok.bs,ok.bsz,ok.noex,ok.exfs,ok.gY,ok.frf,ok.sof⟩
section
variable {X:Cx}{pins:List (Addr×Obj)}{σ:St}{H:Hp}{s:Shared}{E:Value->Shared->Prop}
def Inv.wish(I:Inv X pins σ H s)(E:Value->Shared->Prop):Inv (X.wish E) pins σ H s:=⟨I.ok.wish E,I.os,I.bare,I.base,I.loc,I.cell,I.free,I.freeC,I.pin,I.hok,I.len⟩
def Inv.fC(I:Inv (X.wish E) pins σ H s):Inv X pins σ H s:=⟨I.ok.fC,I.os,I.bare,I.base,I.loc,I.cell,I.free,I.freeC,I.pin,I.hok,I.len⟩
def SP.fC{D:Ends}{f:Flow}{s':Shared}(h:SP (X.wish E) pins D f s'):SP X pins D f s':=by
 cases f with
 |next=>obtain⟨σ',H',I,q⟩:=h;exact⟨σ',H',I.fC,q⟩
 |brk=>obtain⟨σ',H',I,q⟩:=h;exact⟨σ',H',I.fC,q⟩
 |cont=>obtain⟨σ',H',I,q⟩:=h;exact⟨σ',H',I.fC,q⟩
 |ret u=>obtain⟨v,σ',H',I,r,q⟩:=h;exact⟨v,σ',H',I.fC,r,q⟩
def PSs.nox{st:List Stmt}{t:TS}(h:PSs X.nox st t):PSs X st t:=λpins s σ H D I hw =>
 ĩ (h pins s σ H D (I.wish _) hw) (λ_ _ q=>q.fC) λ_ _ z=>è z
end
section
variable {X:Cx}{st:Stmt}{rest:List Stmt}{t u:TS}{e:Expr}{te:TE}{pos:Pos}
def S5:TS:=λD σ H=>D.nx σ H
def Vm(t u:TS):TS:=λD σ H=>t { D with nx:=u D } σ H
def jX:PSs X [] S5:=λ_ _ σ H _ I h=>ţ ⟨σ,H,I,h⟩
def aQ(h1:PS X st t)(h2:PSs X rest u):PSs X (st::rest) (Vm t u):=by
 intro pins s σ H D I h
 refine wpAny_execs_cons (thn (h1 pins s σ H { D with nx:=u D } I h) λf s1 q=>?_)
 cases f with
 |next =>
  obtain⟨σ',H',I',q⟩:=q
  exact h2 pins s1 σ' H' D I' q
 |ret v=>exact q
 |brk=>exact q
 |cont=>exact q
def bH(h1:PS X st t):PSs X [st] t:=by
 intro pins s σ H D I h
 refine wpAny_execs_cons (thn (h1 pins s σ H D I h) λf s1 q=>?_)
 cases f with
 |next=>exact ţ q
 |ret v=>exact q
 |brk=>exact q
 |cont=>exact q
def Inv.quiet{pins:List (Addr×Obj)}{σ:St}{H:Hp}{s:Shared}(I:Inv X pins σ H s):interactive X.env=false:=by simp[interactive,I.ok.kind]
def wj(te:TE):TS:=λD σ H=>te σ H λ_ H1=>D.nx σ H1
def dz(he:PE X e te)(hs:swapsWith e none pos.line X.env=pure false:=by rfl):PS X (.Expr e pos) (wj te):=by
 intro pins s σ H D I h
 exact wpAny_Expr_any (thn (he pins s σ H _ I h) λv s1 ⟨x,H1,I1,r1,q1⟩=>⟨σ,H1,I1,q1⟩) I.quiet hs
def Vn(te:TE):TS:=λD σ H=>te σ H D.rt
def gq(he:PE X e te):PS X (.Return (some e) pos) (Vn te):=by
 intro pins s σ H D I h
 exact wpAny_Return_some (thn (he pins s σ H _ I h) λv s1 ⟨x,H1,I1,r1,q1⟩=>⟨x,σ,H1,I1,r1,q1⟩)
def S9(c:TT)(t u:TS):TS:=λD σ H=>c σ H λb H1=>if b=true then t D σ H1 else u D σ H1
def pY{c:Expr}{a b:List Stmt}{tc:TT}(hc:PT X c tc)(ha:PSs X a t)(hb:PSs X b u):PS X (.If c a b pos) (S9 tc t u):=by
 intro pins s σ H D I h
 refine wpAny_If (thn (hc pins s σ H _ I h) λd s1 ⟨H1,I1,q1⟩=>?_)
 cases d with
 |true=>exact ha pins s1 σ H1 D I1 q1
 |false=>exact hb pins s1 σ H1 D I1 q1
def Pa:TS:=λ_ _ _=>False
def GX:PS X st Pa:=λ_ _ _ _ _ _ h=>h.elim
end
abbrev TG:=V->St->Hp->(St->Hp->Prop)->Prop
abbrev TGs:=List V->St->Hp->(St->Hp->Prop)->Prop
def PG(X:Cx)(target:Expr)(t:TG):Prop :=
 ∀(pins:List (Addr×Obj)) (s:Shared) (σ:St) (H:Hp) (v:V) (u:Value) (Q:St->Hp->Prop),Inv X pins σ H s->RelV v u->t v σ H Q ->
  wpAny (model X.prog X.w) X.A (assign target X.env u) (λ_ s'=>∃σ' H',Inv X pins σ' H' s'/\Q σ' H') X.xe s
def PGs(X:Cx)(ts:List Expr)(t:TGs):Prop :=
 ∀(pins:List (Addr×Obj)) (s:Shared) (σ:St) (H:Hp) (vs:List V) (us:List Value) (Q:St->Hp->Prop),Inv X pins σ H s->Vals vs us->t vs σ H Q ->
  wpAny (model X.prog X.w) X.A (assignInOrder ((assignEach ts X.env).map (·.2)) us) (λ_ s'=>∃σ' H',Inv X pins σ' H' s'/\Q σ' H') X.xe s
abbrev R7:=V->V->V->Hp->(Hp->Prop)->Prop
def Vf(X:Cx)(t:R7):Prop :=
 ∀(pins:List (Addr×Obj)) (s:Shared) (σ:St) (H:Hp) (o i v:V) (ov iv u:Value) (Q:Hp->Prop),Inv X pins σ H s->RelV o ov->RelV i iv->RelV v u->t o i v H Q ->
  wpAny (model X.prog X.w) X.A (setItem ov iv u) (λ_ s'=>∃H',Inv X pins σ H' s'/\Q H') X.xe s
section
variable {X:Cx}{pos:Pos}
def iQ(i:Nat):TG:=λv σ H Q=>Q (σ.set i (some v)) H
def dO{i:Nat}{x:Str}(hN:X.N.Nodup)(hi:X.N[i]?=some x)(hx:Loc X.env.scope x)(hf:X.fn x=true\/X.env.scope.names.lookup x=some .local:=by first|exact .inl rfl|exact .inr rfl|assumption):PG X (.Name x pos) (iQ i):=by
 intro pins s σ H v u Q I r h
 exact wpAny_assign_Name (pJ I hN hi hx r (λs' I'=>⟨_,H,I',h⟩) hf)
def Wa:TGs:=λvs σ H Q=>vs=[]/\Q σ H
def UG(t:TG)(u:TGs):TGs:=λvs σ H Q=>∃v r,vs=v::r/\t v σ H λσ' H'=>u r σ' H' Q
def KN:PGs X [] Wa:=by
 intro pins s σ H vs us Q I r h
 obtain⟨e,h⟩:=h
 subst e
 cases r
 exact assignInOrder_nil ⟨σ,H,I,h⟩
def G4{e:Expr}{es:List Expr}{t:TG}{u:TGs}(h1:PG X e t)(h2:PGs X es u)(hs:(assignEach (e::es) X.env).map (·.2)=assign e X.env::(assignEach es X.env).map (·.2):=by rfl):PGs X (e::es) (UG t u):=by
 intro pins s σ H vs us Q I r h
 obtain⟨v,vr,e1,h⟩:=h
 subst e1
 cases r with
 |cons r rr =>
  rw[hs]
  refine assignInOrder_cons (thn (h1 pins s σ H _ _ _ I r h) λ_ s1 ⟨σ1,H1,I1,q1⟩=>?_)
  exact h2 pins s1 σ1 H1 _ _ Q I1 rr q1
def Uw(K:Ñ)(n:Nat)(t:TGs):TG:=λv σ H Q=>∃a xs,v=.ref a/\SqT K H a xs/\xs.length=n/\t xs σ H Q
def Qm{es:List Expr}{k:Nat}{t:TGs}{n:Nat}(hc:X.calm=true)(h:PGs X es t)(hn:(assignEach es X.env).length=n:=by rfl)(hst:(assignEach es X.env).findIdx? (·.1)=none:=by rfl):PG X (.Tuple es k pos) (Uw X.K n t):=by
 intro pins s σ H v u Q I r hw
 obtain⟨a,xs,e1,hq,hl,hw⟩:=hw
 subst e1
 cases r
 obtain⟨its,rv,ht,hz⟩:=I.tuple hq
 refine assign_Tuple_tuple (I.ok.hd hc) ht (by simp[hn,←hl,rv.length]) hst λh' hx=>?_
 have I1:Inv X pins σ H { s with heap:=h' }:=I.kept (t':=s.toks) λb o e=>hx b o (ß (Ç e)) e
 exact h pins _ σ H xs _ Q I1 (by simpa using rv) hw
def Ux(to ti:TE)(t:R7):TG:=λv σ H Q=>to σ H λo H1=>ti σ H1 λi H2=>t o i v H2 λH3=>Q σ H3
def yQ{o i:Expr}{to ti:TE}{t:R7}(ho:PE X o to)(hi:PE X i ti)(hs:Vf X t)(ha:∀v,assign (.Subscript o i pos) X.env v=(do
   let ov ←holding [v] (eval o X.env)
   let iv ←holding [v,ov] (eval i X.env)
   standAt pos
   holding [v,ov,iv] (setItem ov iv v)
   release [v,ov,iv] []):=by intro _;rfl):PG X (.Subscript o i pos) (Ux to ti t):=by
 intro pins s σ H v u Q I r h
 rw[ha]
 refine Â (ö (thn (ho pins s σ H _ I h) λov s1 ⟨x,H1,I1,r1,q1⟩=>?_))
 refine Â (ö (thn (hi pins s1 σ H1 _ I1 q1) λiv s2 ⟨y,H2,I2,r2,q2⟩=>?_))
 refine Â (wpAny_standAt (Â (ö (thn (hs pins s2 σ H2 x y v ov iv u _ I2 r1 r2 r q2) λ_ s3 ⟨H3,I3,q3⟩=>?_))))
 exact wpAny_release ⟨σ,H3,I3,q3⟩
def rG(te:TE)(g:TG):TS:=λD σ H=>te σ H λx H1=>g x σ H1 D.nx
def yO{tg e:Expr}{te:TE}{g:TG}(he:PE X e te)(hg:PG X tg g)(hs:swapsWithSole [tg] e pos.line X.env=pure false:=by rfl)(hw:swappedStores [tg] e X.env=pure none:=by rfl)(h1:(assignEach [tg] X.env).map (·.2)=[assign tg X.env]:=by rfl):PS X (.Assign [tg] e pos) (rG te g):=by
 intro pins s σ H D I h
 refine wpAny_Assign_stores (thn (he pins s σ H _ I h) λv s1 ⟨x,H1,I1,r1,q1⟩=>?_) hs hw
 rw[h1]
 exact thn (hg pins s1 σ H1 x v _ I1 r1 q1) λ_ s2 q=>q
def dg{i:Nat}{x:Str}{e:Expr}{te:TE}{pos':Pos}(hN:X.N.Nodup)(hi:X.N[i]?=some x)(hx:Loc X.env.scope x)(he:PE X e te)(hs:swapsWith e (some (.Name x pos')) pos.line X.env=pure false:=by rfl)(hf:X.fn x=true\/X.env.scope.names.lookup x=some .local:=by first|exact .inl rfl|exact .inr rfl|assumption) :
  PS X (.Assign [.Name x pos'] e pos) (rG te (iQ i)):=by
 intro pins s σ H D I h
 refine wpAny_Assign_Name (thn (he pins s σ H _ I h) λv s1 ⟨y,H1,I1,r1,q1⟩=>?_) hs
 exact pJ I1 hN hi hx r1 (λs2 I2=>⟨_,H1,I2,q1⟩) hf
end
section
variable {X:Cx}{pos:Pos}
end
structure It where
 go:Nat->Hp->Prop
 yld:Nat->Hp->V->Hp->Prop
 stop:Nat->Hp->Prop
def rE(X:Cx)(pins:List (Addr×Obj))(H:Hp)(b:Addr):Prop :=
 H b=none/\b≠X.env.locals/\b∉X.fs/\(b∈X.ex\/X.s₀.heap.objs.size<=b)/\(∀x c,X.env.cells.lookup x=some c->c≠b)/\∀p∈X.pn++pins,p.1≠b
def Inv.MP{X:Cx}{pins:List (Addr×Obj)}{σ:St}{H H':Hp}{s:Shared}{b:Addr}(I:Inv X pins σ H s)(hb:s.heap.objs.size<=b)(hn:H' b=none):rE X pins H' b:=by
 refine⟨hn,ł (Û I.lt hb),I.VP hb,.inr (î I.sz hb),λx c e z=>?_,λp hp z=>?_⟩
 ·obtain⟨v,q⟩:=I.cell x c e
  exact absurd (Û q.lt (by rw[z];exact hb)) (ø _)
 ·exact absurd (Û (Ç (I.pin p hp).1) (by rw[z];exact hb)) (ø _)
structure TurnG(Cm:Cx->Prop)(P:Program)(w:World)(K:Ñ)(tg:Expr)(J:It)(fp:List Addr)(it:Addr)(tn:Nat->Heap->Prop):Prop where
 mem:it∈fp
 obj:∀i h,tn i h->∀b∈fp,∃o,h.get? b=some o/\∀v,o.data≠.cell v
 keep:∀i h h',tn i h->(∀b∈fp,∀o,h.get? b=some o->h'.get? b=some o)->tn i h'
 item:∀(X:Cx),X.prog=P->X.w=w->X.K=K->Cm X->∀(i:Nat) (pins:List (Addr×Obj)) (s:Shared) (σ:St) (H:Hp) (E:Value->Shared->Prop),Inv X pins σ H s->(∀b∈fp,rE X pins H b)->tn i s.heap->J.go i H ->
  wpAny (model P w) X.A (pyNext (.ref it)) (λr s1=>∃u,r=some u /\
   wpAny (model P w) X.A (letOwnedTupleGo tg (.ref it) u) (λ_ s2=>∃x H',Inv X pins σ H' s2/\RelV x u/\J.yld i H x H'/\tn (i+1) s2.heap/\∀b∈fp,H' b=none) E s1) E s
 done:∀(X:Cx),X.prog=P->X.w=w->X.K=K->Cm X->∀(i:Nat) (pins:List (Addr×Obj)) (s:Shared) (σ:St) (H:Hp) (E:Value->Shared->Prop),Inv X pins σ H s->(∀b∈fp,rE X pins H b)->tn i s.heap->J.stop i H ->
  wpAny (model P w) X.A (pyNext (.ref it)) (λr s1=>r=none/\Inv X pins σ H s1) E s
 self:∀(A:Around) (i:Nat) (s:Shared) (Q:Value->Shared->Prop) (E:Value->Shared->Prop),tn i s.heap->Q (.ref it) s->wpAny (model P w) A (pyIter (.ref it)) Q E s
abbrev Turn(P:Program)(w:World)(K:Ñ)(tg:Expr)(J:It)(fp:List Addr)(it:Addr)(tn:Nat->Heap->Prop):Prop:=TurnG (λX=>X.calm=true) P w K tg J fp it tn
abbrev TI:=St->Hp->(It->Hp->Prop)->Prop
def Vg(Cm:Cx->Prop)(X:Cx)(pins:List (Addr×Obj))(σ:St)(tg:Expr)(R:It->Hp->Prop)(itv:Value)(s2:Shared):Prop :=
 ∃(it:Addr) (fp:List Addr) (tn:Nat->Heap->Prop) (J:It) (H':Hp),itv=.ref it/\Inv X pins σ H' s2/\TurnG Cm X.prog X.w X.K tg J fp it tn/\tn 0 s2.heap/\(∀b∈fp,rE X pins H' b)/\R J H'
def PIG(Cm:Cx->Prop)(X:Cx)(tg iter:Expr)(wi:TI):Prop :=
 ∀(pins:List (Addr×Obj)) (s:Shared) (σ:St) (H:Hp) (R:It->Hp->Prop),Inv X pins σ H s->wi σ H R ->
  wpAny (model X.prog X.w) X.A (eval iter X.env) (λv s1=>wpAny (model X.prog X.w) X.A (pyIter v) (Vg Cm X pins σ tg R) X.xe s1) X.xe s
abbrev PIE(X:Cx):=Vg (λX=>X.calm=true) X
abbrev PI(X:Cx):=PIG (λX=>X.calm=true) X
def Cy{M:Model}{A:Around}{E:Value->Shared->Prop}{s:Shared}{tg:Expr}{it:Addr}{u:Value}{o:Obj}{n:String}{vs:Array Value}{Q:Unit->Shared->Prop}(ho:s.heap.get? it=some o)(hc:o.cls=.type n)(hd:o.data=.fields vs)(hn:["enumerate","zip","dict_itemiterator","dict_reverseitemiterator","odict_iterator","itertools.zip_longest","itertools.pairwise"].contains n=false)(hQ:Q () s):wpAny M A (letOwnedTupleGo tg (.ref it) u) Q E s:=by
 unfold letOwnedTupleGo
 cases tg <;> first
  |exact Ê hQ
  | (cases u <;> first
    |exact Ê hQ
    | (refine Â (wpAny_load ho ?_)
       rw[hc,hd]
       show wpAny M A (if (["enumerate","zip","dict_itemiterator","dict_reverseitemiterator","odict_iterator","itertools.zip_longest","itertools.pairwise"].contains n&&vs[0]? == some (rawInt _))=true then _ else _) Q E s
       rw[if_neg (by intro h;rw[hn,Bool.false_and] at h;cases h)]
       exact Ê hQ))
def Itl(K:Ñ)(a:Addr):It :=
 ⟨λi H=>∃xs x,SqL K H a xs/\xs[i]?=some x,λi H x H'=>H'=H/\∀xs,SqL K H a xs->xs[i]?=some x,λi H=>∃xs,SqL K H a xs/\xs.length<=i⟩
def Itt(K:Ñ)(a:Addr):It :=
 ⟨λi H=>∃xs x,SqT K H a xs/\xs[i]?=some x,λi H x H'=>H'=H/\∀xs,SqT K H a xs->xs[i]?=some x,λi H=>∃xs,SqT K H a xs/\xs.length<=i⟩
def Itr(lo:Int)(n:Nat):It:=⟨λi _=>i<n,λi H x H'=>H'=H/\x=.int (lo+i),λi _=>n<=i⟩
def mD{P:Program}{w:World}{K:Ñ}{tg:Expr}(a it:Addr):Turn P w K tg (Itl K a) [it] it (λi h=>h.IsListIter it a i) where
 mem:=by simp
 obj:=λi h st b hb=>by
  have e:b=it:=by simpa using hb
  subst e
  obtain⟨o,e,c,d⟩:=st
  exact⟨o,e,λv z=>by rw[d] at z;cases z⟩
 keep:=λi h h' st k=>st.at λo e=>k it (by simp) o e
 item:=by
  intro X hP hw hK hc i pins s σ H E I hf st hg
  subst hP hw hK
  obtain⟨xs,x,hq,hx⟩:=hg
  obtain⟨its,rv,p,hz⟩:=I.list hq
  obtain⟨u,hu,ru⟩:=rv.get hx
  obtain⟨f0,f1,f2,f3,f4,f5⟩:=hf it (by simp)
  refine wpAny_pyNext_list_item st p.isList (x:=u) (by simpa using hu) λh' st' sb=>?_
  have I1:Inv X pins σ H { s with heap:=h' }:=I.turned (t':=s.toks) (λb o hb e=>(sb.2 b hb).trans e) f0 f1 f3 f4 f5
  obtain⟨o,e,c,d⟩:=id st'
  exact⟨u,rfl,Cy (s:={ s with heap:=h' }) e c d (by decide) ⟨x,H,I1,ru,⟨rfl,λys hy=>by rw[I.xG hy hq];exact hx⟩,st',λb hb=>(hf b hb).1⟩⟩
 done:=by
  intro X hP hw hK hc i pins s σ H E I hf st hg
  subst hP hw hK
  obtain⟨xs,hq,hx⟩:=hg
  obtain⟨its,rv,p,hz⟩:=I.list hq
  obtain⟨f0,f1,f2,f3,f4,f5⟩:=hf it (by simp)
  have hl:=rv.length
  exact wpAny_pyNext_list_end (I.ok.hd hc) st p.isList (by simp;omega) λh' eb=>⟨rfl,I.turned (t':=s.toks) (λb o hb e=>eb b o hb e) f0 f1 f3 f4 f5⟩
 self:=λ_ _ _ _ _ st h=>wpAny_pyIter_listiter st h
def yC{P:Program}{w:World}{K:Ñ}{tg:Expr}(a it:Addr):Turn P w K tg (Itt K a) [it] it (λi h=>h.IsTupleIter it a i) where
 mem:=by simp
 obj:=λi h st b hb=>by
  have e:b=it:=by simpa using hb
  subst e
  obtain⟨o,e,c,d⟩:=st
  exact⟨o,e,λv z=>by rw[d] at z;cases z⟩
 keep:=λi h h' st k=>st.at λo e=>k it (by simp) o e
 item:=by
  intro X hP hw hK hc i pins s σ H E I hf st hg
  subst hP hw hK
  obtain⟨xs,x,hq,hx⟩:=hg
  obtain⟨its,rv,p,hz⟩:=I.tuple hq
  obtain⟨u,hu,ru⟩:=rv.get hx
  obtain⟨f0,f1,f2,f3,f4,f5⟩:=hf it (by simp)
  refine wpAny_pyNext_tuple_item st (show s.heap.IsTuple a its.toArray from p) (x:=u) (by simpa using hu) λh' st' sb=>?_
  have I1:Inv X pins σ H { s with heap:=h' }:=I.turned (t':=s.toks) (λb o hb e=>(sb.2 b hb).trans e) f0 f1 f3 f4 f5
  obtain⟨o,e,c,d⟩:=id st'
  exact⟨u,rfl,Cy (s:={ s with heap:=h' }) e c d (by decide) ⟨x,H,I1,ru,⟨rfl,λys hy=>by rw[I.Dj hy hq];exact hx⟩,st',λb hb=>(hf b hb).1⟩⟩
 done:=by
  intro X hP hw hK hc i pins s σ H E I hf st hg
  subst hP hw hK
  obtain⟨xs,hq,hx⟩:=hg
  obtain⟨its,rv,p,hz⟩:=I.tuple hq
  obtain⟨f0,f1,f2,f3,f4,f5⟩:=hf it (by simp)
  have hl:=rv.length
  exact wpAny_pyNext_tuple_end (I.ok.hd hc) st (show s.heap.IsTuple a its.toArray from p) (by simp;omega) λh' eb=>⟨rfl,I.turned (t':=s.toks) (λb o hb e=>eb b o hb e) f0 f1 f3 f4 f5⟩
 self:=λ_ _ _ _ _ st h=>wpAny_pyIter_tupleiter st h
def yD{P:Program}{w:World}{K:Ñ}{tg:Expr}(it:Addr)(lo:Int)(n:Nat):Turn P w K tg (Itr lo n) [it] it (λi h=>IsRangeIter h it (lo+(i:Nat) * 1) ((n:Int) - (i:Nat)) 1) where
 mem:=by simp
 obj:=λi h st b hb=>by
  have e:b=it:=by simpa using hb
  subst e
  exact⟨_,st,λv z=>by
   have z':Data.fields _=Data.cell v:=z
   cases z'⟩
 keep:=λi h h' st k=>k it (by simp) _ st
 item:=by
  intro X hP hw hK hc i pins s σ H E I hf st hg
  subst hP hw hK
  obtain⟨f0,f1,f2,f3,f4,f5⟩:=hf it (by simp)
  have W:=Walks.range (prog:=X.prog) (w:=X.w) (I.ok.hd hc) it lo 1 n
  refine W.item i s _ _ hg st λv h' tk hv st' kk=>?_
  obtain⟨t,rfl⟩:=hv
  have I1:Inv X pins σ H { s with heap:=h',toks:=tk }:=I.turned (λb o hb e=>kk b o (by simpa using hb) e) f0 f1 f3 f4 f5
  refine⟨_,rfl,Cy (s:={ s with heap:=h',toks:=tk }) (n:="range_iterator") st' rfl rfl (by decide) ⟨.int (lo+i),H,I1,⟨t,?_⟩,⟨rfl,rfl⟩,st',λb hb=>(hf b hb).1⟩⟩
  rw[Int.mul_one]
 done:=by
  intro X hP hw hK hc i pins s σ H E I hf st hg
  subst hP hw hK
  obtain⟨f0,f1,f2,f3,f4,f5⟩:=hf it (by simp)
  exact wpAny_pyNext_range_end (I.ok.hd hc) st (by have:n<=i:=hg;omega) λh' eb=>⟨rfl,I.turned (t':=s.toks) (λb o hb e=>eb b o hb e) f0 f1 f3 f4 f5⟩
 self:=λ_ _ _ _ _ st h=>wpAny_pyIter_rangeiter st h
section
variable {X:Cx}{tg:Expr}
def Uu(K:Ñ)(tl:TE):TI:=λσ H R=>tl σ H λx H1=>∃a,x=.ref a/\(∃xs,SqL K H1 a xs)/\R (Itl K a) H1
def wH{pins:List (Addr×Obj)}{σ:St}{H:Hp}{s:Shared}{R:It->Hp->Prop}{E:Value->Shared->Prop}{lo hi:Int}{t u v:Tok}{tk:Nat}(I:Inv X pins σ H s)(h1:-(2 ^ 62)<=lo)(h2:lo<2 ^ 62)(h3:-(2 ^ 62)<=hi)(h4:hi<2 ^ 62)(q:R (Itr lo (hi - lo).toNat) H):wpAny (model X.prog X.w) X.A (pyIter (.ref s.heap.objs.size)) (PIE X pins σ tg R) E { s with heap:=s.heap.push { cls:=.type "range",data:=.fields #[.int lo t,.int hi u,.int 1 v] },toks:=tk }:=by
 refine wpAny_pyIter_range (IsRange.new ..) (small_one h1 h2 h3 h4) ?_
 have I1:Inv X pins σ H { s with heap:=s.heap.push { cls:=.type "range",data:=.fields #[.int lo t,.int hi u,.int 1 v] },toks:=tk }:=I.kept λb o e=>Æ _ e
 refine⟨(s.heap.push { cls:=.type "range",data:=.fields #[.int lo t,.int hi u,.int 1 v] }).objs.size,[(s.heap.push { cls:=.type "range",data:=.fields #[.int lo t,.int hi u,.int 1 v] }).objs.size],_,_,H,rfl,
  I1.kept (t':=tk) λb o e=>Æ _ e,yD _ lo (hi - lo).toNat,?_,λb hb=>?_,q⟩
 ·have e1:lo+((0:Nat):Int) * 1=lo:=by simp
  have e2:(((hi - lo).toNat:Nat):Int) - ((0:Nat):Int)=Builtin.Range.rangeSize lo hi 1:=by rw[rangeSize_one];split <;> omega
  show IsRangeIter _ _ (lo+((0:Nat):Int) * 1) ((((hi - lo).toNat:Nat):Int) - ((0:Nat):Int)) 1
  rw[e1,e2]
  exact Õ _ rfl
 ·have e:b=(s.heap.push { cls:=.type "range",data:=.fields #[.int lo t,.int hi u,.int 1 v] }).objs.size:=by simpa using hb
  subst e
  exact I1.MP (Ì _) (I1.hok.fresh (Ì _))
def Ut(ta:TA):TI:=λσ H R=>ta σ H λvs H1=>∃j:Int,vs=[.int j]/\-(2 ^ 62)<=j/\j<2 ^ 62/\R (Itr 0 j.toNat) H1
def Us(ta:TA):TI:=λσ H R=>ta σ H λvs H1=>∃i j:Int,vs=[.int i,.int j]/\(-(2 ^ 62)<=i/\i<2 ^ 62/\-(2 ^ 62)<=j/\j<2 ^ 62)/\R (Itr i (j - i).toNat) H1
def ji{a:Expr}{ta:TA}{p pos:Pos}(hg:Gl X "range")(hm:X.mg "range"=none)(ha:PA X [a] ta)(hs:starEach [a] X.env=[(false,eval a X.env)]:=by rfl):PI X tg (.Call (.Name "range" p) [a] [] pos) (Ut ta):=by
 intro pins s σ H R I h
 refine Call_ (iK I hg hm boot_range (ĵ (thn (ha pos pins s σ H _ I h) λus s1 ⟨vs,H1,I1,r1,q1⟩=>?_) hs rfl))
 obtain⟨j,e,q1,q2,q⟩:=q1
 subst e
 cases r1 with
 |cons r rr =>
  cases rr
  obtain⟨t,rfl⟩:=r
  exact call_range_1 (wH I1 (by omega) (by omega) q1 q2 (by simpa using q))
def Dy{a b:Expr}{ta:TA}{p pos:Pos}(hg:Gl X "range")(hm:X.mg "range"=none)(ha:PA X [a,b] ta)(hs:starEach [a,b] X.env=[(false,eval a X.env),(false,eval b X.env)]:=by rfl)(hs2:starEach [b] X.env=[(false,eval b X.env)]:=by rfl) :
  PI X tg (.Call (.Name "range" p) [a,b] [] pos) (Us ta):=by
 intro pins s σ H R I h
 refine Call_ (iK I hg hm boot_range (ĵ (thn (ha pos pins s σ H _ I h) λus s1 ⟨vs,H1,I1,r1,q1⟩=>?_) (by rw[hs,hs2]) (by rw[hs2];rfl)))
 obtain⟨i,j,e,⟨q1,q2,q3,q4⟩,q⟩:=q1
 subst e
 cases r1 with
 |cons r rr =>
  cases rr with
  |cons r' rr =>
   cases rr
   obtain⟨t,rfl⟩:=r
   obtain⟨t',rfl⟩:=r'
   exact call_range_2 (wH I1 q1 q2 q3 q4 q)
def Vr(wi:TI)(g:TG)(tb:TS):TS:=λD σ H=>wi σ H λJ H1=>∃W:Nat->Nat->St->Hp->Prop,(∃m,W 0 m σ H1)/\∀i m σ H,W i m σ H ->
 (J.stop i H/\D.nx σ H)\/(J.go i H/\∃N:St->Hp->Prop,(∀σ' H',N σ' H'->∃m',m'<m/\W (i+1) m' σ' H')/\∀x H',J.yld i H x H'->g x σ H' λσ2 H2=>tb { D with nx:=N,ct:=N,bk:=D.nx } σ2 H2)
def iz(fp:List Addr)(h:Heap):List (Addr×Obj):=fp.filterMap λb=>(h.get? b).map λo=>(b,o)
def gK{fp:List Addr}{h:Heap}{b:Addr}{o:Obj}(hb:b∈fp)(e:h.get? b=some o):(b,o)∈iz fp h:=Ź.mpr ⟨b,hb,by rw[e];rfl⟩
def sO{fp:List Addr}{h:Heap}{p:Addr×Obj}(hp:p∈iz fp h):p.1∈fp/\h.get? p.1=some p.2:=by
 obtain⟨b,hb,e⟩:=Ź.mp hp
 cases q:h.get? b with
 |none=>rw[q] at e;cases e
 |some o =>
  rw[q] at e
  have e':(b,o)=p:=Ý e
  subst e'
  exact⟨hb,q⟩
def Inv.pinned{pins:List (Addr×Obj)}{σ:St}{H:Hp}{s:Shared}{fp:List Addr}(I:Inv X pins σ H s)(hf:∀b∈fp,rE X pins H b)(ho:∀b∈fp,∃o,s.heap.get? b=some o/\∀v,o.data≠.cell v):Inv X (pins++iz fp s.heap) σ H s :=
 I.oV λp hp=>(Ø.mp hp).elim (λz=>I.pin p (å _ z)) λz=>by
  obtain⟨hb,e⟩:=sO z
  obtain⟨f0,f1,f2,_⟩:=hf p.1 hb
  obtain⟨o,e',d⟩:=ho p.1 hb
  rw[e] at e';cases e'
  exact⟨e,f0,f1,f2,d⟩
def Inv.jM{pins pl:List (Addr×Obj)}{σ:St}{H:Hp}{s:Shared}(I:Inv X (pins++pl) σ H s):Inv X pins σ H s:=I.oV λp hp=>I.pin p (å _ (Ŧ _ hp))
def yN{iter:Expr}{body:List Stmt}{wi:TI}{g:TG}{tb:TS}{pos:Pos}(hp:PassesOwn (model X.prog X.w) X.A X.env X.xe)(hc:X.calm=true)(hi:PI X tg iter wi)(hg:PG X tg g)(hb:PSs X body tb)(hs:∀x,foldedSetIterable iter X.env x=pure x:=by intro _;rfl):PS X (.For tg iter body [] pos) (Vr wi g tb):=by
 intro pins s σ H D I h
 refine wpAny_For (thn (hi pins s σ H _ I h) λv s1 h1=>thn h1 λitv s2 h2=>?_) hs
 obtain⟨it,fp,tn,J,H2,e,I2,T,st2,f2,W,⟨m0,w0⟩,turn⟩:=h2
 subst e
 -- what stays true of the iterator's objects through the loop
 have stat:∀{H':Hp},(∀b∈fp,H' b=none)->∀b∈fp,rE X pins H' b:=λhn b hb=>⟨hn b hb,(f2 b hb).2⟩
 refine codeAny_forLoop_any (λn s'=>∃i σ' H',Inv X pins σ' H' s'/\tn i s'.heap/\(∀b∈fp,H' b=none)/\W i n σ' H') ?_ m0 ⟨0,σ,H2,I2,st2,λb hb=>(f2 b hb).1,w0⟩
 rintro n s3 ⟨i,σ3,H3,I3,st3,fr3,w3⟩
 rcases turn i n σ3 H3 w3 with ⟨stop,qn⟩|⟨go,N,hN,step⟩
 ·refine wpAny_passesOwn hp (thn (T.done X rfl rfl rfl hc i pins s3 σ3 H3 X.xe I3 (stat fr3) st3 stop) λr s4 ⟨hr,I4⟩=>?_)
  subst hr
  exact ţ ⟨σ3,H3,I4,qn⟩
 ·refine wpAny_passesOwn hp (thn (T.item X rfl rfl rfl hc i pins s3 σ3 H3 X.xe I3 (stat fr3) st3 go) λr s4 ⟨u,hr,h4⟩=>?_)
  subst hr
  refine wpAny_passesOwn hp (thn h4 λ_ s5 ⟨x,H5,I5,r5,y5,st5,fr5⟩=>?_)
  have I5':=I5.pinned (stat fr5) (T.obj _ _ st5)
  refine wpAny_passesOwn hp (thn (hg _ s5 σ3 H5 x u _ I5' r5 (step x H5 y5)) λ_ s6 ⟨σ6,H6,I6,q6⟩=>?_)
  refine wpAny_passesOwn hp (thn (hb _ s6 σ6 H6 _ I6 q6) λf s7 q7=>?_)
  have again:∀{σ7:St}{H7:Hp},Inv X (pins++iz fp s5.heap) σ7 H7 s7->N σ7 H7->∃m,m<n/\∃i σ' H',Inv X pins σ' H' s7/\tn i s7.heap/\(∀b∈fp,H' b=none)/\W i m σ' H':=λ{σ7 H7} I7 n7=>by
   obtain⟨m',hm,w7⟩:=hN σ7 H7 n7
   refine⟨m',hm,i+1,σ7,H7,I7.jM,T.keep _ _ _ st5 λb hb o e=>(I7.pin (b,o) (å _ (å _ (gK hb e)))).1,λb hb=>?_,w7⟩
   obtain⟨o,e,d⟩:=T.obj _ _ st5 b hb
   exact(I7.pin (b,o) (å _ (å _ (gK hb e)))).2.1
  cases f with
  |next=>obtain⟨σ7,H7,I7,n7⟩:=q7;exact again I7 n7
  |cont=>obtain⟨σ7,H7,I7,n7⟩:=q7;exact again I7 n7
  |brk=>obtain⟨σ7,H7,I7,q7⟩:=q7;exact⟨σ7,H7,I7.jM,q7⟩
  |ret v=>obtain⟨x7,σ7,H7,I7,r7,q7⟩:=q7;exact⟨x7,σ7,H7,I7.jM,r7,q7⟩
end
def tG{lo:Int}{n:Nat}{g:TG}{tb:TS}{D:Ends}{σ:St}{H:Hp}(Pv:Nat->St->Hp->Prop)(h0:Pv 0 σ H)(hs:∀i σ H,i<n->Pv i σ H->g (.int (lo+i)) σ H λσ2 H2=>tb { D with nx:=Pv (i+1),ct:=Pv (i+1),bk:=D.nx } σ2 H2)(hd:∀σ H,Pv n σ H->D.nx σ H) :
  ∃W:Nat->Nat->St->Hp->Prop,(∃m,W 0 m σ H)/\∀i m σ H,W i m σ H ->
   ((Itr lo n).stop i H/\D.nx σ H)\/((Itr lo n).go i H/\∃N:St->Hp->Prop,(∀σ' H',N σ' H'->∃m',m'<m/\W (i+1) m' σ' H')/\∀x H',(Itr lo n).yld i H x H'->g x σ H' λσ2 H2=>tb { D with nx:=N,ct:=N,bk:=D.nx } σ2 H2):=by
 refine⟨λi m σ H=>m=n - i/\i<=n/\Pv i σ H,⟨n,by simp,ä _,h0⟩,?_⟩
 rintro i m σ H ⟨rfl,hi,p⟩
 by_cases hlt:i<n
 ·refine .inr ⟨hlt,Pv (i+1),λσ' H' p'=>⟨n - (i+1),by omega,rfl,hlt,p'⟩,λx H' y=>?_⟩
  obtain⟨e,y⟩:=y
  subst e y
  exact hs i σ _ hlt p
 ·have e:i=n:=by omega
  subst e
  exact .inl ⟨Ì _,hd σ H p⟩
abbrev R2:=V->V->Hp->VK->Prop
def OpR(X:Cx)(f:Value->Value->Sem Value)(r:R2):Prop :=
 ∀(pins:List (Addr×Obj)) (s:Shared) (σ:St) (H:Hp) (x y:V) (v u:Value) (Q:VK),Inv X pins σ H s->RelV x v->RelV y u->r x y H Q ->
  wpAny (model X.prog X.w) X.A (f v u) (EP X pins σ Q) X.xe s
def UnR(X:Cx)(f:Value->Sem Value)(r:V->Hp->VK->Prop):Prop :=
 ∀(pins:List (Addr×Obj)) (s:Shared) (σ:St) (H:Hp) (x:V) (v:Value) (Q:VK),Inv X pins σ H s->RelV x v->r x H Q ->
  wpAny (model X.prog X.w) X.A (f v) (EP X pins σ Q) X.xe s
def bC(X:Cx)(f:Value)(r:List V->Hp->VK->Prop):Prop :=
 ∀(pins:List (Addr×Obj)) (s:Shared) (σ:St) (H:Hp) (xs:List V) (us:List Value) (Q:VK),Inv X pins σ H s->Vals xs us->r xs H Q ->
  wpAny (model X.prog X.w) X.A (call f us) (EP X pins σ Q) X.xe s
def Wj(X:Cx)(r:V->Hp->(Bool->Hp->Prop)->Prop):Prop :=
 ∀(pins:List (Addr×Obj)) (s:Shared) (σ:St) (H:Hp) (x:V) (v:Value) (Q:Bool->Hp->Prop),Inv X pins σ H s->RelV x v->r x H Q ->
  wpAny (model X.prog X.w) X.A (truthy v) (TP X pins σ Q) X.xe s
def tOp(r:R2)(ta tb:TE):TE:=λσ H Q=>ta σ H λx H1=>tb σ H1 λy H2=>r x y H2 Q
def tUn(r:V->Hp->VK->Prop)(ta:TE):TE:=λσ H Q=>ta σ H λx H1=>r x H1 Q
def rI(C:Int->Int->Prop)(g:Int->Int->V):R2:=λx y H Q=>∃i j,x=.int i/\y=.int j/\C i j/\Q (g i j) H
def rI0(g:Int->Int->V):R2:=λx y H Q=>∃i j,x=.int i/\y=.int j/\Q (g i j) H
def rU(g:Int->V):V->Hp->VK->Prop:=λx H Q=>∃i,x=.int i/\Q (g i) H
section
variable {X:Cx}{a b c:Expr}{ta tb tc:TE}{pos:Pos}
def R0(ha:PE X a ta)(hb:PE X b tb){pins:List (Addr×Obj)}{s:Shared}{σ:St}{H:Hp}{R:V->V->Hp->Prop}(I:Inv X pins σ H s)(h:ta σ H λx H1=>tb σ H1 λy H2=>R x y H2){Q:Value->Shared->Prop}{f:Value->Value->Sem Value}(hf:∀v u s2 x y H2,Inv X pins σ H2 s2->RelV x v->RelV y u->R x y H2->wpAny (model X.prog X.w) X.A (f v u) Q X.xe s2) :
  wpAny (model X.prog X.w) X.A (eval a X.env) (λv s₁=>wpAny (model X.prog X.w) X.A (eval b X.env) (λu s₂=>wpAny (model X.prog X.w) X.A (f v u) Q X.xe s₂) X.xe s₁) X.xe s:=by
 refine thn (ha pins s σ H _ I h) λv s1 ⟨x,H1,I1,r1,q1⟩=>?_
 refine thn (hb pins s1 σ H1 _ I1 q1) λu s2 ⟨y,H2,I2,r2,q2⟩=>?_
 exact hf v u s2 x y H2 I2 r1 r2 q2
def aW{op:Operator}{r:R2}(ho:OpR X (binaryOp op) r)(ha:PE X a ta)(hb:PE X b tb):PE X (.BinOp a op b pos) (tOp r ta tb):=by
 intro pins s σ H Q I h
 exact wpAny_BinOp (R0 ha hb I h λv u s2 x y H2 I2 rx ry q=>ho pins s2 σ H2 x y v u Q I2 rx ry q)
def T4{op:UnaryOp}{r:V->Hp->VK->Prop}(ho:UnR X (unaryOp op) r)(ha:PE X a ta):PE X (.UnaryOp op a pos) (tUn r ta):=by
 intro pins s σ H Q I h
 exact UnaryOp_ (thn (ha pins s σ H _ I h) λv s1 ⟨x,H1,I1,r1,q1⟩=>ho pins s1 σ H1 x v Q I1 r1 q1)
def opI{f:Value->Value->Sem Value}{C:Int->Int->Prop}{g:Int->Int->Int}(rule:∀(i j:Int) (t u:Tok) (s:Shared) (Q:Value->Shared->Prop) (E:Value->Shared->Prop),C i j->Q (.int (g i j) s.toks) { s with toks:=s.toks+1 }->wpAny (model X.prog X.w) X.A (f (.int i t) (.int j u)) Q E s) :
  OpR X f (rI C λi j=>.int (g i j)):=by
 intro pins s σ H x y v u Q I rx ry h
 obtain⟨i,j,rfl,rfl,hc,q⟩:=h
 obtain⟨t,rfl⟩:=rx
 obtain⟨t',rfl⟩:=ry
 exact rule i j t t' s _ _ hc ⟨.int (g i j),H,I.tok _,⟨_,rfl⟩,q⟩
def T9{f:Value->Value->Sem Value}{g:Int->Int->Int}(rule:∀(i j:Int) (t u:Tok) (s:Shared) (Q:Value->Shared->Prop) (E:Value->Shared->Prop),Q (.int (g i j) s.toks) { s with toks:=s.toks+1 }->wpAny (model X.prog X.w) X.A (f (.int i t) (.int j u)) Q E s) :
  OpR X f (rI0 λi j=>.int (g i j)):=by
 intro pins s σ H x y v u Q I rx ry h
 obtain⟨i,j,rfl,rfl,q⟩:=h
 obtain⟨t,rfl⟩:=rx
 obtain⟨t',rfl⟩:=ry
 exact rule i j t t' s _ _ ⟨.int (g i j),H,I.tok _,⟨_,rfl⟩,q⟩
def K6{f:Value->Value->Sem Value}{g:Int->Int->Bool}(rule:∀(i j:Int) (t u:Tok) (s:Shared) (Q:Value->Shared->Prop) (E:Value->Shared->Prop),Q (.bool (g i j)) s->wpAny (model X.prog X.w) X.A (f (.int i t) (.int j u)) Q E s) :
  OpR X f (rI0 λi j=>.bl (g i j)):=by
 intro pins s σ H x y v u Q I rx ry h
 obtain⟨i,j,rfl,rfl,q⟩:=h
 obtain⟨t,rfl⟩:=rx
 obtain⟨t',rfl⟩:=ry
 exact rule i j t t' s _ _ ⟨.bl (g i j),H,I,rfl,q⟩
def Wn(i j:Int):Prop:=0<j/\j<1073741824
def Sd(i j:Int):Prop:=0<=j/\j<=1000000/\i.natAbs<2 ^ 64
def Nz(i j:Int):Prop:=(-(2 ^ 64)<i/\i<2 ^ 64)\/(-(2 ^ 64)<j/\j<2 ^ 64)
def Nz.ok{i j:Int}(h:Nz i j):IntMulOk i j:=by
 rcases h with ⟨h1,h2⟩|⟨h1,h2⟩
 ·exact .of_left (intBits_le_64 h1 h2)
 ·exact .of_right (intBits_le_64 h1 h2)
def dJ:OpR X (binaryOp .Add) (rI0 λi j=>.int (i+j)):=T9 λ_ _ _ _ _ _ _ q=>add_int q
def Hj:OpR X (binaryOp .Sub) (rI0 λi j=>.int (i - j)):=T9 λ_ _ _ _ _ _ _ q=>sub_int q
def cN:OpR X (binaryOp .Mult) (rI Nz λi j=>.int (i * j)):=opI λ_ _ _ _ _ _ _ hc q=>mul_int q hc.ok
def K3:OpR X (binaryOp .FloorDiv) (rI Wn λi j=>.int (i / j)):=opI λi j _ _ _ _ _ hc q=>by
 have h1:(0:Int)<j:=hc.1
 have h2:j<1073741824:=hc.2
 exact floordiv_int (by omega) (by rw[Int.fdiv_eq_ediv_of_nonneg i (by omega)];exact q) (.inl (PyProof.noPylong_small (by omega)))
def d9:OpR X (binaryOp .Mod) (rI (λ_ j=>0<j) λi j=>.int (i % j)):=opI λi j _ _ _ _ _ hc q=>by
 have h1:(0:Int)<j:=hc
 exact mod_int' (by omega) (by rw[Int.fmod_eq_emod_of_nonneg i (by omega)];exact q)
def Ho:OpR X (binaryOp .Pow) (rI Sd λi j=>.int (i ^ j.toNat)):=opI λ_ _ _ _ _ _ _ hc q=>pow_int_small hc.1 hc.2.1 hc.2.2 q
def unI{f:Value->Sem Value}{g:Int->Int}(rule:∀(i:Int) (t:Tok) (s:Shared) (Q:Value->Shared->Prop) (E:Value->Shared->Prop),Q (.int (g i) s.toks) { s with toks:=s.toks+1 }->wpAny (model X.prog X.w) X.A (f (.int i t)) Q E s) :
  UnR X f (rU λi=>.int (g i)):=by
 intro pins s σ H x v Q I rx h
 obtain⟨i,rfl,q⟩:=h
 obtain⟨t,rfl⟩:=rx
 exact rule i t s _ _ ⟨.int (g i),H,I.tok _,⟨_,rfl⟩,q⟩
def O1:UnR X (unaryOp .USub) (rU λi=>.int (-i)):=unI λ_ _ _ _ _ q=>neg_int q
end
def Tj:V->V->Bool
 |.non,.non=>true|.non,.int _=>true|.int _,.non=>true|.non,.bl _=>true|.bl _,.non=>true|.non,.str _=>true|.str _,.non=>true
 |.int _,.int _=>true|.bl _,.bl _=>true|.str _,.str _=>true|.byt _,.byt _=>true
 |.int _,.str _=>true|.str _,.int _=>true|.bl _,.str _=>true|.str _,.bl _=>true
 |_,_=>false
def rEq:R2:=λx y H Q=>Tj x y=true/\Q (.bl (decide (x=y))) H
def rNe:R2:=λx y H Q=>Tj x y=true/\Q (.bl (!decide (x=y))) H
def CW{i j:Int}:decide (V.int i=V.int j)=(i == j):=by
 rw[ę]
 simp
def JH{i j:Bool}:decide (V.bl i=V.bl j)=(i == j):=by
 rw[ę]
 simp
def CV{i j:Str}:decide (V.str i=V.str j)=(i == j):=by
 rw[ę]
 simp
def CZ{i j:Array UInt8}:decide (V.byt i=V.byt j)=(i.toList == j.toList):=by
 rw[ę]
 cases i
 cases j
 simp
section
variable {X:Cx}{a b c:Expr}{ta tb tc:TE}{pos:Pos}
def aN{pins:List (Addr×Obj)}{σ:St}{H:Hp}{s:Shared}{Q:VK}{k k':Bool}(I:Inv X pins σ H s)(q:Q (.bl k) H)(e:k=k'):EP X pins σ Q (.bool k') s:=by
 subst e
 exact⟨.bl k,H,I,rfl,q⟩
def wO:OpR X (compareOp .Eq) rEq:=by
 intro pins s σ H x y v u Q I rx ry h
 obtain⟨hs,q⟩:=h
 cases x with
 |non =>
  cases rx
  cases y with
  |non=>cases ry;exact PySem.EqNone.eq_none_none (aN I q (by simp))
  |bl j=>cases ry;exact PySem.EqNone.eq_none_bool (aN I q (by simp))
  |int j=>obtain⟨t',rfl⟩:=ry;exact PySem.EqNone.eq_none_int (aN I q (by simp))
  |str j=>obtain⟨t',rfl⟩:=ry;exact PySem.EqNone.eq_none_str (aN I q (by simp))
  |_=>exact absurd (show false=true from hs) É
 |bl i =>
  cases rx
  cases y with
  |non=>cases ry;exact PySem.EqNone.eq_bool_none (aN I q (by simp))
  |bl j=>cases ry;exact eq_bool (aN I q JH)
  |str j=>obtain⟨t',rfl⟩:=ry;exact PySem.EqMixed.eq_bool_str (aN I q (by simp))
  |_=>exact absurd (show false=true from hs) É
 |int i =>
  obtain⟨t,rfl⟩:=rx
  cases y with
  |non=>cases ry;exact PySem.EqNone.eq_int_none (aN I q (by simp))
  |int j=>obtain⟨t',rfl⟩:=ry;exact eq_int (aN I q CW)
  |str j=>obtain⟨t',rfl⟩:=ry;exact PySem.EqMixed.eq_int_str (aN I q (by simp))
  |_=>exact absurd (show false=true from hs) É
 |str i =>
  obtain⟨t,rfl⟩:=rx
  cases y with
  |non=>cases ry;exact PySem.EqNone.eq_str_none (aN I q (by simp))
  |bl j=>cases ry;exact PySem.EqMixed.eq_str_bool (aN I q (by simp))
  |int j=>obtain⟨t',rfl⟩:=ry;exact PySem.EqMixed.eq_str_int (aN I q (by simp))
  |str j=>obtain⟨t',rfl⟩:=ry;exact eq_str (aN I q CV)
  |_=>exact absurd (show false=true from hs) É
 |byt i =>
  obtain⟨t,rfl⟩:=rx
  cases y with
  |byt j=>obtain⟨t',rfl⟩:=ry;exact W.eq_bytes (aN I q CZ)
  |_=>exact absurd (show false=true from hs) É
 |_=>cases y <;> exact absurd (show false=true from hs) É
def Ca:OpR X (compareOp .NotEq) rNe:=by
 intro pins s σ H x y v u Q I rx ry h
 obtain⟨hs,q⟩:=h
 cases x with
 |non =>
  cases rx
  cases y with
  |non=>cases ry;exact PySem.EqNone.ne_none_none (aN I q (by simp))
  |bl j=>cases ry;exact PySem.EqNone.ne_none_bool (aN I q (by simp))
  |int j=>obtain⟨t',rfl⟩:=ry;exact PySem.EqNone.ne_none_int (aN I q (by simp))
  |str j=>obtain⟨t',rfl⟩:=ry;exact PySem.EqNone.ne_none_str (aN I q (by simp))
  |_=>exact absurd (show false=true from hs) É
 |bl i =>
  cases rx
  cases y with
  |non=>cases ry;exact PySem.EqNone.ne_bool_none (aN I q (by simp))
  |bl j=>cases ry;exact ne_bool (aN I q (congrArg not JH))
  |str j=>obtain⟨t',rfl⟩:=ry;exact PySem.EqMixed.ne_bool_str (aN I q (by simp))
  |_=>exact absurd (show false=true from hs) É
 |int i =>
  obtain⟨t,rfl⟩:=rx
  cases y with
  |non=>cases ry;exact PySem.EqNone.ne_int_none (aN I q (by simp))
  |int j=>obtain⟨t',rfl⟩:=ry;exact ne_int (aN I q (congrArg not CW))
  |str j=>obtain⟨t',rfl⟩:=ry;exact PySem.EqMixed.ne_int_str (aN I q (by simp))
  |_=>exact absurd (show false=true from hs) É
 |str i =>
  obtain⟨t,rfl⟩:=rx
  cases y with
  |non=>cases ry;exact PySem.EqNone.ne_str_none (aN I q (by simp))
  |bl j=>cases ry;exact PySem.EqMixed.ne_str_bool (aN I q (by simp))
  |int j=>obtain⟨t',rfl⟩:=ry;exact PySem.EqMixed.ne_str_int (aN I q (by simp))
  |str j=>obtain⟨t',rfl⟩:=ry;exact ne_str (aN I q (congrArg not CV))
  |_=>exact absurd (show false=true from hs) É
 |byt i =>
  obtain⟨t,rfl⟩:=rx
  cases y with
  |byt j=>obtain⟨t',rfl⟩:=ry;exact W.ne_bytes (aN I q (congrArg not CZ))
  |_=>exact absurd (show false=true from hs) É
 |_=>cases y <;> exact absurd (show false=true from hs) É
def Cd:OpR X (compareOp .Lt) (rI0 λi j=>.bl (decide (i<j))):=K6 λ_ _ _ _ _ _ _ q=>lt_int q
def Hq:OpR X (compareOp .LtE) (rI0 λi j=>.bl (decide (i<=j))):=K6 λ_ _ _ _ _ _ _ q=>le_int q
def wN:OpR X (compareOp .Gt) (rI0 λi j=>.bl (decide (j<i))):=K6 λ_ _ _ _ _ _ _ q=>gt_int q
def Oa:OpR X (compareOp .GtE) (rI0 λi j=>.bl (decide (j<=i))):=K6 λ_ _ _ _ _ _ _ q=>ge_int q
def Hr:OpR X (compareOp .Is) (λx y H Q=>y=.non/\Q (.bl (decide (x=.non))) H):=by
 intro pins s σ H x y v u Q I rx ry h
 obtain⟨rfl,q⟩:=h
 cases ry
 refine is_none_gen (aN I q ?_)
 cases x <;> first
  |(cases rx;rfl)
  |(obtain⟨t,rfl⟩:=rx;rfl)
def bx(b:Expr){op:CmpOp}(h:op≠.In:=by decide)(h2:op≠.NotIn:=by decide):behindInMarks op b=false:=by
 have e1:(op == CmpOp.In)=false:=by cases op <;> first|rfl|exact absurd rfl h
 have e2:(op == CmpOp.NotIn)=false:=by cases op <;> first|rfl|exact absurd rfl h2
 cases b <;> simp[behindInMarks,e1,e2]
def KY{op:CmpOp}{r:R2}(ho:OpR X (compareOp op) r)(ha:PE X a ta)(hb:PE X b tb)(hm:behindInMarks op b=false):PE X (.Compare a [op] [b] pos) (tOp r ta tb):=by
 intro pins s σ H Q I h
 exact wpAny_Compare1 (R0 ha hb I h λv u s2 x y H2 I2 rx ry q=>ho pins s2 σ H2 x y v u Q I2 rx ry q) hm
def Sw(t:TE):TT:=λσ H Q=>t σ H λx H'=>∃k,x=.bl k/\Q k H'
def eH{op:CmpOp}{r:R2}(ho:OpR X (compareOp op) r)(ha:PE X a ta)(hb:PE X b tb)(hm:behindInMarks op b=false):PT X (.Compare a [op] [b] pos) (Sw (tOp r ta tb)):=by
 intro pins s σ H Q I h
 refine wpAny_isTrue_Compare1 (thn (ha pins s σ H _ I h) λv s1 ⟨x,H1,I1,r1,q1⟩=>thn (hb pins s1 σ H1 _ I1 q1) λu s2 ⟨y,H2,I2,r2,q2⟩ =>
  thn (ho pins s2 σ H2 x y v u _ I2 r1 r2 q2) λc s3 ⟨z,H3,I3,r3,k,e,q3⟩=>?_) hm
 subst e
 cases r3
 exact į ⟨H3,I3,q3⟩
def Gh(r r':R2)(ta tb tc:TE):TE:=λσ H Q=>ta σ H λx H1=>tb σ H1 λy H2=>r x y H2 λz H3=>∃k,z=.bl k /\
 (if k=true then tc σ H3 λw' H4=>r' y w' H4 Q else Q (.bl false) H3)
def G9{op op':CmpOp}{r r':R2}(ho:OpR X (compareOp op) r)(ho':OpR X (compareOp op') r')(ha:PE X a ta)(hb:PE X b tb)(hc:PE X c tc)(hm:lastMarks [op,op'] [b,c]=false:=by with_unfolding_all rfl):PE X (.Compare a [op,op'] [b,c] pos) (Gh r r' ta tb tc):=by
 intro pins s σ H Q I h
 refine Compare_chain (thn (ha pins s σ H _ I h) λv s1 ⟨x,H1,I1,r1,q1⟩=>chain_link (thn (hb pins s1 σ H1 _ I1 q1) λu s2 ⟨y,H2,I2,r2,q2⟩ =>
  thn (ho pins s2 σ H2 x y v u _ I2 r1 r2 q2) λd s3 ⟨z,H3,I3,r3,k,e,q3⟩=>?_)) hm
 subst e
 cases r3
 refine į ?_
 cases k with
 |false=>exact ite_ff ⟨.bl false,H3,I3,rfl,q3⟩
 |true=>exact ite_tt (chain_last (thn (hc pins s3 σ H3 _ I3 q3) λw' s4 ⟨z',H4,I4,r4,q4⟩=>ho' pins s4 σ H4 y z' u w' Q I4 r2 r4 q4))
def Ve(K:Ñ)(x:V)(H:Hp)(k:Bool):Prop :=
 match x with
 |.non=>k=false
 |.bl b=>k=b
 |.int i=>k=(i != 0)
 |.str y=>y.length<=sizeLine/\k=((y.length:Int) != 0)
 |.byt y=>y.size<=sizeLine/\k=((y.size:Int) != 0)
 |.ref p=>(∃xs,SqL K H p xs/\k=!xs.isEmpty)\/(∃xs,SqT K H p xs/\k=!xs.isEmpty)\/∃kvs,H p=some (.dK kvs)/\k=!kvs.isEmpty
 |_=>False
def zY{κ:Type}{kvs:List (κ×V)}{vs:List (κ×Value)}(r:KV kvs vs):(!vs.isEmpty)=!kvs.isEmpty:=by
 cases r <;> rfl
def qR{xs:List V}{its:List Value}(r:Vals xs its):(!its.toArray.isEmpty)=!xs.isEmpty:=by
 cases r <;> simp
def qO:(sizeLine:Nat)<2 ^ 63:=by rw[ì];decide
def O4:Wj X (λx H Q=>∃k,Ve X.K x H k/\Q k H):=by
 intro pins s σ H x v Q I rx h
 obtain⟨k,e,q⟩:=h
 have hl:=qO
 have hs:sizeLine=16777216:=ì
 cases x with
 |non =>
  cases rx
  have e':k=false:=e
  subst e'
  exact truthy_none ⟨H,I,q⟩
 |bl b =>
  cases rx
  have e':k=b:=e
  subst e'
  exact į ⟨H,I,q⟩
 |int i =>
  obtain⟨t,rfl⟩:=rx
  have e':k=(i != 0):=e
  subst e'
  exact PySem.P.truthy_int ⟨H,I,q⟩
 |str y =>
  obtain⟨t,rfl⟩:=rx
  obtain⟨hy,e'⟩:y.length<=sizeLine/\k=((y.length:Int) != 0):=e
  subst e'
  exact PySem.P.truthy_str (by omega) ⟨H,I.tok _,q⟩
 |byt y =>
  obtain⟨t,rfl⟩:=rx
  obtain⟨hy,e'⟩:y.size<=sizeLine/\k=((y.size:Int) != 0):=e
  subst e'
  exact W.truthy_bytes (by omega) ⟨H,I.tok _,q⟩
 |ref p =>
  cases rx
  have e':(∃xs,SqL X.K H p xs/\k=!xs.isEmpty)\/(∃xs,SqT X.K H p xs/\k=!xs.isEmpty)\/∃kvs,H p=some (.dK kvs)/\k=!kvs.isEmpty:=e
  rcases e' with ⟨xs,hx,e'⟩|⟨xs,hx,e'⟩|⟨kvs,hx,e'⟩
  ·subst e'
   obtain⟨its,r,pl,hz⟩:=I.list hx
   have hlen:=r.length
   exact wpAny_truthy_list pl.isList (by simp only[Ï];omega) ⟨H,I.tok _,by rw[qR r];exact q⟩
  ·subst e'
   obtain⟨its,r,pl,hz⟩:=I.tuple hx
   have hlen:=r.length
   exact truthy_tuple pl (by simp only[Ï];omega) ⟨H,I.tok _,by rw[qR r];exact q⟩
  ·subst e'
   obtain⟨hz,hS,vs,r,m⟩:kvs.length<=sizeLine/\(p == sysModules)=false/\∃vs,KV kvs vs/\s.heap.DictOf (jl X.prog X.w) p vs:=I.hok p _ hx
   have hlen:kvs.length=vs.length:=Paired.length r
   exact wpAny_truthy_dict hS m (by omega) ⟨H,I.tok _,by rw[zY r];exact q⟩
 |_=>exact(show False from e).elim
def vals1{x:V}{us:List Value}(r:Vals [x] us):∃u,us=[u]/\RelV x u:=by
 cases r with
 |cons r1 r2=>cases r2;exact⟨_,rfl,r1⟩
def vals2{x y:V}{us:List Value}(r:Vals [x,y] us):∃u w',us=[u,w']/\RelV x u/\RelV y w':=by
 cases r with
 |cons r1 r2 =>
  cases r2 with
  |cons r3 r4=>cases r4;exact⟨_,_,rfl,r1,r3⟩
def Fp(hc:X.calm=true):bC X (.builtin "max") (λxs H Q=>∃i j,xs=[.int i,.int j]/\Q (.int (if j > i then j else i)) H):=by
 intro pins s σ H xs us Q I r h
 obtain⟨i,j,rfl,q⟩:=h
 obtain⟨u,w',rfl,⟨t,rfl⟩,⟨t',rfl⟩⟩:=vals2 r
 refine max_two_ints (I.ok.hd hc) λh' tk k=>⟨_,H,I.kept k,?_,q⟩
 by_cases hj:j > i
 ·rw[if_pos hj,if_pos hj];exact⟨_,rfl⟩
 ·rw[if_neg hj,if_neg hj];exact⟨_,rfl⟩
def Fq:bC X (.type "int") (λxs H Q=>(∃i,xs=[.int i]/\Q (.int i) H)\/∃k,xs=[.bl k]/\Q (.int (if k then 1 else 0)) H):=by
 intro pins s σ H xs us Q I r h
 rcases h with ⟨i,rfl,q⟩|⟨k,rfl,q⟩
 ·obtain⟨u,rfl,t,rfl⟩:=vals1 r
  exact call_int_int ⟨.int i,H,I,⟨_,rfl⟩,q⟩
 ·obtain⟨u,rfl,r1⟩:=vals1 r
  cases r1
  exact call_int_bool ⟨.int (if k then 1 else 0),H,I.tok _,⟨_,rfl⟩,q⟩
def vM:bC X (.type "str") (λxs H Q=>∃i,xs=[.int i]/\i.natAbs.log2<1920/\Q (.str (toString i)) H):=by
 intro pins s σ H xs us Q I r h
 obtain⟨i,rfl,hz,q⟩:=h
 obtain⟨u,rfl,t,rfl⟩:=vals1 r
 exact PySem.P.str_of_int hz ⟨.str _,H,I.tok _,⟨_,rfl⟩,q⟩
end
structure ObjM(h:Heap)(x dx C:Addr)(mA:Str->Option Value):Prop where
 obj:h.get? x=some (W.instObj C dx)
 ns:h.Ns1 dx mA
 ne:dx≠x
def El{h:Heap}{dx:Addr}{mA:Str->Option Value}(n:h.Ns1 dx mA):∃od,h.get? dx=some od/\∀name,W.lookIn name od=some (mA name):=by
 obtain⟨o,es,ep,ho,hd,hk,_,hm⟩:=n
 refine⟨o,ho,λname=>?_⟩
 have e:=hm name
 unfold nsFind findBy at e
 rw[←Array.find?_toList] at e
 unfold W.lookIn
 rw[hd]
 dsimp only
 split
 ·rename_i y q
  rw[q] at e
  exact congrArg some e
 ·rename_i q
  rw[q] at e
  have a:es.toList.any (·.refKey)=false:=by
   rw[List.any_eq_false]
   intro y hy
   obtain⟨z,t,hkey⟩:=hk y (Array.mem_toList_iff.mp hy)
   simp[DictEntry.refKey,hkey]
  have a':¬es.toList.any (·.refKey)=true:=by rw[a];exact É
  rw[if_neg a']
  exact congrArg some e
def ObjM.look{h:Heap}{x dx C:Addr}{mA:Str->Option Value}(I:ObjM h x dx C mA):∃od,W.InstAt h x (W.instObj C dx) C (some od)/\∀name,W.lookIn name od=some (mA name) :=
 let ⟨od,ho,hl⟩:=El I.ns
 ⟨od,⟨I.obj,rfl,rfl,ho⟩,hl⟩
section
variable {prog:Program}{w:World}{A:Around}{E:Value->Shared->Prop}{s:Shared}{K:Ñ}{x dx C f:Addr}{mA:Str->Option Value}{name:Str}{v:Value}
end
section
variable {P:Program}{w:World}{H H':Hp}{h h':Heap}{a C dx:Addr}{fs fs':List (Str×V)}
def Cu(hok:HOk P w H h)(e:H a=some (.ins C dx fs)):∃mA,ObjM h a dx C mA/\(∀f,R8 (fs.lookup f) (mA f))/\PySem.Within mA (fs.map (·.1))/\fs.length<=1000/\H dx=some (.own a):=by
 obtain⟨d,z,ne,ob,mA,n,r,q⟩:=(show aU P w H h a (.ins C dx fs) from hok a _ e)
 exact⟨mA,⟨ob,n,ne⟩,r,q,z,d⟩
end
structure Cls(K:Ñ)(C:Addr):Prop where
 pg:W.plainGet K C Str.empty=true
 hd:W.hasDictIn K C=true
 po:W.plainOver K C=true
 sa:W.findIn K (.ref C) "__setattr__"=some (some (.builtin "object.__setattr__"))
def Cls.get{K:Ñ}{C:Addr}(c:Cls K C)(f:Str):W.plainGet K C f=true:=c.pg
structure Con(K:Ñ)(C:Addr)(f:Str)(v:V)(u:Value):Prop where
 at_:W.findIn K (.ref C) f=some (some u)
 rel:RelV v u
 get:W.specialIn K u "__get__"=some none
 cp:W.copiedNames.contains f=false
structure Meth(K:Ñ)(C:Addr)(m:Str)(f:Addr):Prop where
 at_:W.findIn K (.ref C) m=some (some (.ref f))
 fn:W.isFn K (.ref f)=true
 kp:W.keepIn K (.ref f)=true
section
variable {X:Cx}{pins:List (Addr×Obj)}{σ:St}{H:Hp}{s:Shared}{a C dx:Addr}{fs:List (Str×V)}{f:Str}{v:V}{A:Around}{E:Value->Shared->Prop}
end
section
variable {X:Cx}{o e value:Expr}{f:Str}{pos pos' tpos:Pos}{ta tv:TE}
end
section
variable {X:Cx}{pins:List (Addr×Obj)}{σ:St}{H:Hp}{s:Shared}{A:Around}{E:Value->Shared->Prop}{Q:Value->Shared->Prop}{c:Value}{b:Bool}
inductive TyOf(K:Ñ)(H:Hp):V->Value->Prop where
 |non:TyOf K H .non (.type "NoneType")
 |bl (x:Bool):TyOf K H (.bl x) (.type "bool")
 |int (i:Int):TyOf K H (.int i) (.type "int")
 |str (x:Str):TyOf K H (.str x) (.type "str")
 |flt (x:UInt64):TyOf K H (.flt x) (.type "float")
 |lst {a:Addr}{xs:List V} (e:H a=some (.lst xs)):TyOf K H (.ref a) (.type "list")
 |frz {a:Addr}{o:Obj}{xs:List V} (e:H a=some (.frz o (.lst xs))):TyOf K H (.ref a) (.type "list")
 |tup {a:Addr}{xs:List V} (e:H a=some (.tup xs)):TyOf K H (.ref a) (.type "tuple")
 |dK {a:Addr}{kvs:List (Key×V)} (e:H a=some (.dK kvs)):TyOf K H (.ref a) (.type "dict")
 |dT {a:Addr}{kvs:List (List Key×V)} (e:H a=some (.dT kvs)):TyOf K H (.ref a) (.type "dict")
 |ins {a C dx:Addr}{fs:List (Str×V)} (e:H a=some (.ins C dx fs)) (cl:Cls K C) (ha:W.findIn K (.ref C) "__class__"=some (some (.builtin "object.__class__")))
   (hn:W.specialIn K (.builtin "object.__class__") "__get__"=some (some (.builtin "getset_descriptor.__get__"))) (htk:W.takesIn K (.builtin "object.__class__")=some true)
   (hm:ű K C (.type "object")=some true):TyOf K H (.ref a) (.ref C)
def Et{x:V}{u t:Value}(I:Inv X pins σ H s)(rx:RelV x u)(ty:TyOf X.K H x t)(e:Ŕ X.K t c=some b)(h:∀tk,Q (.bool b) { s with toks:=tk }) :
  wpAny (model X.prog X.w) A (call (.builtin "isinstance") [u,c]) Q E s:=by
 cases ty with
 |non=>cases (show u=ý from rx);exact š W.kitx_none I.kIn ť e (λz=>nomatch z) h
 |bl y=>cases (show u=ŕ y from rx);exact š W.kitx_bool I.kIn ť e (λz=>nomatch z) h
 |int i=>obtain⟨t,q⟩:=(show ∃t,u=ĕ i t from rx);cases q;exact š W.kitx_int I.kIn ť e (λz=>nomatch z) h
 |str y=>obtain⟨t,q⟩:=(show ∃t,u=Value.str y t from rx);cases q;exact š W.kitx_str I.kIn ť e (λz=>nomatch z) h
 |flt y=>obtain⟨t,q⟩:=(show ∃t,u=Value.float y t from rx);cases q;exact š W.kitx_float I.kIn ť e (λz=>nomatch z) h
 |@lst a xs ea =>
  cases (show u=ü a from rx)
  obtain⟨_,_,n,_,h1⟩:=(show aU X.prog X.w H s.heap a (.lst xs) from I.hok a _ ea)
  exact š W.kitx_list I.kIn ⟨_,h1,rfl⟩ e (λz=>nomatch z) h
 |@frz a ob xs ea =>
  cases (show u=ü a from rx)
  obtain⟨_,_,_,n,_,h1⟩:=(show aU X.prog X.w H s.heap a (.frz ob (.lst xs)) from I.hok a _ ea)
  exact š W.kitx_list I.kIn ⟨_,h1,rfl⟩ e (λz=>nomatch z) h
 |@tup a xs ea =>
  cases (show u=ü a from rx)
  obtain⟨_,_,_,p⟩:=(show aU X.prog X.w H s.heap a (.tup xs) from I.hok a _ ea)
  obtain⟨o,h1,h2,_⟩:=p
  exact š W.kitx_tuple I.kIn ⟨o,h1,h2⟩ e (λz=>nomatch z) h
 |@dK a kvs ea =>
  cases (show u=ü a from rx)
  obtain⟨_,_,vs,_,p⟩:=(show aU X.prog X.w H s.heap a (.dK kvs) from I.hok a _ ea)
  obtain⟨o,es,ep,h1,h2,_⟩:=p
  exact š W.kitx_dict I.kIn ⟨o,h1,h2.1⟩ e (λz=>nomatch z) h
 |@dT a kvs ea =>
  cases (show u=ü a from rx)
  obtain⟨_,_,xs,_,o,es,ep,h1,h2,_⟩:=(show aU X.prog X.w H s.heap a (.dT kvs) from I.hok a _ ea)
  exact š W.kitx_dict I.kIn ⟨o,h1,h2.1⟩ e (λz=>nomatch z) h
 |@ins a C dx fs ea cl ha hn htk hm =>
  cases (show u=ü a from rx)
  obtain⟨mA,O,_⟩:=Cu I.hok ea
  obtain⟨od,J,_⟩:=O.look
  exact š (W.kitx_own (cl.get _) cl.hd ha hn htk hm) I.kIn J e (λz=>nomatch z) h
end
structure Room(k:Nat)(A:Around):Prop where
 hd:A.handled=none
 dp:A.depth+3 * k+5<recursionLimit
 un:A.units+16 * k+200<cLine
 gd:A.guards=some []
def Room.mono{j k:Nat}{A:Around}(r:Room k A)(h:j<=k):Room j A:=⟨r.hd,by have:=r.dp;omega,by have:=r.un;omega,r.gd⟩
def Room.deeper{k:Nat}{A:Around}(r:Room (k+1) A)(env:Env):Room k (A.deeper env) :=
 ⟨r.hd,by have:=r.dp;show A.depth+1+3 * k+5<_;omega,by have:=r.un;show A.units+3+16 * k+200<_;omega,r.gd⟩
def Room.in1{k:Nat}{A:Around}(r:Room (k+1) A):Room k A.in1 :=
 ⟨r.hd,by have:=r.dp;show A.depth+3 * k+5<_;omega,by have:=r.un;show A.units+1+16 * k+200<_;omega,r.gd⟩
def Room.depth{k:Nat}{A:Around}(r:Room k A):A.depth<recursionLimit:=by have:=r.dp;omega
def Room.units{k:Nat}{A:Around}(r:Room k A):A.units+64<cLine:=by have:=r.un;omega
def O9:TA:=λ_ H Q=>Q [] H
def Gg(ta:TE)(tr:TA):TA:=λσ H Q=>ta σ H λx H1=>tr σ H1 λxs H2=>Q (x::xs) H2
section
variable {X:Cx}{e:Expr}{es:List Expr}{te:TE}{t:TA}{pos:Pos}
def jH:PA X [] O9:=λ_ _ _ _ H Q I h=>Calls.spliced_nil ⟨[],H,I,.nil,h⟩
def bN(ha:PE X e te)(hr:PA X es t)(hs:starEach (e::es) X.env=(false,eval e X.env)::starEach es X.env:=by rfl):PA X (e::es) (Gg te t):=by
 intro pos pins s σ H Q I h
 rw[hs]
 show wpAny _ _ (spliced ((false,eval e X.env)::backTo pos (starEach es X.env))) _ _ s
 refine Calls.spliced_cons (thn (ha pins s σ H _ I h) λu s1 ⟨x,H1,I1,r1,q1⟩=>?_)
 exact thn (hr pos pins s1 σ H1 _ I1 q1) λus s2 ⟨xs,H2,I2,r2,q2⟩=>⟨x::xs,H2,I2,.cons r1 r2,q2⟩
def Vk(t:TA):TE:=λσ H Q=>t σ H λxs H1=>xs.length<=sizeLine/\∀p,H1 p=none->Q (.ref p) (upd H1 p (.tup xs))
def Vp(t:TA):TE:=λσ H Q=>t σ H λxs H1=>xs.length<=sizeLine/\∀p,H1 p=none->Q (.ref p) (upd H1 p (.lst xs))
def yR{x1}(h:PA X es t):PE X (.Tuple es x1 pos) (Vk t):=by
 intro pins s σ H Q I hq
 refine wpAny_Tuple_spliced (thn (h pos pins s σ H _ I hq) λus s1 ⟨xs,H1,I1,r,z,q⟩=>⟨by rw[←r.length];exact z,?_⟩)
 have hf:H1 s1.heap.objs.size=none:=I1.hok.fresh (Ì _)
 refine⟨.ref s1.heap.objs.size,upd H1 s1.heap.objs.size (.tup xs),I1.laid (t':=s1.toks) (λb u e=>Æ _ e) (Ì _) ?_,rfl,q _ hf⟩
 exact⟨z,us,r,⟨_,Õ _ rfl,rfl,_,rfl⟩⟩
def qb(h:PA X es t):PE X (.List es pos) (Vp t):=by
 intro pins s σ H Q I hq
 refine wpAny_List_spliced (thn (h pos pins s σ H _ I hq) λus s1 ⟨xs,H1,I1,r,z,q⟩=>⟨by rw[←r.length];exact z,?_⟩)
 have hf:H1 s1.heap.objs.size=none:=I1.hok.fresh (Ì _)
 refine⟨.ref s1.heap.objs.size,upd H1 s1.heap.objs.size (.lst xs),I1.laid (t':=s1.toks) (λb u e=>Æ _ e) (Ì _) ?_,rfl,q _ hf⟩
 exact⟨z,us,0,r,Õ _ rfl⟩
end
abbrev Sp:=List V->Hp->VK->XK->Prop
abbrev CXT:=List Env->Hp->Shared->XK->Value->Shared->Prop
structure Env0(P:Program)(w:World)(K:Ñ)(mg:Str->Option Value)(base:Heap)(A:Around)(outer:List Env)(s:Shared)(H:Hp):Prop where
 frames:A.frames=some outer
 mod:Mod K mg base
 bs:∀b o,base.get? b=some o->s.heap.get? b=some o/\H b=none
 bsz:base.objs.size<=s.heap.objs.size
 gY:s.heap.FunFrames base outer
 frf:∀b∈frs outer,H b=none
 hok:HOk P w H s.heap
 bare:AllBare s.gens
def CE(outer:List Env)(P:Program)(w:World)(H:Hp)(s:Shared)(Q:VK)(u:Value)(s':Shared):Prop :=
 ∃v H',s'.os=s.os/\AllBare s'.gens/\Un (frs outer) [] H H' s.heap s'.heap/\HOk P w H' s'.heap/\RelV v u/\Q v H'
def CR(CX:CXT)(outer:List Env)(P:Program)(w:World)(H:Hp)(s:Shared)(Q:VK)(E:XK)(r:Result)(s':Shared):Prop :=
 match r with
 |.ok (.ret u)=>CE outer P w H s Q u s'
 |.ok _=>False
 |.error e=>CX outer H s E e s'
structure FnOk(P:Program)(w:World)(K:Ñ)(mg:Str->Option Value)(base:Heap)(CX:CXT)(k:Nat)(f:Addr)(fd:FuncData)(ps:List Str)(sp:Sp):Prop where
 len:∀vs H Q E,sp vs H Q E->vs.length=ps.length
 run:∀(A:Around) (outer:List Env) (s:Shared) (H:Hp) (args:Args) (us:List Value) (vs:List V) (Q:VK) (E:XK),Room k A->Env0 P w K mg base A outer s H->BindsTo s fd args (ps.zip us)->Vals vs us->sp vs H Q E ->
  codeAny (model P w) A (.call (.ref f) args) (CR CX outer P w H s Q E) s
def FnOk.mono{P:Program}{w:World}{K:Ñ}{mg:Str->Option Value}{base:Heap}{CX:CXT}{j k:Nat}{f:Addr}{fd:FuncData}{ps:List Str}{sp:Sp}(F:FnOk P w K mg base CX j f fd ps sp)(h:j<=k) :
  FnOk P w K mg base CX k f fd ps sp:=⟨F.len,λA outer s H args us vs Q E hr=>F.run A outer s H args us vs Q E (hr.mono h)⟩
def FnOk.imp{P:Program}{w:World}{K:Ñ}{mg:Str->Option Value}{base:Heap}{CX:CXT}{k:Nat}{f:Addr}{fd:FuncData}{ps:List Str}{sp sp':Sp}(F:FnOk P w K mg base CX k f fd ps sp)(h:∀vs H Q E,sp' vs H Q E->sp vs H Q E):FnOk P w K mg base CX k f fd ps sp' :=
 ⟨λvs H Q E q=>F.len vs H Q E (h _ _ _ _ q),λA outer s H args us vs Q E hr he hb hv hs=>F.run A outer s H args us vs Q E hr he hb hv (h _ _ _ _ hs)⟩
def Env0.in1{P:Program}{w:World}{K:Ñ}{mg:Str->Option Value}{base:Heap}{A:Around}{outer:List Env}{s:Shared}{H:Hp}(e:Env0 P w K mg base A outer s H) :
  Env0 P w K mg base A.in1 outer s H:=⟨e.frames,e.mod,e.bs,e.bsz,e.gY,e.frf,e.hok,e.bare⟩
section
variable {X:Cx}{pins:List (Addr×Obj)}{σ:St}{H:Hp}{s s':Shared}
def Inv.env0(I:Inv X pins σ H s):Env0 X.prog X.w X.K X.mg X.base X.A X.stack s H :=
 ⟨I.ok.frames,I.ok.mod,I.bs,î I.ok.bsz I.sz,I.stack,I.ur,I.hok,I.bare⟩
def Inv.after{Q:VK}{u:Value}(I:Inv X pins σ H s)(h:CE X.stack X.prog X.w H s Q u s'):EP X pins σ Q u s':=by
 obtain⟨v,H',os,bare,un,hok,r,q⟩:=h
 obtain⟨hh,g,d,t,os'⟩:=s'
 obtain rfl:os'=s.os:=os
 exact⟨v,H',I.call (h':=hh) (g':=g) (d':=d) (t':=t) (ch:=[]) un hok bare (λb z=>absurd z (by simp)),r,q⟩
end
def rZ(sp:Sp)(dvs:List V)(E:XK)(t:TA):TE:=λσ H Q=>t σ H λvs H1=>sp (vs++dvs) H1 Q E
def Binds(K:Ñ)(fd:FuncData)(ps:List Str)(ds:List Value):Prop :=
 ∀(s:Shared) (us:List Value),K.In s.heap->(us++ds).length=ps.length->BindsTo s fd ⟨us,[]⟩ (ps.zip (us++ds))
def Binds.all{K:Ñ}{fd:FuncData}{ps:List Str}(h:∀us:List Value,us.length=ps.length->bindArgs fd ⟨us,[]⟩=pure (ps.zip us)):Binds K fd ps []:=λs us _ hl=>by
 rw[í] at hl ⊢
 exact .of_eq (h us hl)
def Passes(CX:CXT)(X:Cx)(E:XK):Prop:=∀(pins:List (Addr×Obj)) (σ:St) (H:Hp) (s:Shared) (e:Value) (s':Shared),Inv X pins σ H s->CX X.stack H s E e s'->X.xe e s'
section
variable {X:Cx}{CX:CXT}{k:Nat}{f C:Addr}{fd:FuncData}{ps:List Str}{sp:Sp}{dvs:List V}{ds:List Value}{E:XK}{x m:Str}{p pos apos:Pos}{e o:Expr}{es:List Expr}{ta:TE}{t:TA}
def P0{pins:List (Addr×Obj)}{σ:St}{H:Hp}{s:Shared}{Q:VK}{us:List Value}{vs:List V}(F:FnOk X.prog X.w X.K X.mg X.base CX k f fd ps sp)(hr:Room k X.A)(hb:Binds X.K fd ps ds)(hd:Vals dvs ds)(hx:Passes CX X E)(I:Inv X pins σ H s)(r:Vals vs us)(h:sp (vs++dvs) H Q E):wpAny (model X.prog X.w) X.A (call (.ref f) us) (EP X pins σ Q) X.xe s:=by
 have r2:Vals (vs++dvs) (us++ds):=r.append hd
 have hl:(us++ds).length=ps.length:=by rw[←r2.length];exact F.len _ _ _ _ h
 refine wpAny_call (codeAny_mono (F.run X.A X.stack s H ⟨us,[]⟩ (us++ds) (vs++dvs) Q E hr I.env0 (hb s us I.kIn hl) r2 h) λr s' hq=>?_)
 cases r with
 |error e=>exact hx pins σ H s e s' I hq
 |ok fl =>
  cases fl with
  |ret u=>exact I.after hq
  |next=>exact è hq
  |brk=>exact è hq
  |cont=>exact è hq
def BL(F:FnOk X.prog X.w X.K X.mg X.base CX k f fd ps sp)(hr:Room k X.A)(hg:Gl X x)(hm:X.mg x=some (.ref f))(hk:W.keepIn X.K (.ref f)=true)(hb:Binds X.K fd ps ds)(hd:Vals dvs ds)(hx:Passes CX X E)(ha:PA X (e::es) t)(hdb:(x == ("__debug__":Str))=false:=by decide)(he:starEach (e::es) X.env=(false,eval e X.env)::starEach es X.env:=by rfl)(hpl:(backTo pos (starEach es X.env)).any (·.1)=false:=by rfl) :
  PE X (.Call (.Name x p) (e::es) [] pos) (rZ sp dvs E t):=by
 intro pins s σ H Q I h
 refine ĸ (jm I hg hm ?_ hdb)
 refine W.callWith_K (h₀:=X.base) I.ok.mod.kin hk (thn (ha pos pins s σ H _ I h) λus s1 ⟨vs,H1,I1,r,q⟩=>⟨I1.kIn,?_⟩) he hpl
 exact P0 F hr hb hd hx I1 r q
structure Mk(K:Ñ)(C f:Addr):Prop where
 makes:W.makesIn K C=true
 init:W.findIn K (.ref C) "__init__"=some (some (.ref f))
 fn:W.isFn K (.ref f)=true
 kp:W.keepIn K (.ref C)=true
end
section
variable {X:Cx}{CX:CXT}{k:Nat}{f C:Addr}{fd:FuncData}{ps ks:List Str}{sp:Sp}{E:XK}{x m:Str}{p pos apos kpos:Pos}{e o:Expr}{es:List Expr}{kws:List Keyword}{te ta:TE}{t tk:TA}{nm:Option Str}
structure KBinds(K:Ñ)(fd:FuncData)(ps ks:List Str)(g:List Value->List Value->List Value)(gV:List V->List V->List V):Prop where
 to:∀(s:Shared) (us ws:List Value),K.In s.heap->(g us ws).length=ps.length->BindsTo s fd ⟨us,ks.zip ws⟩ (ps.zip (g us ws))
 rel:∀{vs:List V}{us:List Value}{zs:List V}{ws:List Value},Vals vs us->Vals zs ws->Vals (gV vs zs) (g us ws)
variable {g:List Value->List Value->List Value}{gV:List V->List V->List V}
end
structure FnScope(N P:List Str)(sc:Scope):Prop where
 kind:sc.kind=.function
 co:sc.isCoroutine=false
 gen:sc.isGenerator=false
 nd:N.Nodup
 pre:N.take P.length=P
 par:∀x∈P,sc.names.lookup x=some .local\/sc.names.lookup x=some .cell
 nofree:∀y∈sc.names,y.2≠.free
def zC{N P:List Str}{sc:Scope}(a:sc.kind=.function:=by rfl)(b:sc.isCoroutine=false:=by rfl)(c:sc.isGenerator=false:=by rfl)(d:N.Nodup:=by decide +kernel)(e:N.take P.length=P:=by rfl)(f:∀x∈P,sc.names.lookup x=some .local\/sc.names.lookup x=some .cell:=by decide +kernel)(g:∀y∈sc.names,y.2≠.free:=by decide +kernel):FnScope N P sc:=⟨a,b,c,d,e,f,g⟩
def tY{kindOf:Str->Option NameKind}{x:Str}:∀{binds:List (Str×Value)}{m:Str->Option Value},(∀v,(x,v)∉binds)->bindL kindOf binds m x=m x
 |[],_,_=>rfl
 |(n,v)::r,m,h=>by
  unfold bindL
  rw[tY λw hw=>h w (Ô _ hw)]
  split
  ·have:x≠n:=by rintro rfl;exact h v Ö
   simp[this]
  ·rfl
def ud{kindOf:Str->Option NameKind}{x:Str}:∀{binds:List (Str×Value)}{m:Str->Option Value},(∀v,(x,v)∉binds)->bindC kindOf binds m x=m x
 |[],_,_=>rfl
 |(n,v)::r,m,h=>by
  unfold bindC
  rw[ud λw hw=>h w (Ô _ hw)]
  split
  ·rfl
  ·have:x≠n:=by rintro rfl;exact h v Ö
   simp[this]
def tZ{kindOf:Str->Option NameKind}{x:Str}{v:Value}:∀{P:List Str}{vs:List Value}{i:Nat}{m:Str->Option Value},P.Nodup->P[i]?=some x->vs[i]?=some v->kindOf x=some .local ->
  bindL kindOf (P.zip vs) m x=some v
 |[],_,_,_,_,h,_,_=>by simp at h
 |_::_,[],_,_,_,_,h,_=>by simp at h
 |p::P,w::vs,0,m,nd,h1,h2,hk=>by
  simp at h1 h2;subst h1;subst h2
  show bindL kindOf ((p,w)::P.zip vs) m p=_
  unfold bindL
  rw[tY λv hv=>(List.nodup_cons.mp nd).1 (List.of_mem_zip hv).1,if_pos hk]
  simp
 |p::P,w::vs,i+1,m,nd,h1,h2,hk=>by
  show bindL kindOf ((p,w)::P.zip vs) m x=_
  unfold bindL
  exact tZ (i:=i) (List.nodup_cons.mp nd).2 (by simpa using h1) (by simpa using h2) hk
def uf{kindOf:Str->Option NameKind}{x:Str}{v:Value}:∀{P:List Str}{vs:List Value}{i:Nat}{m:Str->Option Value},P.Nodup->P[i]?=some x->vs[i]?=some v->kindOf x≠some .local ->
  bindC kindOf (P.zip vs) m x=some v
 |[],_,_,_,_,h,_,_=>by simp at h
 |_::_,[],_,_,_,_,h,_=>by simp at h
 |p::P,w::vs,0,m,nd,h1,h2,hk=>by
  simp at h1 h2;subst h1;subst h2
  show bindC kindOf ((p,w)::P.zip vs) m p=_
  unfold bindC
  rw[ud λv hv=>(List.nodup_cons.mp nd).1 (List.of_mem_zip hv).1,if_neg hk]
  simp
 |p::P,w::vs,i+1,m,nd,h1,h2,hk=>by
  show bindC kindOf ((p,w)::P.zip vs) m x=_
  unfold bindC
  exact uf (i:=i) (List.nodup_cons.mp nd).2 (by simpa using h1) (by simpa using h2) hk
def start(N:List Str)(vs:List V):St:=vs.map some++Ë (N.length - vs.length) none
def rP(CX:CXT)(P:Program)(w:World)(K:Ñ)(mg:Str->Option Value)(base:Heap)(N:List Str)(qual:Str)(scope:Scope)(f:Addr)(cd:Value)(A:Around)(outer:List Env)(s:Shared)(H:Hp)(E:XK):Cx where
 prog:=P
 w:=w
 K:=K
 mg:=mg
 base:=base
 A:=A.deeper (envOfC qual scope s.heap.objs.size f cd)
 N:=N
 s₀:=s
 H₀:=H
 env:=envOfC qual scope s.heap.objs.size f cd
 outer:=outer
 stack:=envOfC qual scope s.heap.objs.size f cd::outer
 ex:=[]
 calm:=true
 fn:=λ_=>true
 pn:=[]
 xe:=λe s'=>wpAny (model P w) (A.deeper (envOfC qual scope s.heap.objs.size f cd)) (leaving (envOfC qual scope s.heap.objs.size f cd) e) (λ_ s''=>CX outer H s E e s'') (λe' s''=>CX outer H s E e' s'') s'
def xY{sc:Scope}{n:Nat}{x:Str}(h:sc.names.lookup x=some .cell):∃c,(cellsFrom n sc.names []).lookup x=some c:=by
 have q:=W.cellsFrom_some sc.names n [] (.inl h)
 exact Ů.mp q
def tu{CX:CXT}{P:Program}{w:World}{K:Ñ}{mg:Str->Option Value}{base:Heap}{N ps:List Str}{qual:Str}{scope:Scope}{f:Addr}{cd:Value}{A:Around}{outer:List Env}{s s1:Shared}{H:Hp}{E:XK}{us:List Value}{vs:List V}(S:FnScope N ps scope)(hd:A.handled=none)(e0:Env0 P w K mg base A outer s H)(hl:vs.length=ps.length)(r:Vals vs us)(x:InCallC s s.heap.objs.size (bindL (envOfC qual scope s.heap.objs.size f cd).kindOf (ps.zip us) λ_=>none) (cellsFrom (s.heap.objs.size+1) scope.names []) (bindC (envOfC qual scope s.heap.objs.size f cd).kindOf (ps.zip us) λ_=>none) s1) :
  Inv (rP CX P w K mg base N qual scope f cd A outer s H E) [] (start N vs) H s1:=by
 have hpl:ps.length<=N.length:=by have:=congrArg List.length S.pre;rw[Ě] at this;omega
 obtain⟨h1,tk,rfl,hk⟩:=x.done
 have noA:∀b:Addr,b∉(rP CX P w K mg base N qual scope f cd A outer s H E).ex:=λb z=>absurd (show b∈([]:List Addr) from z) (by simp)
 refine⟨⟨e0.mod,S.kind,rfl,rfl,Ì _,λy z c h1 h2=>?_,λy hy=>?_,λy c _ h=>?_,λ_=>hd,Around.frames_deeper e0.frames,.inr ⟨rfl,rfl⟩,λb z=>absurd z (noA b),e0.bs,e0.bsz,λb _ _=>noA b,λb z=>absurd z (noA b),e0.gY,e0.frf,λq z=>nomatch (show q∈([]:List (Addr×Obj×HO)) from z)⟩,
  rfl,e0.bare,Un.kept hk,⟨_,x.toInCall.ns,λi y v h1 h2 h3=>?_⟩,λy c h=>⟨_,x.cell y c h⟩,e0.hok.fresh (Ì _),λy c h=>?_,λp hp=>absurd (show p∈([]:List (Addr×Obj)) from hp) (by simp),e0.hok.kept hk,?_⟩
 ·exact name_of_addr x.apart (đ h1) (đ h2)
 ·have hy:scope.names.lookup y=some .cell\/scope.names.lookup y=some .free:=hy
  rcases hy with hy|hy
  ·exact xY hy
  ·exact absurd rfl (S.nofree _ (đ hy))
 ·exact Nat.le_of_lt (x.above y c (đ h))
 ·have hi:i<vs.length:=by
   unfold start at h2
   by_cases hi:i<vs.length
   ·exact hi
   ·rw[ù (by simpa using hi)] at h2
    rw[ĺ] at h2
    split at h2 <;> cases h2
  have ha:vs[i]?=some v:=by
   unfold start at h2
   rw[ď (by simpa using hi),à] at h2
   cases e:vs[i]? with
   |none=>rw[e] at h2;cases h2
   |some a=>rw[e] at h2;cases h2;rfl
  obtain⟨u,hu,rv⟩:=r.get ha
  have hp:ps[i]?=some y:=by
   rw[←S.pre,List.getElem?_take_of_lt (by omega)];exact h1
  have ndP:ps.Nodup:=by rw[←S.pre];exact S.nd.sublist (List.take_sublist _ _)
  refine⟨u,rv,?_⟩
  rcases S.par y (Ó hp) with k|k
  ·exact .inl ⟨k,tZ ndP hp hu k⟩
  ·obtain⟨c,e⟩:=xY (n:=s.heap.objs.size+1) k
   refine .inr ⟨.inl k,c,e,?_⟩
   have q:=x.cell y c e
   rw[uf ndP hp hu (by show scope.names.lookup y≠_;rw[k];decide)] at q
   exact q
 ·exact e0.hok.fresh (Nat.le_of_lt (x.above y c (đ h)))
 ·unfold start
  show _=N.length
  rw[Ð,Ã,Ň]
  omega
def Js{CX:CXT}{P:Program}{w:World}{K:Ñ}{mg:Str->Option Value}{base:Heap}{k:Nat}{f:Addr}{name qual:Str}{params:Arguments}{body:List Stmt}{scope:Scope}{dV kV doc pm cdv ct oc:Value}{an od:Option Addr}{osl:Array (Option Value)}{N ps:List Str}{sp:Sp}(lk:K.lookup f=some ⟨oc,od,.func (W.fnOf name qual params body scope dV kV doc pm an cdv ct),osl⟩)(hcd:W.codeIn K cdv qual=true)(S:FnScope N ps scope)(len:∀vs H Q E,sp vs H Q E->vs.length=ps.length)(hbody:∀(A:Around) (outer:List Env) (s:Shared) (H:Hp) (vs:List V) (Q:VK) (E:XK),Room k (A.deeper (envOfC qual scope s.heap.objs.size f cdv))->sp vs H Q E ->
   ∃t,PSs (rP CX P w K mg base N qual scope f cdv A outer s H E) body t/\t { nx:=λ_ H'=>Q .non H',rt:=Q } (start N vs) H) :
  FnOk P w K mg base CX (k+1) f (W.fnOf name qual params body scope dV kV doc pm an cdv ct) ps sp:=by
 refine⟨len,λA outer s H args us vs Q E hr e0 hb r hsp=>?_⟩
 have hl:=len _ _ _ _ hsp
 have KX:K.In s.heap:=e0.mod.kin.keeps λb o e=>(e0.bs b o e).1
 have lim:s.heap.NoLimit:=e0.mod.nolimit.keeps λb o e=>(e0.bs b o e).1
 have hkind:∀y∈ps.zip us,scope.names.lookup y.1=some .local\/(scope.names.lookup y.1=some .cell/\((cellsFrom (s.heap.objs.size+1) scope.names []).lookup y.1).isSome=true):=λ⟨n,v⟩ hy=>by
  rcases S.par n (List.of_mem_zip hy).1 with q|q
  ·exact .inl q
  ·exact .inr ⟨q,W.cellsFrom_some _ _ _ (.inl q)⟩
 refine codeAny_call_function hr.depth (KX _ _ lk) rfl S.co S.gen rfl (W.codeRec_of KX hcd) (hb _ _ _ _ ?_)
 refine wpAny_newFunctionEnv_cells S.kind hkind λenv he s1 x=>?_
 subst he
 refine⟨lim.keeps x.toInCall.keep,codeAny_func ?_⟩
 obtain⟨t,ht,hq⟩:=hbody A outer s H vs Q E (hr.deeper _) hsp
 have I:Inv (rP CX P w K mg base N qual scope f cdv A outer s H E) [] (start N vs) H s1:=tu S hr.hd e0 hl r x
 refine ĩ (ht [] s1 (start N vs) H _ I hq) (λfl s' hs=>?_) λe s' hs=>hs
 have fin:∀{σ':St}{H':Hp}{v:V}{u:Value},Inv (rP CX P w K mg base N qual scope f cdv A outer s H E) [] σ' H' s'->RelV v u->Q v H'->CE outer P w H s Q u s' :=
  λ{σ' H' v u} J rv q=>⟨v,H',J.os,J.bare,J.base,J.hok,rv,q⟩
 cases fl with
 |ret u =>
  obtain⟨v,σ',H',J,rv,q⟩:=hs
  exact fin J rv q
 |next =>
  obtain⟨σ',H',J,q⟩:=hs
  exact fin (v:=V.non) (u:=ý) J rfl q
 |brk =>
  obtain⟨_,_,_,q⟩:=hs
  exact è q
 |cont =>
  obtain⟨_,_,_,q⟩:=hs
  exact è q
section
variable {X:Cx}{x:Str}{p pos:Pos}{e:Expr}{es:List Expr}{t:TA}{id T:String}{r:List V->Hp->VK->Prop}
def tCB(r:List V->Hp->VK->Prop)(t:TA):TE:=λσ H Q=>t σ H λvs H1=>r vs H1 Q
def dG(hc:bC X (.builtin id) r)(hg:Gl X x)(hm:X.mg x=none)(hv:bootBuiltins x=some (.builtin id))(ha:PA X (e::es) t)(hn:x≠"__name__":=by decide)(hdb:(x == ("__debug__":Str))=false:=by decide)(he:starEach (e::es) X.env=(false,eval e X.env)::starEach es X.env:=by rfl)(hpl:(backTo pos (starEach es X.env)).any (·.1)=false:=by rfl):PE X (.Call (.Name x p) (e::es) [] pos) (tCB r t):=by
 intro pins s σ H Q I h
 refine ĸ (iK I hg hm hv ?_ hn hdb)
 exact PyProof.Rows.callWith_builtin1 (thn (ha pos pins s σ H _ I h) λus s1 ⟨vs,H1,I1,r1,q1⟩=>hc pins s1 σ H1 vs us Q I1 r1 q1) he hpl
def fQ(hc:bC X (.type T) r)(hg:Gl X x)(hm:X.mg x=none)(hv:bootBuiltins x=some (.type T))(ha:PA X (e::es) t)(hn:x≠"__name__":=by decide)(hdb:(x == ("__debug__":Str))=false:=by decide)(he:starEach (e::es) X.env=(false,eval e X.env)::starEach es X.env:=by rfl)(hpl:(backTo pos (starEach es X.env)).any (·.1)=false:=by rfl):PE X (.Call (.Name x p) (e::es) [] pos) (tCB r t):=by
 intro pins s σ H Q I h
 refine ĸ (iK I hg hm hv ?_ hn hdb)
 exact ĵ (thn (ha pos pins s σ H _ I h) λus s1 ⟨vs,H1,I1,r1,q1⟩=>hc pins s1 σ H1 vs us Q I1 r1 q1) he hpl
end
end L2
namespace HT
open PySem PyProof.Rows
section
open PySem.SeqAt
open PySem.AutoSeq1 (wpAny_loadPart')
open PySem.MeetsSeq PySem.MeetsSeq2 PySem.MeetsSeq3
end
section
variable {prog:Program}{w:World}{A:Around}{E:Value->Shared->Prop}{s:Shared}
def Nm{t b:Addr}{vs ws:List Value}{Q:Value->Shared->Prop}(ht:IsTup s.heap t vs.toArray)(hb:IsTup s.heap b ws.toArray)(hv:vs≠[])(h1:ws=[]->Q (.ref t) s)(h2:ws≠[]->Q (.ref s.heap.objs.size) { s with heap:=s.heap.push { cls:=.type "tuple",data:=.seq (vs++ws).toArray } })(hsz:vs.length+ws.length<=sizeLine):wpAny (model prog w) A (binaryOp .Add (.ref t) (.ref b)) Q E s:=by
 obtain⟨⟨cls,dd,data,sl⟩,ho,hc,n,hd⟩:=id ht
 obtain⟨⟨cls2,dd2,data2,sl2⟩,ho2,hc2,n2,hd2⟩:=id hb
 simp only at hc hd hc2 hd2
 subst hc hd hc2 hd2
 have e:vs.toArray++ws.toArray=(vs++ws).toArray:=by simp
 by_cases hw:ws=[]
 ·exact concat_meets ⟨_,ho,rfl⟩ ⟨_,ho2,rfl⟩ noFill_tuple_add seq_tuple_add PySem.F.slot_tuple_add PySem.F.entry_tuple_add (PySem.F.args_tuple_add_2 _ _)
   (tuple_addW1 t b vs.toArray ws.toArray n n2 dd dd2 sl sl2 (by simpa using hv) (by simp[hw])) ⟨ho,ho2,h1 hw⟩
 ·refine concat_meets ⟨_,ho,rfl⟩ ⟨_,ho2,rfl⟩ noFill_tuple_add seq_tuple_add PySem.F.slot_tuple_add PySem.F.entry_tuple_add (PySem.F.args_tuple_add_2 _ _)
   (tuple_addW2 t b vs.toArray ws.toArray n n2 dd dd2 sl sl2 (by simpa using hv) (by simpa using hw) (by rw[Ï,Ï];exact hsz)) ⟨ho,ho2,?_⟩
  rw[e]
  exact h2 hw
def sIx(n d:Nat):Option Int->Nat
 |none=>d
 |some v=>if v<0 then (v+(n:Int)).toNat else min v.toNat n
def jg(n d k:Nat):sIx n d (some (k:Int))=min k n:=by
 show(if (k:Int)<0 then ((k:Int)+(n:Int)).toNat else min (k:Int).toNat n)=min k n
 rw[if_neg (by omega),Ļ]
def PX(n d:Nat)(hd:d<=n)(o:Option Int):sIx n d o<=n:=by
 cases o with
 |none=>exact hd
 |some v =>
  show(if v<0 then (v+(n:Int)).toNat else min v.toNat n)<=n
  by_cases hv:v<0
  ·rw[if_pos hv];omega
  ·rw[if_neg hv];exact Nat.min_le_right _ _
def Dc(v:Int)(n d:Nat):(if v<0 then max (v+(n:Int)) 0 else min v (n:Int))=((sIx n d (some v):Nat):Int):=by
 show(if v<0 then max (v+(n:Int)) 0 else min v (n:Int))=(((if v<0 then (v+(n:Int)).toNat else min v.toNat n):Nat):Int)
 by_cases hv:v<0
 ·simp only[if_pos hv];omega
 ·simp only[if_neg hv];omega
def Av(lo hi:Option Int)(n:Nat):Builtin.Slice.sliceAdjust lo hi 1 (n:Int)=(((sIx n 0 lo:Nat):Int),((sIx n n hi:Nat):Int)):=by
 have h1:¬((1:Int)<0):=by omega
 unfold Builtin.Slice.sliceAdjust
 simp only[h1,if_false]
 refine Prod.ext ?_ ?_
 ·cases lo with
  |none=>rfl
  |some v=>exact Dc v n 0
 ·cases hi with
  |none=>rfl
  |some v=>exact Dc v n n
def yP(i j:Nat):Ś (i:Int) (j:Int) 1=j - i:=by
 unfold Ś
 have h1:(1:Int) > 0:=by omega
 simp only[h1,if_true,Int.ediv_one]
 split <;> omega
def pL{v:Value}{o:Option Int}{Q:Option Int->Shared->Prop}(p:IsPart v o)(h:Q o s):wpAny (model prog w) A (Builtin.Slice.slicePartIndex v) Q E s:=by
 cases p with
 |none=>exact slicePart_none h
 |int i t=>exact slicePart_int h
def fH{sl:Addr}{vl vu:Value}{lo hi:Option Int}{n:Nat}{Q:Int×Int×Nat->Shared->Prop}(hs:s.heap.IsSliceOf sl vl vu .none)(pl:IsPart vl lo)(pu:IsPart vu hi)(h:Q (((sIx n 0 lo:Nat):Int),1,sIx n n hi - sIx n 0 lo) s):wpAny (model prog w) A (Builtin.Slice.sliceApplied (.ref sl) (pure (n:Int))) Q E s:=by
 obtain⟨os,hos,hcs,hds⟩:=id hs
 unfold Builtin.Slice.sliceApplied Builtin.Slice.sliceFields
 refine Â (Â (Ĳ hos hds (x:=vl) rfl (Â (Ĳ hos hds (x:=vu) rfl (Â (Ĳ hos hds (x:=.none) rfl (Ê ?_)))))))
 refine Â (slicePart_none ?_)
 show wpAny _ _ (if ((1:Int) == 0)=true then _ else _) _ _ s
 rw[if_neg (by decide)]
 refine Â (pL pl (Â (pL pu (Â (Ê ?_)))))
 show wpAny _ _ (match Builtin.Slice.sliceAdjust lo hi 1 (n:Int) with|(lo,hi)=>pure (lo,(1:Int),Ś lo hi 1)) _ _ s
 rw[Av lo hi n]
 show wpAny _ _ (pure (((sIx n 0 lo:Nat):Int),(1:Int),Ś ((sIx n 0 lo:Nat):Int) ((sIx n n hi:Nat):Int) 1)) _ _ s
 rw[yP]
 exact Ê h
def G3(xs:Array Value)(i k:Nat):((á k).filterMap λ(m:Nat)=>xs[((i:Int)+(m:Int) * 1).toNat]?).toArray=((xs.toList.drop i).take k).toArray:=by
 have e:(λ(m:Nat)=>xs[((i:Int)+(m:Int) * 1).toNat]?)=λm=>xs[i+m]?:=by
  funext m
  have:((i:Int)+(m:Int) * 1).toNat=i+m:=by omega
  rw[this]
 rw[e]
 have:=pick_run xs i k
 rw[List.filterMap_map] at this
 have e2:((λx=>xs[x]?) ∘ λx=>i+x)=λm=>xs[i+m]?:=rfl
 rw[e2] at this
 rw[this]
def lH{t sl:Addr}{items:Array Value}{vl vu:Value}{lo hi:Option Int}{Q:Value->Shared->Prop}(ht:IsTup s.heap t items)(hs:s.heap.IsSliceOf sl vl vu .none)(pl:IsPart vl lo)(pu:IsPart vu hi)(hw:¬(sIx items.size 0 lo=0/\sIx items.size items.size hi=items.size))(h:Q (.ref s.heap.objs.size) { s with heap:=s.heap.push { cls:=.type "tuple",data:=.seq ((items.toList.drop (sIx items.size 0 lo)).take (sIx items.size items.size hi - sIx items.size 0 lo)).toArray } })(hsz:items.size<=sizeLine):wpAny (model prog w) A (getItem (.ref t) (.ref sl)) Q E s:=by
 have htake:sizeOk (.seq ((items.toList.drop (sIx items.size 0 lo)).take (sIx items.size items.size hi - sIx items.size 0 lo)).toArray):=by
  show((items.toList.drop (sIx items.size 0 lo)).take (sIx items.size items.size hi - sIx items.size 0 lo)).toArray.size<=sizeLine
  rw[Ï,Ě,ě,ċ]
  omega
 have hj:sIx items.size items.size hi<=items.size:=PX _ _ (Ì _) hi
 obtain⟨os,hos,hcs,hds⟩:=id hs
 have hTs:s.TypeIs (.ref sl) "slice":=⟨os,hos,hcs⟩
 unfold getItem
 try with_reducible refine ö ?_
 first|refine Â (Ê ?_)|skip
 refine Â (wpAny_sequenceKey ht.typeIs (by decide) ?_)
 refine Â (ŀ (name:=ð "__getitem__") ht.typeIs ē
  (Ŗ ē ht.typeIs entry_tuple_getitem ?_ (args_tuple_getitem _ _)))
 show wpAny _ _ (Builtin.Tuple.tupleItemsOf (.ref t) >>= _) _ _ s
 refine Â (tupleItemsOf_ ht ?_)
 refine Â (wpAny_typeOf hTs ?_)
 rw[if_pos (by decide)]
 refine Â (fH hs pl pu ?_)
 have hno:¬((((sIx items.size 0 lo:Nat):Int) == 0&&(1:Int) == 1&&(sIx items.size items.size hi - sIx items.size 0 lo) == items.size)=true):=by
  intro q
  rw[Î,Î] at q
  have q1:((sIx items.size 0 lo:Nat):Int)=0:=eq_of_beq q.1.1
  have q2:sIx items.size items.size hi - sIx items.size 0 lo=items.size:=eq_of_beq q.2
  exact hw ⟨by omega,by omega⟩
 show wpAny _ _ (if (((sIx items.size 0 lo:Nat):Int) == 0&&(1:Int) == 1&&(sIx items.size items.size hi - sIx items.size 0 lo) == items.size)=true then _ else _) _ _ s
 rw[if_neg hno,G3]
 first
  |exact Â (m:=ş _) (Ŀ (Ê ⟨_,rfl,Ê h⟩) htake)
  |exact Â (m:=ş _) (Ŀ (Â (Ê (Ê ⟨_,rfl,Ê h⟩))) htake)
  |exact Â (Â (m:=ş _) (Ŀ (Ê (Ê ⟨_,rfl,Ê h⟩)) htake))
  |exact Â (Â (m:=ş _) (Ŀ (Ê ⟨_,rfl,Ê h⟩) htake))
end
end HT
namespace L2
open PySem PySem.Spec PyProof.Rows
abbrev TO:=St->Hp->(Option Int->Hp->Prop)->Prop
def PO(X:Cx)(e:Option Expr)(t:TO):Prop :=
 ∀(pins:List (Addr×Obj)) (s:Shared) (σ:St) (H:Hp) (Q:Option Int->Hp->Prop),Inv X pins σ H s->t σ H Q ->
  wpAny (model X.prog X.w) X.A (evalPart e X.env) (λu s'=>∃o H',Inv X pins σ H' s'/\IsPart u o/\Q o H') X.xe s
def Ke:TO:=λ_ H Q=>Q none H
def SM(t:TE):TO:=λσ H Q=>t σ H λx H1=>∃i,x=.int i/\Q (some i) H1
def intsAre_of{ns:List Int}:∀{us:List Value},Vals (ns.map V.int) us->IntsAre us ns:=by
 induction ns with
 |nil=>intro us r;rw[List.map_nil] at r;cases r;exact .nil
 |cons n ns ih =>
  intro us r
  rw[û] at r
  cases r with
  |cons r1 r2 =>
   obtain⟨t,e⟩:=r1
   subst e
   exact .cons n t (ih r2)
section
variable {X:Cx}{e:Expr}{te:TE}{lo hi:Option Expr}{tl th:TO}{pos p2:Pos}
def KH:PO X none Ke:=by
 intro pins s σ H Q I h
 rw[evalPart_none]
 exact Ê ⟨none,H,I,.none,h⟩
def KC(h:PE X e te):PO X (some e) (SM te):=by
 intro pins s σ H Q I hw
 rw[evalPart_some]
 refine thn (h pins s σ H _ I hw) λu s1 ⟨x,H1,I1,r1,q1⟩=>?_
 obtain⟨i,rfl,q⟩:=q1
 obtain⟨t,rfl⟩:=r1
 exact⟨some i,H1,I1,.int i t,q⟩
def SlR(X:Cx)(r:V->Option Int->Option Int->Hp->VK->Prop):Prop :=
 ∀(pins:List (Addr×Obj)) (s:Shared) (σ:St) (H:Hp) (x:V) (v vl vu:Value) (lo hi:Option Int) (sl:Addr) (Q:VK),Inv X pins σ H s->RelV x v->s.heap.IsSliceOf sl vl vu .none->IsPart vl lo->IsPart vu hi->r x lo hi H Q ->
  ∃T id,typeLookup (.type T) "__getitem__"=pure (some (.builtin id))/\s.TypeIs v T/\wpAny (model X.prog X.w) X.A (getItem v (.ref sl)) (EP X pins σ Q) X.xe s
def SlR.or{r r':V->Option Int->Option Int->Hp->VK->Prop}(h:SlR X r)(h':SlR X r'):SlR X (λx lo hi H Q=>r x lo hi H Q\/r' x lo hi H Q):=by
 intro pins s σ H x v vl vu lo hi sl Q I rx hs pl pu q
 rcases q with q|q
 ·exact h pins s σ H x v vl vu lo hi sl Q I rx hs pl pu q
 ·exact h' pins s σ H x v vl vu lo hi sl Q I rx hs pl pu q
def tSl(r:V->Option Int->Option Int->Hp->VK->Prop)(te:TE)(tl th:TO):TE:=λσ H Q=>te σ H λx H1=>tl σ H1 λl H2=>th σ H2 λu H3=>r x l u H3 Q
def p8{r:V->Option Int->Option Int->Hp->VK->Prop}(hr:SlR X r)(he:PE X e te)(hl:PO X lo tl)(hu:PO X hi th):PE X (.Subscript e (.Slice lo hi none p2) pos) (tSl r te tl th):=by
 intro pins s σ H Q I h
 refine Subscript_ (thn (he pins s σ H _ I h) λv s1 ⟨x,H1,I1,r1,q1⟩=>?_)
 refine wpAny_Slice (thn (hl pins s1 σ H1 _ I1 q1) λvl s2 ⟨l,H2,I2,pl,q2⟩=>thn (hu pins s2 σ H2 _ I2 q2) λvu s3 ⟨u,H3,I3,pu,q3⟩=>?_)
 rw[evalPart_none]
 refine Ê ?_
 have I4:Inv X pins σ H3 { s3 with heap:=s3.heap.push { cls:=.type "slice",data:=.fields #[vl,vu,.none] } }:=I3.kept (t':=s3.toks) λb ob q=>Æ _ q
 obtain⟨T,id,hT,ht,hg⟩:=hr pins { s3 with heap:=s3.heap.push { cls:=.type "slice",data:=.fields #[vl,vu,.none] } } σ H3 x v vl vu l u s3.heap.objs.size Q I4 r1 (Heap.IsSliceOf.new ..) pl pu q3
 show wpAny (model X.prog X.w) X.A (subscriptTail e (.Slice lo hi none p2) v (.ref s3.heap.objs.size)) (EP X pins σ Q) X.xe { s3 with heap:=s3.heap.push { cls:=.type "slice",data:=.fields #[vl,vu,.none] } }
 exact tail_any (ops:=[.ref s3.heap.objs.size,v]) ht hT hg (by with_unfolding_all rfl)
def nF(xs:List V)(lo hi:Option Int):List V:=(xs.drop (HT.sIx xs.length 0 lo)).take (HT.sIx xs.length xs.length hi - HT.sIx xs.length 0 lo)
def nZ(xs:List V)(lo hi:Option Int):(nF xs lo hi).length<=xs.length:=by
 unfold nF
 rw[Ě,ě]
 omega
def VB(K:Ñ):V->Option Int->Option Int->Hp->VK->Prop:=λx lo hi H Q=>∃a xs,x=.ref a/\SqT K H a xs /\
 ¬(HT.sIx xs.length 0 lo=0/\HT.sIx xs.length xs.length hi=xs.length)/\∀p,H p=none->Q (.ref p) (upd H p (.tup (nF xs lo hi)))
def Gm:SlR X (VB X.K):=by
 intro pins s σ H x v vl vu lo hi sl Q I rx hs pl pu h
 obtain⟨a,xs,rfl,hx,hw,q⟩:=h
 cases rx
 obtain⟨its,r,ht,hz⟩:=I.tuple hx
 have hlen:its.toArray.size=xs.length:=by rw[Ï];exact r.length.symm
 refine⟨"tuple",_,ē.lookup,ht.typeIs,?_⟩
 refine HT.lH ht hs pl pu (by rw[hlen];exact hw) ?_ (by rw[hlen];exact hz)
 rw[hlen]
 refine⟨.ref s.heap.objs.size,_,I.laid (t':=s.toks) (o:=.tup (nF xs lo hi)) (λb ob q=>Æ _ q) (Ì _) ?_,rfl,q _ (I.hok.fresh (Ì _))⟩
 exact⟨î (nZ xs lo hi) hz,_,(r.drop (HT.sIx xs.length 0 lo)).take (HT.sIx xs.length xs.length hi - HT.sIx xs.length 0 lo),IsTup.new _ _⟩
def TJ(K:Ñ):R2:=λx y H Q=>∃a b xs ys,x=.ref a/\y=.ref b/\SqT K H a xs/\SqT K H b ys/\xs≠[]/\xs.length+ys.length<=sizeLine /\
 (ys=[]->Q (.ref a) H)/\(ys≠[]->∀p,H p=none->Q (.ref p) (upd H p (.tup (xs++ys))))
def Vals.uY{xs:List V}{us:List Value}(r:Vals xs us):us=[]↔xs=[]:=by
 cases r with
 |nil=>simp
 |cons _ _=>simp
def K5:OpR X (binaryOp .Add) (TJ X.K):=by
 intro pins s σ H x y v u Q I rx ry h
 obtain⟨a,b,xs,ys,rfl,rfl,ha,hb,hx,hz,q1,q2⟩:=h
 cases rx
 cases ry
 obtain⟨its,r1,p1,_⟩:=I.tuple ha
 obtain⟨its2,r2,p2,_⟩:=I.tuple hb
 refine HT.Nm p1 p2 (λz=>hx (r1.uY.mp z)) (λz=>⟨.ref a,H,I,rfl,q1 (r2.uY.mp z)⟩) (λz=>?_) (by rw[←r1.length,←r2.length];exact hz)
 refine⟨.ref s.heap.objs.size,_,I.laid (t':=s.toks) (o:=.tup (xs++ys)) (λb ob q=>Æ _ q) (Ì _) ?_,rfl,q2 (λw=>z (r2.uY.mpr w)) _ (I.hok.fresh (Ì _))⟩
 exact⟨by rw[Ð];exact hz,_,r1.append r2,IsTup.new _ _⟩
end
def ixN(n:Nat)(i:Int):Option Nat:=if 0<=i then (if i<n then some i.toNat else none) else if -(n:Int)<=i then some (i+n).toNat else none
def atI{α:Type}(xs:List α)(i:Int):Option α:=(ixN xs.length i).bind λj=>xs[j]?
def vo{n:Nat}{i:Int}{j:Nat}(h:ixN n i=some j):seqIndex? i n=some j/\j<n/\-(n:Int)<=i/\i<n:=by
 unfold ixN at h
 by_cases h0:0<=i
 ·rw[if_pos h0] at h
  by_cases h1:i<n
  ·rw[if_pos h1] at h
   have e:i.toNat=j:=Ý h
   exact⟨by rw[seqIndex_of h0 h1,e],by omega,by omega,h1⟩
  ·rw[if_neg h1] at h;cases h
 ·rw[if_neg h0] at h
  by_cases h1:-(n:Int)<=i
  ·rw[if_pos h1] at h
   have e:(i+n).toNat=j:=Ý h
   exact⟨by rw[seqIndex_neg (by omega) h1,e],by omega,h1,by omega⟩
  ·rw[if_neg h1] at h;cases h
def Df{α:Type}{xs:List α}{i:Int}{v:α}(h:atI xs i=some v):∃j,seqIndex? i xs.length=some j/\xs[j]?=some v/\j<xs.length/\-(xs.length:Int)<=i/\i<xs.length:=by
 unfold atI at h
 cases e:ixN xs.length i with
 |none=>rw[e] at h;cases h
 |some j =>
  rw[e] at h
  obtain⟨h1,h2,h3,h4⟩:=vo e
  exact⟨j,h1,h,h2,h3,h4⟩
def dB{α:Type}{xs:List α}{j:Nat}{v:α}(h:xs[j]?=some v):atI xs (j:Int)=some v:=by
 have hj:j<xs.length:=(Þ.mp h).1
 have e:ixN xs.length (j:Int)=some j:=by
  unfold ixN
  rw[if_pos (by omega),if_pos (by omega)];simp
 unfold atI;rw[e];exact h
def lY(b:Expr):Prop:=∀o i,subscripted b false o i=operate [o,i] (getItem o i)
def IxR(X:Cx)(r:R2):Prop :=
 ∀(value slice:Expr) (pins:List (Addr×Obj)) (s:Shared) (σ:St) (H:Hp) (x y:V) (v u:Value) (Q:VK),Inv X pins σ H s->RelV x v->RelV y u->r x y H Q ->
  subscripted slice false v u=operate [v,u] (getItem v u)->wpAny (model X.prog X.w) X.A (subscriptTail value slice v u) (EP X pins σ Q) X.xe s
def MtR(X:Cx)(id:String)(r:V->List V->Hp->VK->Prop):Prop :=
 ∀(pins:List (Addr×Obj)) (s:Shared) (σ:St) (H:Hp) (x:V) (xs:List V) (v:Value) (us:List Value) (Q:VK),Inv X pins σ H s->RelV x v->Vals xs us->r x xs H Q ->
  wpAny (model X.prog X.w) X.A (call (.builtin id) (v::us)) (EP X pins σ Q) X.xe s
section
variable {X:Cx}{a b:Expr}{ta tb:TE}{pos:Pos}
def IxR.or{r r':R2}(h:IxR X r)(h':IxR X r'):IxR X (λx y H Q=>r x y H Q\/r' x y H Q):=by
 intro value slice pins s σ H x y v u Q I rx ry q hs
 rcases q with q|q
 ·exact h value slice pins s σ H x y v u Q I rx ry q hs
 ·exact h' value slice pins s σ H x y v u Q I rx ry q hs
def eN{r:R2}(hr:IxR X r)(ha:PE X a ta)(hb:PE X b tb)(hs:lY b):PE X (.Subscript a b pos) (tOp r ta tb):=by
 intro pins s σ H Q I h
 exact Subscript_ (R0 ha hb I h λv u s2 x y H2 I2 rx ry q=>hr a b pins s2 σ H2 x y v u Q I2 rx ry q (hs _ _))
def TF(K:Ñ):R2:=λx y H Q=>∃p xs i v,x=.ref p/\y=.int i/\SqL K H p xs/\atI xs i=some v/\Q v H
def Tz(K:Ñ):R2:=λx y H Q=>∃p xs i v,x=.ref p/\y=.int i/\SqT K H p xs/\atI xs i=some v/\Q v H
def bZ:IxR X (TF X.K):=by
 intro value slice pins s σ H x y v u Q I rx ry h hs
 obtain⟨p,xs,i,z,rfl,rfl,hq,he,q⟩:=h
 cases rx
 obtain⟨t,rfl⟩:=ry
 obtain⟨its,r,pl,hz⟩:=I.list hq
 obtain⟨j,h1,h2,h3,h4,h5⟩:=Df he
 obtain⟨w,ew,rw'⟩:=r.get h2
 have hl:=r.length
 have hn:=qO
 have fin:EP X pins σ Q w s:=⟨z,H,I,rw',q⟩
 by_cases h0:0<=i
 ·have hj:i.toNat=j:=by
   rw[seqIndex_of h0 h5] at h1
   exact Ý h1
  exact item_listR pl.isList h0 (by omega) (by rw[hj];simpa using ew) fin hs
 ·have hj:(i+(its.toArray.size:Int)).toNat=j:=by
   rw[seqIndex_neg (by omega) h4] at h1
   rw[Ï,←hl]
   exact Ý h1
  exact subscriptTail_builtinR (x:=w) pl.isList.typeIs slot_list_getitem.lookup
   (wpAny_getItem_list_neg (Q:=λr s'=>r=w/\EP X pins σ Q r s') pl.isList (by omega) (by rw[Ï] <;> omega) (by omega) (by rw[hj];simpa using ew) ⟨rfl,fin⟩) hs
def zX:IxR X (Tz X.K):=by
 intro value slice pins s σ H x y v u Q I rx ry h hs
 obtain⟨p,xs,i,z,rfl,rfl,hq,he,q⟩:=h
 cases rx
 obtain⟨t,rfl⟩:=ry
 obtain⟨its,r,pl,hz⟩:=I.tuple hq
 obtain⟨j,h1,h2,h3,h4,h5⟩:=Df he
 obtain⟨w,ew,rw'⟩:=r.get h2
 have hl:=r.length
 have hn:=qO
 have fin:EP X pins σ Q w s:=⟨z,H,I,rw',q⟩
 exact subscriptTail_builtinR (x:=w) pl.typeIs slot_tuple_getitem.lookup
  (getItem_tuple (j:=j) (Q:=λr s'=>r=w/\EP X pins σ Q r s') pl (by omega) (by omega) (by rw[Ï,←hl];exact h1) (by simpa using ew) ⟨rfl,fin⟩) hs
def zN(its:List Value)(n j:Nat)(u:Value):Ù (·.setIfInBounds j u) { cls:=.type "list",data:=.seq its.toArray n }={ cls:=.type "list",data:=.seq (its.set j u).toArray n }:=by
 simp[Ù]
def Inv.lst{pins:List (Addr×Obj)}{σ:St}{H:Hp}{s:Shared}{p:Addr}{xs:List V}(I:Inv X pins σ H s)(h:H p=some (.lst xs)) :
  ∃(its:List Value) (n:Nat),Vals xs its/\s.heap.get? p=some { cls:=.type "list",data:=.seq its.toArray n }/\xs.length<=sizeLine:=by
 obtain⟨z,its,n,r,e⟩:=I.hok p _ h
 exact⟨its,n,r,e,z⟩
def Inv.Q6{pins:List (Addr×Obj)}{σ:St}{H:Hp}{s:Shared}{p:Addr}{xs ys:List V}{its its':List Value}{n n':Nat}{f:Obj->Obj}(I:Inv X pins σ H s)(h:H p=some (.lst xs))(ho:s.heap.get? p=some { cls:=.type "list",data:=.seq its.toArray n })(hf:f { cls:=.type "list",data:=.seq its.toArray n }={ cls:=.type "list",data:=.seq its'.toArray n' })(r:Vals ys its')(hz:ys.length<=sizeLine)(t:Nat) :
  Inv X pins σ (upd H p (.lst ys)) { s with heap:=s.heap.update p f,toks:=t }:=by
 have e:(s.heap.update p f).get? p=some { cls:=.type "list",data:=.seq its'.toArray n' }:=by
  rw[ğ f ho (by rw[hf] <;> rfl),hf]
 refine I.write (x:=p) (e:=p) (by rw[h];trivial) (.inl rfl) (λb u hb q=>(æ _ _ (ă hb)).trans q) ⟨_,e⟩ ?_
 exact⟨hz,its',n',r,e⟩
def NZ:V->V->V->Hp->(Hp->Prop)->Prop:=λo i v H Q=>∃p xs k j,o=.ref p/\i=.int k/\H p=some (.lst xs)/\ixN xs.length k=some j/\Q (upd H p (.lst (xs.set j v)))
def set_list:Vf X NZ:=by
 intro pins s σ H o i v ov iv u Q I ro ri rv h
 obtain⟨p,xs,k,j,rfl,rfl,hp,hj,q⟩:=h
 cases ro
 obtain⟨t,rfl⟩:=ri
 obtain⟨its,n,r,ho,hz⟩:=I.lst hp
 obtain⟨h1,h2,h3,h4⟩:=vo hj
 have hl:=r.length
 have hn:=qO
 have I':Inv X pins σ (upd H p (.lst (xs.set j v))) { s with heap:=s.heap.update p (Ù (·.setIfInBounds j u)) } :=
  I.Q6 hp ho (zN its n j u) (r.set rv j) (by rw[List.length_set];exact hz) s.toks
 by_cases h0:0<=k
 ·have hk:k.toNat=j:=by
   rw[seqIndex_of h0 h4] at h1
   exact Ý h1
  exact W.ki_setAt ho h0 (by omega) (by rw[Ï,←hl];exact h4) (by rw[hk];exact⟨_,I',q⟩)
 ·have hk:(k+(its.toArray.size:Int)).toNat=j:=by
   rw[seqIndex_neg (by omega) h3] at h1
   rw[Ï,←hl]
   exact Ý h1
  exact W.ki_setBack ho (by omega) (by rw[Ï,←hl];exact h3) (by omega) (by rw[hk];exact⟨_,I',q⟩)
def ux(lo hi:Option Int)(n:Nat):(sliceBounds lo hi none n).1=((HT.sIx n 0 lo:Nat):Int)/\(sliceBounds lo hi none n).2.1=((HT.sIx n n hi:Nat):Int)/\(sliceBounds lo hi none n).2.2=1:=by
 refine⟨?_,?_,rfl⟩
 ·cases lo with
  |none=>simp[sliceBounds,HT.sIx]
  |some i =>
   simp only[sliceBounds,HT.sIx,Option.getD_none,show(1:Int) > 0 by decide,if_true]
   by_cases h:i<0
   ·simp only[h,if_true] <;> omega
   ·simp only[h,if_false] <;> omega
 ·cases hi with
  |none=>simp[sliceBounds,HT.sIx]
  |some i =>
   simp only[sliceBounds,HT.sIx,Option.getD_none,show(1:Int) > 0 by decide,if_true]
   by_cases h:i<0
   ·simp only[h,if_true] <;> omega
   ·simp only[h,if_false] <;> omega
def rH(its:List Value)(lo hi:Option Int):slicePick its.toArray lo hi none=((its.drop (HT.sIx its.length 0 lo)).take (HT.sIx its.length its.length hi - HT.sIx its.length 0 lo)).toArray:=by
 obtain⟨h1,h2,h3⟩:=ux lo hi its.toArray.size
 unfold slicePick
 rw[h1,h2,h3]
 simp only[sliceRange_one,pick_run,Ï] <;> rfl
def VD(K:Ñ):V->Option Int->Option Int->Hp->VK->Prop:=λx lo hi H Q=>∃a xs,x=.ref a/\SqL K H a xs/\∀p,H p=none->Q (.ref p) (upd H p (.lst (nF xs lo hi)))
def uy:SlR X (VD X.K):=by
 intro pins s σ H x v vl vu lo hi sl Q I rx hs pl pu h
 obtain⟨a,xs,rfl,hx,q⟩:=h
 cases rx
 obtain⟨its,r,ht,hz⟩:=I.list hx
 have hlen:=r.length
 refine⟨"list",_,slot_list_getitem.lookup,ht.isList.typeIs,?_⟩
 refine wpAny_getItem_list_slice ht.isList hs pl pu .none (by simp) ?_ (by rw[Ï] <;> omega)
 rw[rH,←hlen]
 refine⟨.ref s.heap.objs.size,_,I.laid (t':=s.toks) (o:=.lst (nF xs lo hi)) (λb ob q=>Æ _ q) (Ì _) ?_,rfl,q _ (I.hok.fresh (Ì _))⟩
 exact⟨î (nZ xs lo hi) hz,_,0,(r.drop (HT.sIx xs.length 0 lo)).take (HT.sIx xs.length xs.length hi - HT.sIx xs.length 0 lo),Õ _ rfl⟩
def cV:bC X (.builtin "len") (λxs H Q=>∃p ys,xs=[.ref p]/\(SqL X.K H p ys\/SqT X.K H p ys)/\Q (.int ys.length) H):=by
 intro pins s σ H xs us Q I r h
 obtain⟨p,ys,rfl,hq,q⟩:=h
 obtain⟨u,rfl,rx⟩:=vals1 r
 cases rx
 have hn:=qO
 rcases hq with hq|hq
 ·obtain⟨its,r',pl,hz⟩:=I.list hq
  have hlen:=r'.length
  exact Calls.call_len_list pl.isList (by simp only[Ï] <;> omega) ⟨.int ys.length,H,I.tok _,⟨s.toks+1,by rw[Ï,hlen]⟩,q⟩
 ·obtain⟨its,r',pl,hz⟩:=I.tuple hq
  have hlen:=r'.length
  exact len_tuple pl (by simp only[Ï] <;> omega) ⟨.int ys.length,H,I.tok _,⟨s.toks+1,by rw[Ï,hlen]⟩,q⟩
def vO:bC X (.type "list") (λxs H Q=>∃p ys,xs=[.ref p]/\(SqL X.K H p ys\/SqT X.K H p ys)/\∀l,H l=none->Q (.ref l) (upd H l (.lst ys))):=by
 intro pins s σ H xs us Q I r h
 obtain⟨p,ys,rfl,hq,q⟩:=h
 obtain⟨u,rfl,rx⟩:=vals1 r
 cases rx
 have fin:∀(its:List Value),Vals ys its->ys.length<=sizeLine->∀(h':Heap) (c':Nat),(∀b o',s.heap.get? b=some o'->h'.get? b=some o') ->
   h'.get? s.heap.objs.size=some { cls:=.type "list",dict:=none,data:=.seq its.toArray c',slots:=#[] }->EP X pins σ Q (.ref s.heap.objs.size) { s with heap:=h' }:=λits r' hz h' c' kp e =>
  ⟨.ref s.heap.objs.size,_,I.laid (t':=s.toks) kp (Ì _) (show aU X.prog X.w _ h' _ (.lst ys) from⟨hz,its,c',r',e⟩),rfl,q _ (I.hok.fresh (Ì _))⟩
 rcases hq with hq|hq
 ·obtain⟨its,r',pl,hz⟩:=I.list hq
  have hlen:=r'.length
  obtain⟨o,ho,hc,n,hd⟩:=pl.isList
  exact call_list_seq p (.inl rfl) ho hc hd (λh' c' kp e=>fin its r' hz h' c' kp e) (by simp only[Ï] <;> omega)
 ·obtain⟨its,r',pl,hz⟩:=I.tuple hq
  have hlen:=r'.length
  obtain⟨o,ho,hc,n,hd⟩:=pl
  exact call_list_seq p (.inr rfl) ho hc hd (λh' c' kp e=>fin its r' hz h' c' kp e) (by simp only[Ï] <;> omega)
def rQ:bC X (.type "tuple") (λxs H Q=>∃p ys,xs=[.ref p]/\((SqL X.K H p ys/\∀l,H l=none->Q (.ref l) (upd H l (.tup ys)))\/(SqT X.K H p ys/\Q (.ref p) H))):=by
 intro pins s σ H xs us Q I r h
 obtain⟨p,ys,rfl,h⟩:=h
 obtain⟨u,rfl,rx⟩:=vals1 r
 cases rx
 rcases h with ⟨hq,q⟩|⟨hq,q⟩
 ·obtain⟨its,r',pl,hz⟩:=I.list hq
  have hlen:=r'.length
  refine call_tuple_list pl.isList (λh' kp=>?_) (by simp only[Ï] <;> omega)
  have I1:Inv X pins σ H { s with heap:=h' }:=I.kept (t':=s.toks) kp
  have I2:Inv X pins σ (upd H h'.objs.size (.tup ys)) { s with heap:=h'.push { cls:=.type "tuple",data:=.seq its.toArray } } :=
   I1.laid (t':=s.toks) (λb o e=>Æ _ e) (Ì _) (show aU X.prog X.w _ _ _ (.tup ys) from⟨hz,its,r',IsTup.new _ _⟩)
  exact⟨.ref h'.objs.size,_,I2,rfl,q _ (I1.hok.fresh (Ì _))⟩
 ·obtain⟨its,r',pl,hz⟩:=I.tuple hq
  exact call_tuple_same pl ⟨.ref p,H,I,rfl,q⟩
def tyV(K:Ñ)(T:String)(x:V)(H:Hp):Prop:=match x with
 |.str _=>T="str"
 |.int _=>T="int"
 |.ref p=>(T="list"/\∃xs,SqL K H p xs)\/(T="tuple"/\∃o,K.lookup p=some o/\o.cls=.type "tuple"/\o.dict=none) ∨
   (T="dict"/\((∃kvs,H p=some (.dK kvs))\/∃kvs,H p=some (.dT kvs)))\/(T="set"/\∃S n,H p=some (.set S n))
 |_=>False
def O2{pins:List (Addr×Obj)}{σ:St}{H:Hp}{s:Shared}{T:String}{x:V}{v:Value}(I:Inv X pins σ H s)(r:RelV x v)(ty:tyV X.K T x H) :
  s.TypeIs v T/\∀a,v=.ref a->∃ob,s.heap.get? a=some ob/\ob.dict=none:=by
 cases x with
 |str z =>
  obtain⟨t,rfl⟩:=r
  cases (show T="str" from ty)
  exact⟨typeIs_str s z t,λ_ e=>nomatch e⟩
 |int i =>
  obtain⟨t,rfl⟩:=r
  cases (show T="int" from ty)
  exact⟨typeIs_int s i t,λ_ e=>nomatch e⟩
 |ref p =>
  cases r
  rcases ty with ⟨rfl,xs,hq⟩|⟨rfl,o,hk,hc,hd⟩|⟨rfl,hk⟩|⟨rfl,S,n,hk⟩
  ·obtain⟨its,_,pl,_⟩:=I.list hq
   refine⟨pl.isList.typeIs,λa e=>?_⟩
   cases e
   obtain⟨o,n,e,c,hd,_⟩:=pl
   exact⟨o,e,hd⟩
  ·refine⟨⟨o,I.kIn p o hk,hc⟩,λa e=>?_⟩
   cases e
   exact⟨o,I.kIn _ o hk,hd⟩
  ·have z:∃o,s.heap.get? p=some o/\o.ExactDict:=by
    rcases hk with ⟨kvs,hk⟩|⟨kvs,hk⟩
    ·obtain⟨_,_,_,_,o,_,_,e,ex,_⟩:=I.hok p _ hk
     exact⟨o,e,ex⟩
    ·obtain⟨_,_,_,_,o,_,_,e,ex,_⟩:=I.hok p _ hk
     exact⟨o,e,ex⟩
   obtain⟨o,e,ex⟩:=z
   refine⟨⟨o,e,ex.1⟩,λa e2=>?_⟩
   cases e2
   exact⟨o,e,ex.2.1⟩
  ·obtain⟨o,_,_,_,e,ex,_⟩:=I.hok p _ hk
   refine⟨⟨o,e,ex.1⟩,λa e2=>?_⟩
   cases e2
   exact⟨o,e,ex.2.1⟩
 |_=>exact è ty
def tBM(K:Ñ)(T:String)(r:V->List V->Hp->VK->Prop)(to:TE)(t:TA):TE:=λσ H Q=>to σ H λx H1=>tyV K T x H1/\t σ H1 λxs H2=>r x xs H2 Q
variable {o e:Expr}{es:List Expr}{to:TE}{t:TA}{name:Str}{apos cpos:Pos}{T id:String}{r:V->List V->Hp->VK->Prop}
def qe(pa:PlainAttrs T)(slot:Slot T name id)(hty:typeOf (.builtin id)=pure (.type "method_descriptor"))(hm:MtR X id r)(ho:PE X o to)(ha:PA X (e::es) t)(hbase:attributeBase o name X.env (eval o X.env)=eval o X.env:=by rfl)(hfew:((backTo cpos (starEach (e::es) X.env)).all (λx=>!x.1)&&(backToKw cpos (keywordEach [] X.env)).all (λx=>x.1.isSome)
  &&decide ((e::es).length+([]:List Keyword).length+(if ([]:List Keyword).isEmpty then 0 else 1)<30))=true:=by rfl)(hline:(apos.endLine == cpos.line)=true:=by rfl)(hs:starEach (e::es) X.env=(false,eval e X.env)::starEach es X.env:=by rfl)(hplain:(backTo cpos (starEach es X.env)).any (·.1)=false:=by rfl) :
  PE X (.Call (.Attribute o name apos) (e::es) [] cpos) (tBM X.K T r to t):=by
 intro pins s σ H Q I h
 refine wpAny_Call_method_late hbase hfew hline rfl (thn (ho pins s σ H _ I h) λv s1 ⟨x,H1,I1,r1,ty,q1⟩=>?_)
 obtain⟨h1,h2⟩:=O2 I1 r1 ty
 refine⟨T,id,pa,slot,hty,h1,h2,?_⟩
 have hA:=ha cpos pins s1 σ H1 _ I1 q1
 rw[hs] at hA ⊢
 refine Calls.callWith_builtin (by show(false || (backTo cpos (starEach es X.env)).any (·.1))=false;rw[hplain] <;> rfl) (Calls.evalArgs_plain ?_)
 exact thn hA λus s2 ⟨vs,H2,I2,r2,q2⟩=>hm pins s2 σ H2 x vs v us Q I2 r1 r2 q2
/- xs.append(e),list.index on a module's tuple .. are MtR facts of 06m -/
end
def MtM(X:Cx)(id:String)(r:V->List V->Hp->VK->Prop):Prop :=
 ∀(pins:List (Addr×Obj)) (s:Shared) (σ:St) (H:Hp) (x:V) (xs:List V) (v:Value) (us:List Value) (Q:VK),Inv X pins σ H s->RelV x v->Vals xs us->r x xs H Q ->
  wpAny (model X.prog X.w) X.A (call (.builtin id) (v::us)) (EP X pins σ Q) X.xe s
def Vals.one:∀{x:V}{us:List Value},Vals [x] us->∃u,us=[u]/\RelV x u
 |_,_,.cons r .nil=>⟨_,rfl,r⟩
def Vals.eraseIdx:∀{xs:List V}{us:List Value} (i:Nat),Vals xs us->Vals (xs.eraseIdx i) (us.eraseIdx i)
 |_,_,_,.nil=>.nil
 |_,_,0,.cons _ t=>t
 |_,_,i+1,.cons r t=>.cons r (Vals.eraseIdx i t)
def Vals.rep{xs:List V}{us:List Value}(h:Vals xs us):∀k:Nat,Vals (Ë k xs).flatten (Ë k us).flatten
 |0=>.nil
 |k+1=>by
  rw[ľ,ľ,Š,Š]
  exact Vals.append h (Vals.rep h k)
def sW{α:Type}:∀(l:List α) (i:Nat),(l.eraseIdx i).length<=l.length
 |[],_=>Ì _
 |_::_,0=>Į _
 |_::r,i+1=>Nat.succ_le_succ (sW r i)
def foldl_rep(its:List Value):∀(k:Nat) (acc:List Value),
  List.foldl (λx1 x2=>x1++x2) acc.toArray (Ë k its.toArray)=(acc++(Ë k its).flatten).toArray
 |0,acc=>by simp
 |k+1,acc=>by
  have e:acc.toArray++its.toArray=(acc++its).toArray:=by simp
  have e2:(acc++its)++(Ë k its).flatten=acc++(Ë (k+1) its).flatten:=by
   rw[ľ,Š,List.append_assoc]
  rw[←e2,←foldl_rep its k (acc++its),←e,ľ,List.foldl_cons]
section
variable {X:Cx}{pins:List (Addr×Obj)}{σ:St}{H:Hp}{s:Shared}{l b:Addr}{xs ys zs:List V}
def Inv.Q7{its its':List Value}{n:Nat}{f:Array Value->Array Value}{t':Nat}(I:Inv X pins σ H s)(hH:H l=some (.lst xs))(e:s.heap.get? l=some { cls:=.type "list",data:=.seq its.toArray n })(hf:f its.toArray=its'.toArray)(hv:Vals ys its')(hz:ys.length<=sizeLine) :
  Inv X pins σ (upd H l (.lst ys)) { s with heap:=s.heap.update l (Ù f),toks:=t' }:=by
 have q:=PySem.IsL.update e f
 rw[hf] at q
 refine I.write (x:=l) (e:=l) (by rw[hH];exact trivial) (.inl rfl) (λb' u hb hu=>(æ s.heap (Ù f) (ă hb)).trans hu) ⟨_,q⟩ ?_
 exact⟨hz,its',_,hv,q⟩
def Inv.Uk{its:List Value}{t':Nat}(I:Inv X pins σ H s)(hv:Vals ys its)(hz:ys.length<=sizeLine) :
  Inv X pins σ (upd H s.heap.objs.size (.lst ys)) { s with heap:=s.heap.push { cls:=.type "list",data:=.seq its.toArray },toks:=t' } :=
 I.laid (λ_ _ q=>Æ _ q) (Ì _) ⟨hz,its,0,hv,Õ _ rfl⟩
def Inv.fresh(I:Inv X pins σ H s):H s.heap.objs.size=none:=I.hok.fresh (Ì _)
def Inv.zO(I:Inv X pins σ H s)(hH:H l=some (.lst xs)):xs.length<=sizeLine/\∃(its:List Value) (n:Nat),Vals xs its/\xs.length=its.length/\s.heap.get? l=some { cls:=.type "list",data:=.seq its.toArray n }:=by
 obtain⟨z,its,n,r,e⟩:=I.hok l _ hH
 exact⟨z,its,n,r,r.length,e⟩
def w6{n:Nat}(h:n<=sizeLine):Ţ n=false:=by
 unfold Ţ
 exact decide_eq_false (by omega)
end
section
variable {X:Cx}
def oU:V->List V->Hp->VK->Prop:=λx vs H Q=>∃l xs y,x=.ref l/\vs=[y]/\H l=some (.lst xs)/\xs.length<sizeLine/\Q .non (upd H l (.lst (xs++[y])))
def fV:MtM X "list.append" oU:=by
 intro pins s σ H x vs v us Q I rx rv h
 obtain⟨l,xs,y,rfl,rfl,hH,hz,q⟩:=h
 cases rx
 obtain⟨u,rfl,ru⟩:=rv.one
 obtain⟨z,its,n,r,hl,e⟩:=I.zO hH
 refine call_meets F.slot_list_append ⟨_,e,rfl⟩ F.entry_list_append (F.args_list_append_2 _ _) (PySem.list_append l its.toArray n u (by rw[Ï];omega)) ⟨e,?_⟩
 refine⟨.non,_,I.Q7 (its':=its++[u]) hH e (by simp) (r.append (.cons ru .nil)) ?_,rfl,q⟩
 rw[Ð,ņ]
 omega
def Br:V->List V->Hp->VK->Prop:=λx vs H Q=>∃l b xs zs,x=.ref l/\vs=[.ref b]/\H l=some (.lst xs)/\H b=some (.lst zs)/\xs.length+zs.length<=sizeLine/\Q .non (upd H l (.lst (xs++zs)))
def Ej:MtM X "list.extend" Br:=by
 intro pins s σ H x vs v us Q I rx rv h
 obtain⟨l,b,xs,zs,rfl,rfl,hH,hB,hz,q⟩:=h
 cases rx
 obtain⟨u,rfl,ru⟩:=rv.one
 cases ru
 obtain⟨z,its,n,r,hl,e⟩:=I.zO hH
 obtain⟨z2,its2,n2,r2,hl2,e2⟩:=I.zO hB
 have hsz:its.toArray.size+its2.toArray.size<=sizeLine:=by rw[Ï,Ï];omega
 have hlong:¬(!its.toArray.isEmpty&&Ţ (its.toArray.size+its2.toArray.size))=true:=by
  rw[w6 hsz,ķ]
  exact É
 refine call_meets F.slot_list_extend ⟨_,e,rfl⟩ F.entry_list_extend (F.args_list_extend_2 _ _)
  (AutoSeq1.list_extend_list_list_0 l its.toArray n b its2.toArray n2 hlong (by rw[Ï];omega) (by omega)) ⟨e,e2,?_⟩
 refine⟨.non,_,I.Q7 (its':=its++its2) hH e (by simp) (r.append r2) ?_,rfl,q⟩
 rw[Ð]
 omega
def Qf:V->List V->Hp->VK->Prop:=λx vs H Q=>∃l xs i k y,x=.ref l/\vs=[.int i]/\H l=some (.lst xs)/\-(2 ^ 63)<=i/\i<2 ^ 63/\seqIndex? i xs.length=some k/\xs[k]?=some y/\Q y (upd H l (.lst (xs.eraseIdx k)))
def Ig:MtM X "list.pop" Qf:=by
 intro pins s σ H x vs v us Q I rx rv h
 obtain⟨l,xs,i,k,y,rfl,rfl,hH,h1,h2,hk,hy,q⟩:=h
 cases rx
 obtain⟨u,rfl,ru⟩:=rv.one
 obtain⟨t,rfl⟩:=ru
 obtain⟨z,its,n,r,hl,e⟩:=I.zO hH
 obtain⟨w,hw,rw'⟩:=r.get hy
 refine call_meets F.slot_list_pop ⟨_,e,rfl⟩ F.entry_list_pop (F.args_list_pop_2 _ _)
  (MeetsSeq.list_pop_at l its.toArray n i t k w (fitsIndex_both h1 h2) (by rw[Ï,←hl];exact hk) (by rw[←Array.getElem?_toList];exact hw) (by rw[Ï];omega)) ⟨e,?_⟩
 refine⟨y,_,I.Q7 (its':=its.eraseIdx k) hH e ?_ (r.eraseIdx k) ?_,rw',q⟩
 ·show its.toArray.eraseIdxIfInBounds k=(its.eraseIdx k).toArray
  rw[List.eraseIdxIfInBounds_toArray]
 ·have:=sW xs k
  omega
def TQ:R2:=λx y H Q=>∃l b xs zs,x=.ref l/\y=.ref b/\H l=some (.lst xs)/\H b=some (.lst zs)/\xs.length+zs.length<=sizeLine/\∀p,H p=none->Q (.ref p) (upd H p (.lst (xs++zs)))
def zA:OpR X (binaryOp .Add) TQ:=by
 intro pins s σ H x y v u Q I rx ry h
 obtain⟨l,b,xs,zs,rfl,rfl,hH,hB,hz,q⟩:=h
 cases rx
 cases ry
 obtain⟨z,its,n,r,hl,e⟩:=I.zO hH
 obtain⟨z2,its2,n2,r2,hl2,e2⟩:=I.zO hB
 refine PySem.P.add_list e e2 ?_ (by rw[Ï,Ï];omega)
 have ea:its.toArray++its2.toArray=(its++its2).toArray:=by simp
 rw[ea]
 exact⟨.ref _,_,I.Uk (t':=s.toks) (r.append r2) (by rw[Ð];omega),rfl,q _ I.fresh⟩
def Tw:R2:=λx y H Q=>∃l k xs,x=.ref l/\y=.int k/\H l=some (.lst xs)/\-(2 ^ 63)<=k/\k<2 ^ 63/\xs.length * k.toNat<=sizeLine /\
 ∀p,H p=none->Q (.ref p) (upd H p (.lst (Ë k.toNat xs).flatten))
def len_rep{α:Type}(xs:List α)(k:Nat):(Ë k xs).flatten.length=k * xs.length:=by
 induction k with
 |zero=>simp
 |succ k ih=>rw[ľ,Š,Ð,ih,Nat.succ_mul,Nat.add_comm]
def Hl:OpR X (binaryOp .Mult) Tw:=by
 intro pins s σ H x y v u Q I rx ry h
 obtain⟨l,k,xs,rfl,rfl,hH,h1,h2,hz,q⟩:=h
 cases rx
 obtain⟨t,rfl⟩:=ry
 obtain⟨z,its,n,r,hl,e⟩:=I.zO hH
 have hlen:its.toArray.size * k.toNat<=sizeLine:=by rw[Ï,←hl];exact hz
 have hcap:¬its.toArray.size * k.toNat > (2 ^ 63 - 1) / 8:=by
  have:(sizeLine:Nat)<=(2 ^ 63 - 1) / 8:=by decide
  omega
 have hfit:¬(!Builtin.List.listFitsIndex k)=true:=by
  rw[fitsIndex_both h1 h2]
  exact É
 have hlong:¬Ţ (its.toArray.size * k.toNat)=true:=by
  rw[w6 hlen]
  exact É
 have hnew:List.foldl (λx1 x2=>x1++x2) #[] (Ë (if its.toArray.isEmpty=true then 0 else k.toNat) its.toArray)=(Ë k.toNat its).flatten.toArray:=by
  have f0:∀m:Nat,List.foldl (λx1 x2=>x1++x2) #[] (Ë m its.toArray)=(Ë m its).flatten.toArray:=λm=>by
   have:=foldl_rep its m []
   rw[List.nil_append] at this
   exact this
  rw[f0]
  cases its with
  |nil=>simp
  |cons a r'=>rw[if_neg (by simp)]
 refine wpAny_binaryOp_repeat_ref (T:="list") (U:="int") (by decide) ⟨_,e,rfl⟩ (λs'=>typeIs_int s' k t) noFill_list_mul F.fills_int_mul F.slot_int_rmul repeat_list F.slot_int_index.lookup
  (call_meets F.slot_int_rmul (typeIs_int s k t) F.entry_int_rmul (F.args_int_rmul_2 _ _) (int___rmul___int_list k t l its.toArray n)
   ⟨e,rfl,⟨_,e,rfl⟩,call_meets F.slot_list_mul ⟨_,e,rfl⟩ F.entry_list_mul (F.args_list_mul_2 _ _) (AutoListH.list___mul___list_int_3 l its.toArray n k t hfit hcap hlong) ⟨e,?_⟩⟩)
 rw[hnew]
 exact⟨.ref _,_,I.Uk (t':=s.toks) (r.rep k.toNat) (by rw[len_rep,Nat.mul_comm];exact hz),rfl,q _ I.fresh⟩
end
section
variable {prog:Program}{w:World}{A:Around}{E:Value->Shared->Prop}{s:Shared}
end
section
variable {X:Cx}
end
end L2
namespace Att
open PySem PySem.W PySem.Calls PyProof.Rows
def oK{P:Params}{h:Heap}:∀(ns:List Int) (vs:List Value),WellAll P h vs (ns.map WData.int)->IntsAre vs ns:=by
 intro ns
 induction ns with
 |nil =>
  intro vs w
  rw[List.map_nil] at w
  cases w
  exact .nil
 |cons n ns ih =>
  intro vs w
  rw[û] at w
  cases w with
  |cons a b =>
   cases a
   exact .cons _ _ (ih _ b)
def Dt{l:OpenLaw}{n:Nat}(hn:l.most=some n){P:Params}{h:Heap}{args:List WData}{vals:List Value}(hpre:l.row.toRowW.claim.pre args=true)(hwl:WellAll P h vals args) :
  ∃a vs ns,vals=[ü a]/\args=[WData.list (ns.map WData.int)]/\h.get? a=some { cls:=.type "list",data:=.seq vs.toArray }/\IntsAre vs ns/\ns.length<=n:=by
 have hsh:WShape.hasAll [] args [.list .int]=true:=(pre_splitW hpre).1
 have hc:l.pre.holds [] { args:=args }=true:=(pre_splitW hpre).2
 obtain⟨d,r,rfl,h1,h2⟩:=hasAllW_cons hsh
 obtain rfl:=hasAllW_nil h2
 obtain⟨xs,rfl,h3⟩:=hasW_list h1
 obtain⟨ns,rfl⟩:=items_int h3
 have hlen:ns.length<=n:=by
  unfold OpenLaw.pre at hc
  have h4:(WTm.not (.lt (.lit (.int (n:Int))) (.len (.arg 0)))).holds [] { args:=[.list (ns.map .int)] }=true:=by
   have h4:=(holds_andW hc).1
   rw[hn] at h4
   exact h4
  have h5:=condW_of h4 (w_not (w_lt w_lit (w_len_list (w_arg rfl))))
  rw[Ã] at h5
  refine Nat.le_of_not_lt λq=>?_
  have q':(n:Int)<((ns.length:Nat):Int):=by omega
  first
   |(rw[decide_eq_true q'] at h5;exact absurd h5 (by decide))
   |(simp at h5;omega)
 cases hwl with
 |cons w1 w2 =>
  cases w2
  cases w1 with
  |list ho hall=>exact⟨_,_,ns,rfl,rfl,ho,oK ns _ hall,hlen⟩
def Dw(l:OpenLaw)(args:List WData):l.row.toRowW.claim.post args (.bool true) args=true :=
 postW_of (r:=l.row.toRowW) (X:=(true == true))
  (show WShape.has [] (.bool true) .bool=true by first|rfl|decide|simp[WShape.has,WShape.arms,WShape.armsAll])
  (show(WTm.eq .res (.lit (.bool true))).value [] { args:=args,res:=some (.bool true),after:=args }=some (.bool (true == true)) from w_eq_bool (w_res rfl) w_lit) rfl
def yg{l:OpenLaw}{n:Nat}{q:Program}{loose:List Str}{XP:(Str->Option Value)->Heap->Prop}{YP:World->Heap->Prop}{d:DefRec}(hn:l.most=some n)(hdf:d.params.defaults=[])(call:∀(w:World) (s₀ s₁:Shared) (mg mb:Str->Option Value) (fa:Addr) (o:Obj) (pm cd doc:Value) (a:Addr) (vs:List Value) (ns:List Int),
   Ground q loose [] XP w s₀ mg mb s₁.heap->YP w s₁.heap ->
   s₁.heap.get? fa=some o->o.data=.func (docDef d.name d.params d.body d.scope pm cd doc)->s₁.heap.CodeRec cd d.name->mg d.name=some (.ref fa) ->
   s₁.heap.get? a=some { cls:=.type "list",data:=.seq vs.toArray }->IntsAre vs ns->ns.length<=n->s₁.gens=#[] ->
   codeAny (model l.prog w) callerA (.call (.ref fa) ⟨[.ref a],[]⟩) (λr s'=>r=.ok (.ret (.bool true))/\OldK s₁.heap s'.heap/\s'.os=s₁.os/\AllBare s'.gens) s₁) :
  WalkO q loose XP YP l.row.toRowW d [] (λf vs=>PySem.call f vs):=by
 intro w s₀ s₁ mg mb G Y fa o pm cd doc dV kV ho hd hcd hD hmg hg args vals as hpre hlay hrd hwl hlo
 obtain rfl:dV=.none:=Dflts.none hD hdf
 obtain rfl:kV=.none:=Dflts.noKw hD
 obtain⟨a,vs,ns,rfl,rfl,hobj,hints,hlen⟩:=Dt hn hpre hwl
 refine enter_call (codeAny_mono (call w s₀ s₁ mg mb fa o pm cd doc a vs ns G Y ho (fd_plain hd) hcd hmg hobj hints hlen hg) λr s' hq=>?_)
 obtain⟨rfl,h2,h3,h4⟩:=hq
 exact⟨.inl ⟨.bool true,.bool true,[],rfl,λ_=>rfl,.bool true,Dw l _,λ_=>⟨List.Pairwise.nil,λ_ hm=>(nomatch hm)⟩⟩,h2,h3,h4⟩
section
variable {prog:Program}{w:World}{A:Around}{E:Value->Shared->Prop}{s:Shared}{K:Frag}
def ledger(h:Heap)(L d:Addr):List (Addr×Obj):=(á h.objs.size).filterMap λa=>if a=L\/a=d then none else (h.get? a).map λo=>(a,o)
end
end Att
namespace L2
open PySem PySem.Spec PyProof.Rows
def rW:∀{vs:List Value}{ns:List Int},IntsAre vs ns->Vals (ns.map V.int) vs
 |_,_,.nil=>.nil
 |_,_,.cons n t h=>.cons ⟨t,rfl⟩ (rW h)
def fu(s:Stmt):Arguments:=match s with
 |.FunctionDef _ a _ _ _ _ _ _ _ _=>a
 |_=>{ posonlyargs:=[],args:=[],vararg:=none,kwonlyargs:=[],kw_defaults:=[],kwarg:=none,defaults:=[] }
def bO(s:Stmt):List Stmt:=match s with
 |.FunctionDef _ _ b _ _ _ _ _ _ _=>b
 |_=>[]
def aj(s:Stmt):Scope:=match s with
 |.FunctionDef _ _ _ _ _ _ sc _ _ _=>sc
 |_=>{ kind:=.function,names:=[],isGenerator:=false,isCoroutine:=false }
abbrev CX0:CXT:=λ_ _ _ _ _ _=>False
abbrev E0:XK:=λ_ _ _=>False
def T8{X:Cx}:Passes CX0 X E0:=λ_ _ _ _ _ _ _ h=>h.elim
structure Fun(K:Ñ)(x qual:Str)(st:Stmt)(f:Addr)(fd:FuncData):Prop where
 ex:∃(oc:Value) (od:Option Addr) (kV doc pm:Value) (an:Option Addr) (cdv ct:Value) (osl:Array (Option Value)),
  fd=W.fnOf x qual (fu st) (bO st) (aj st) .none kV doc pm an cdv ct/\K.lookup f=some ⟨oc,od,.func fd,osl⟩/\W.codeIn K cdv qual=true
 kp:W.keepIn K (.ref f)=true
section
variable {P:Program}{w:World}{K:Ñ}{mg:Str->Option Value}{base:Heap}
def Fun.ok{x qual:Str}{st:Stmt}{f:Addr}{fd:FuncData}{N ps:List Str}{k:Nat}{sp:Sp}(F:Fun K x qual st f fd)(S:FnScope N ps (aj st))(len:∀vs H Q E,sp vs H Q E->vs.length=ps.length)(hbody:∀(cdv:Value) (A:Around) (outer:List Env) (s:Shared) (H:Hp) (vs:List V) (Q:VK) (E:XK),Room k (A.deeper (envOfC qual (aj st) s.heap.objs.size f cdv))->sp vs H Q E ->
   ∃t,PSs (rP CX0 P w K mg base N qual (aj st) f cdv A outer s H E).nox (bO st) t/\t { nx:=λ_ H'=>Q .non H',rt:=Q } (start N vs) H):FnOk P w K mg base CX0 (k+1) f fd ps sp:=by
 obtain⟨oc,od,kV,doc,pm,an,cdv,ct,osl,rfl,lk,hcd⟩:=F.ex
 refine Js lk hcd S len λA outer s H vs Q E hr hsp=>?_
 obtain⟨t,h,q⟩:=hbody cdv A outer s H vs Q E hr hsp
 exact⟨t,h.nox,q⟩
def Fun.binds{x qual:Str}{st:Stmt}{f:Addr}{fd:FuncData}{ps:List Str}(F:Fun K x qual st f fd)(h:∀(kV doc pm:Value) (an:Option Addr) (cdv ct:Value) (us:List Value),us.length=ps.length->bindArgs (W.fnOf x qual (fu st) (bO st) (aj st) .none kV doc pm an cdv ct) ⟨us,[]⟩=pure (ps.zip us):=by intro _ _ _ _ _ _ us hl;first|(obtain⟨_,rfl⟩:=Nf.len1 us hl;rfl)|(obtain⟨_,_,rfl⟩:=Nf.len2 us hl;rfl)|(obtain⟨_,_,_,rfl⟩:=Nf.V6 us hl;rfl)):Binds K fd ps []:=by
 obtain⟨oc,od,kV,doc,pm,an,cdv,ct,osl,rfl,lk,hcd⟩:=F.ex
 exact .all (h kV doc pm an cdv ct)
def Rx{x qual:Str}{st:Stmt}{f:Addr}{oc:Value}{od an:Option Addr}{osl:Array (Option Value)}{kV doc pm cdv ct:Value}(l:K.lookup f=some ⟨oc,od,.func (W.fnOf x qual (fu st) (bO st) (aj st) .none kV doc pm an cdv ct),osl⟩)(c:W.codeIn K cdv qual=true)(k:W.keepIn K (.ref f)=true):Fun K x qual st f (W.fnOf x qual (fu st) (bO st) (aj st) .none kV doc pm an cdv ct):=⟨⟨oc,od,kV,doc,pm,an,cdv,ct,osl,rfl,l,c⟩,k⟩
end
section
variable {X:Cx}
def pv(i:Nat){x:Str}{pos:Pos}(hN:X.N[i]?=some x:=by rfl)(hv:Vis X.env.scope x:=by first|exact Ń rfl|exact Or.inr (Ń rfl)|exact Or.inr (Or.inr rfl))(hd:(x == ("__debug__":Str))=false:=by decide)(hcd:(x == ("__classdict__":Str))=false:=by decide):PE X (.Name x pos) (rF i):=Qn hN hv hd hcd
end
def aL{A B:Prop}(h:B):if false=true then A else B:=by
 rw[if_neg É]
 exact h
def aH{A B:Prop}(h:A):if true=true then A else B:=by
 rw[if_pos rfl]
 exact h
def bQ{c A B:Prop}[Decidable c](h1:c->A)(h2:¬c->B):if c then A else B:=by
 by_cases h:c
 ·rw[if_pos h]
  exact h1 h
 ·rw[if_neg h]
  exact h2 h
def Same(H H':Hp):Prop:=∀b o,H b=some o->H' b=some o
def Same.refl(H:Hp):Same H H:=λ_ _ h=>h
def Same.trans{H H1 H2:Hp}(a:Same H H1)(b:Same H1 H2):Same H H2:=λc o h=>b c o (a c o h)
structure CB where
 cl:List (Str×Addr)
 C:Addr
 s:Shared
 H:Hp
 ex:List Addr
abbrev Cx.bK(X:Cx)(own M:List Str)(scope:Scope)(c:CB):Cx where
 prog:=X.prog
 w:=X.w
 K:=X.K
 mg:=X.mg
 base:=X.base
 A:=X.A
 N:=own++M
 s₀:=c.s
 H₀:=c.H
 env:=compEnvC scope c.cl c.C X.env
 outer:=X.stack
 stack:=X.stack
 ex:=c.ex
 fn:=λx=>scope.names.lookup x == some .cell
 calm:=X.calm
 pn:=[]
 sf:=X.sf
 xe:=λ_ _=>False
abbrev Cx.comp(X:Cx)(own:List Str)(scope:Scope)(c:CB):Cx:=X.bK own X.N scope c
def cJ(cells:List (Str×Addr)):List (Str×NameKind)->List (Str×Addr)->List (Str×Addr)
 |[],acc=>acc
 |(n,k)::r,acc=>if k == .free then cJ cells r ((n,(cells.lookup n).getD 0)::acc) else cJ cells r acc
def gQ{env:Env}:∀(names:List (Str×NameKind)) (acc:List (Str×Addr)),(∀x∈names,x.2=.free->∃c,env.cells.lookup x.1=some c) ->
  (forIn names acc λ(p:Str×NameKind) (r:List (Str×Addr))=>match p with
   |(name,kind)=>if (kind == ñ)=true then do let a ←cellOf env name;pure (Ė ((name,a)::r)) else pure (Ė r):Sem (List (Str×Addr)))=pure (cJ env.cells names acc)
 |[],acc,_=>by simp[cJ]
 |(n,k)::r,acc,h=>by
  rw[List.forIn_cons]
  by_cases hk:(k == ñ)=true
  ·obtain⟨c,hc⟩:=h (n,k) Ö (by simpa using hk)
   have e:cellOf env n=pure c:=by unfold cellOf;rw[hc]
   have ih:=gQ (env:=env) r ((n,c)::acc) λx hx=>h x (Ô _ hx)
   show((if (k == ñ)=true then do let a ←cellOf env n;pure (Ė ((n,a)::acc)) else pure (Ė acc)) >>= _:Sem _)=_
   rw[if_pos hk,e]
   unfold cJ
   rw[if_pos hk,hc]
   exact ih
  ·have ih:=gQ (env:=env) r acc λx hx=>h x (Ô _ hx)
   show((if (k == ñ)=true then do let a ←cellOf env n;pure (Ė ((n,a)::acc)) else pure (Ė acc)) >>= _:Sem _)=_
   rw[if_neg hk]
   unfold cJ
   rw[if_neg hk]
   exact ih
def Am{scope:Scope}{env:Env}(h:∀x∈scope.names,x.2=.free->∃c,env.cells.lookup x.1=some c):closureFor scope env=pure (cJ env.cells scope.names []):=by
 have e:=gQ (env:=env) scope.names [] h
 unfold closureFor
 show(forIn scope.names [] _ >>= λcs=>pure cs:Sem _)=_
 have e2:(forIn scope.names ([]:List (Str×Addr)) λ(p:Str×NameKind) (r:List (Str×Addr))=>match p with
   |(name,kind)=>if (kind == ñ)=true then do let a ←cellOf env name;pure (Ė ((name,a)::r)) else pure (Ė r):Sem (List (Str×Addr)))=pure (cJ env.cells scope.names []):=e
 rw[e2]
 rfl
def lW{cells:List (Str×Addr)}{x:Str}{c:Addr}:∀{names:List (Str×NameKind)}{acc:List (Str×Addr)},(cJ cells names acc).lookup x=some c->acc.lookup x=some c\/((x,ñ)∈names/\c=(cells.lookup x).getD 0)
 |[],acc,h=>.inl h
 |(n,k)::r,acc,h=>by
  unfold cJ at h
  by_cases hk:(k == ñ)=true
  ·rw[if_pos hk] at h
   have hk':k=.free:=by simpa using hk
   rcases lW h with q|⟨q1,q2⟩
   ·rw[ÿ] at q
    cases hx:x == n with
    |true =>
     rw[hx] at q
     have e:x=n:=by simpa using hx
     subst e hk'
     exact .inr ⟨Ö,(Ý q).symm⟩
    |false=>rw[hx] at q;exact .inl q
   ·exact .inr ⟨Ô _ q1,q2⟩
  ·rw[if_neg hk] at h
   rcases lW h with q|⟨q1,q2⟩
   ·exact .inl q
   ·exact .inr ⟨Ô _ q1,q2⟩
def rB{cells:List (Str×Addr)}{x:Str}:∀{names:List (Str×NameKind)}{acc:List (Str×Addr)},(acc.lookup x).isSome=true->((cJ cells names acc).lookup x).isSome=true
 |[],_,h=>h
 |(n,k)::r,acc,h=>by
  unfold cJ
  split
  ·refine rB ?_
   rw[ÿ]
   cases hx:x == n <;> simp[h]
  ·exact rB h
def iY{cells:List (Str×Addr)}{x:Str}:∀{names:List (Str×NameKind)}{acc:List (Str×Addr)},(x,ñ)∈names->((cJ cells names acc).lookup x).isSome=true
 |(n,k)::r,acc,h=>by
  unfold cJ
  rcases â.mp h with e|h
  ·cases e
   rw[if_pos (by rfl)]
   exact rB (by simp[ÿ])
  ·split
   ·exact iY h
   ·exact iY h
def dh(env:Env)(scope:Scope)(N:List Str):Bool :=
 (scope.kind == .function)&&scope.names.all λy=>match y.2 with
  |.local=>!(N.contains y.1)&&(scope.names.lookup y.1 == some .local)
  |.cell=>!(N.contains y.1)&&(scope.names.lookup y.1 == some .cell)
  |.free=>(scope.names.lookup y.1 == some .free)&&(env.kindOf y.1 == some .cell || env.kindOf y.1 == some .free)
  |_=>true
def cH{env:Env}:∀{names:List (Str×NameKind)}{x:Str}{q:NameKind},(names.map λ(n,k)=>if (k == ñ&&env.scope.kind == .function&&env.kindOf n == some .cell) then (n,ā) else (n,k)).lookup x=some q ->
  ∃k,(x,k)∈names/\names.lookup x=some k/\(q=k\/(q=.cell/\k=.free))
 |[],_,_,h=>by simp at h
 |(n,k)::r,x,q,h=>by
  have ih:=@cH env r x q
  have h':List.lookup x ((if (k == ñ&&env.scope.kind == .function&&env.kindOf n == some .cell)=true then (n,ā) else (n,k))::(r.map λ(n,k)=>if (k == ñ&&env.scope.kind == .function&&env.kindOf n == some .cell) then (n,ā) else (n,k)))=some q:=h
  by_cases hc:(k == ñ&&env.scope.kind == .function&&env.kindOf n == some .cell)=true
  ·rw[if_pos hc,ÿ] at h'
   cases hx:x == n with
   |true =>
    rw[hx] at h'
    have e:x=n:=by simpa using hx
    subst e
    have hk:k=.free:=by simp at hc;exact hc.1.1
    exact⟨k,Ö,by simp[ÿ],.inr ⟨(Ý h').symm,hk⟩⟩
   |false =>
    rw[hx] at h'
    obtain⟨k',h1,h2,h3⟩:=ih h'
    exact⟨k',Ô _ h1,by rw[ÿ,hx];exact h2,h3⟩
  ·rw[if_neg hc,ÿ] at h'
   cases hx:x == n with
   |true =>
    rw[hx] at h'
    have e:x=n:=by simpa using hx
    subst e
    exact⟨k,Ö,by simp[ÿ],.inl (Ý h').symm⟩
   |false =>
    rw[hx] at h'
    obtain⟨k',h1,h2,h3⟩:=ih h'
    exact⟨k',Ô _ h1,by rw[ÿ,hx];exact h2,h3⟩
def HOk.track{P:Program}{w:World}{H:Hp}{h:Heap}{a:Addr}{o:HO}(x:HOk P w H h)(hn:H a=none)(new:aU P w (upd H a o) h a o):HOk P w (upd H a o) h:=λb u e=>by
 by_cases hb:b=a
 ·subst hb;rw[ao] at e;cases e;exact new
 ·rw[ak hb] at e
  exact(x b u e).stay (λc v _ q=>q) (λc q=>by rw[ak (aF q hn)];exact q) λc xs q=>by rw[ak (aF q hn)];exact q
def Fe{prog:Program}{w:World}{A:Around}{s:Shared}{elt target iter:Expr}{ifs:List Expr}{scope:Scope}{pos:Pos}{it acc:Value}{env:Env}{R:Result->Shared->Prop}(I:Nat->Shared->Prop)(turn:∀n s,I n s->wpAny (model prog w) A (pyNext it) (λr s₁=>match r with
   |none=>R (.ok .next) s₁
   |some v=>wpAny (model prog w) A (letOwnedTupleGo target it v) (λ_ s₀=>wpAny (model prog w) A (assign target env v) (λ_ s₂ =>
     wpAny (model prog w) A (forIn ifs true λc r=>if r=true then do let ok ←isTrue c env (eval c env);pure (Ė ok) else pure (Ė r)) (λok s₃ =>
      if ok=true then wpAny (model prog w) A (eval elt env) (λx s₄ =>
       wpAny (model prog w) A (call (.builtin "list.append") [acc,x]) (λ_ s₅=>∃m,m<n/\I m s₅) (λ_ _=>False) s₄) (λ_ _=>False) s₃
      else ∃m,m<n/\I m s₃) (λ_ _=>False) s₂) (λ_ _=>False) s₀) (λ_ _=>False) s₁) (λ_ _=>False) s)(n:Nat)(h:I n s):codeAny (model prog w) A (.compLoop (.ListComp elt [⟨target,iter,ifs,0⟩] scope pos) 0 it acc env) R s:=by
 refine codeAny_loop rfl I (λn s hI=>?_) n h
 show wpAny _ A ((compTurn (.ListComp elt [⟨target,iter,ifs,0⟩] scope pos) 0 it acc env).onRaise (λx=>do noteFrame x env;theTreesLotGoes x)) _ _ s
 refine wpAny_noted ?_
 rw[compTurn_list]
 refine Â (wpAny_standAt (Â (ĩ (turn n s hI) (λr s₁ h₁=>?_) λ_ _ h'=>h'.elim)))
 cases r with
 |none=>exact Ê h₁
 |some v =>
  refine Â (ĩ h₁ (λ_ s₀ h₀'=>?_) λ_ _ h'=>h'.elim)
  refine Â (ĩ h₀' (λ_ s₂ h₂=>Â (ĩ h₂ (λok s₃ h₃=>?_) λ_ _ h'=>h'.elim)) λ_ _ h'=>h'.elim)
  cases ok with
  |false=>exact Ê ⟨rfl,h₃⟩
  |true =>
   exact Â (Â (ĩ h₃ (λx s₄ h₄=>Â (ĩ h₄ (λ_ s₅ h₅=>Ê (Ê ⟨rfl,h₅⟩)) λ_ _ h'=>h'.elim)) λ_ _ h'=>h'.elim))
def PTs(X:Cx)(ifs:List Expr)(t:TT):Prop :=
 ∀(pins:List (Addr×Obj)) (s:Shared) (σ:St) (H:Hp) (Q:Bool->Hp->Prop),Inv X pins σ H s->t σ H Q ->
  wpAny (model X.prog X.w) X.A (forIn ifs true λc r=>if r=true then do let ok ←isTrue c X.env (eval c X.env);pure (Ė ok) else pure (Ė r)) (TP X pins σ Q) X.xe s
def Bv{X:Cx}:PTs X [] (λ_ H Q=>Q true H):=λ_ _ _ H _ I h=>wpAny_tests_nil ⟨H,I,h⟩
def Bu{X:Cx}{c:Expr}{t:TT}(hc:PT X c t):PTs X [c] t:=λpins s σ H Q I h=>wpAny_tests_one (hc pins s σ H Q I h)
def J1(J:It)(n:Nat)(g:CB->TG)(tt:CB->TT)(te:CB->TE)(σ:St)(Q:VK)(H:Hp):Prop:=∃W:Nat->Nat->List V->Hp->Prop,(∃m,W 0 m [] H)/\∀(c:CB) i m ys H,W i m ys H ->
 (J.stop i H/\∀p,H p=none->Q (.ref p) (upd H p (.lst ys))) ∨
 (J.go i H/\ys.length<sizeLine/\∃N:List V->Hp->Prop,(∀ys' H',N ys' H'->∃m',m'<m/\W (i+1) m' ys' H')/\∀x H',J.yld i H x H'->g c x (Ë n none++σ) H' λσ2 H2=>tt c σ2 H2 λb H3 =>
  if b=true then te c σ2 H3 λv H4=>N (ys++[v]) H4 else N ys H3)
def tLC(n:Nat)(wi:TI)(g:CB->TG)(tt:CB->TT)(te:CB->TE):TE:=λσ H Q=>wi σ H λJ H1=>J1 J n g tt te σ Q H1
section
variable {X:Cx}{own:List Str}{scope:Scope}{tg iter elt:Expr}{ifs:List Expr}{pos:Pos}{wi:TI}{g:CB->TG}{tt:CB->TT}{te:CB->TE}
def bA(env:Env)(scope:Scope)(N M:List Str):Bool :=
 dh env scope M&&((N.length == M.length)&&(N.zip M).all λy=>y.1 == y.2 || ((y.2 == ("":Str))&&scope.names.all λz=>!(z.1 == ("":Str))))
def rm{env:Env}{N:List Str}(h:dh env scope N=true):bA env scope N N=true:=by
 unfold bA
 rw[h,Ŝ,beq_self_eq_true,Ŝ,Ą]
 rintro⟨a,b⟩ hy
 obtain⟨i,hi,e⟩:=List.mem_iff_getElem.mp hy
 rw[List.getElem_zip] at e
 cases e
 simp
variable {M:List Str}
def dX(h:bA X.env scope X.N M=true):scope.kind=.function:=by
 unfold bA dh at h
 simp only[Î,beq_iff_eq] at h
 exact h.1.1
def bM(h:bA X.env scope X.N M=true):∀y∈scope.names,(y.2=.local->y.1∉M/\scope.names.lookup y.1=some .local)/\(y.2=.cell->y.1∉M/\scope.names.lookup y.1=some .cell)/\(y.2=.free->scope.names.lookup y.1=some .free/\(X.env.kindOf y.1=some .cell\/X.env.kindOf y.1=some .free)):=by
 unfold bA at h
 rw[Î] at h
 have h:=h.1
 unfold dh at h
 rw[Î,Ą] at h
 intro y hy
 have q:=h.2 y hy
 obtain⟨n,k⟩:=y
 cases k with
 |«local»=>simp at q ⊢;exact q
 |cell=>simp at q ⊢;exact q
 |free=>simp at q ⊢;exact q
 |globalExplicit=>simp
 |globalImplicit=>simp
def bf:∀(names:List (Str×NameKind)) (n:Nat) (acc:List (Str×Addr)),cellsFrom n names acc=cellsFrom n names []++acc
 |[],_,_=>rfl
 |(nm,k)::r,n,acc=>by
  show(if (k == ā)=true then cellsFrom (n+1) r ((nm,n)::acc) else cellsFrom n r acc)=(if (k == ā)=true then cellsFrom (n+1) r [(nm,n)] else cellsFrom n r [])++acc
  split
  ·rw[bf r (n+1) ((nm,n)::acc),bf r (n+1) [(nm,n)],List.append_assoc]
   rfl
  ·exact bf r n acc
def dZ:∀(names:List (Str×NameKind)) (n:Nat) (x:Str) (c:Addr),(x,c)∈cellsFrom n names []->(x,ā)∈names/\n<=c
 |[],_,_,_,h=>nomatch h
 |(nm,k)::r,n,x,c,h=>by
  have h:(x,c)∈(if (k == ā)=true then cellsFrom (n+1) r [(nm,n)] else cellsFrom n r []):=h
  split at h
  ·rename_i hk
   rw[bf] at h
   rcases Ø.mp h with z|z
   ·obtain⟨h1,h2⟩:=dZ r (n+1) x c z
    exact⟨Ô _ h1,by omega⟩
   ·have z:(x,c)=(nm,n):=by simpa using z
    cases z
    have hk:k=.cell:=by simpa using hk
    subst hk
    exact⟨Ö,Ì _⟩
  ·obtain⟨h1,h2⟩:=dZ r n x c h
   exact⟨Ô _ h1,h2⟩
def nG:∀(names:List (Str×NameKind)) (n:Nat) (x y:Str) (c:Addr),(x,c)∈cellsFrom n names []->(y,c)∈cellsFrom n names []->x=y
 |[],_,_,_,_,h,_=>nomatch h
 |(nm,k)::r,n,x,y,c,h,h'=>by
  have h:(x,c)∈(if (k == ā)=true then cellsFrom (n+1) r [(nm,n)] else cellsFrom n r []):=h
  have h':(y,c)∈(if (k == ā)=true then cellsFrom (n+1) r [(nm,n)] else cellsFrom n r []):=h'
  by_cases hk:(k == ā)=true
  ·rw[if_pos hk,bf] at h h'
   rcases Ø.mp h with z|z <;> rcases Ø.mp h' with z'|z'
   ·exact nG r (n+1) x y c z z'
   ·have:=(dZ r (n+1) x c z).2
    have z':(y,c)=(nm,n):=by simpa using z'
    cases z'
    exact absurd this (Nat.not_succ_le_self _)
   ·have:=(dZ r (n+1) y c z').2
    have z:(x,c)=(nm,n):=by simpa using z
    cases z
    exact absurd this (Nat.not_succ_le_self _)
   ·have z:(x,c)=(nm,n):=by simpa using z
    have z':(y,c)=(nm,n):=by simpa using z'
    cases z
    cases z'
    rfl
  ·rw[if_neg hk] at h h'
   exact nG r n x y c h h'
def jh:∀(names:List (Str×NameKind)) (h:Heap) (b:Addr) (o:Obj),h.get? b=some o->(pushCells h names).get? b=some o
 |[],_,_,_,e=>e
 |(nm,k)::r,h,b,o,e=>by
  show(if (k == ā)=true then pushCells (h.push { cls:=ć "cell",data:=Data.cell none }) r else pushCells h r).get? b=some o
  split
  ·exact jh r _ b o (Æ _ e)
  ·exact jh r h b o e
def mJ:∀(names:List (Str×NameKind)) (h:Heap) (x:Str) (c:Addr),(x,c)∈cellsFrom h.objs.size names []->(pushCells h names).IsCell c none
 |[],_,_,_,e=>nomatch e
 |(nm,k)::r,h,x,c,e=>by
  have e:(x,c)∈(if (k == ā)=true then cellsFrom (h.objs.size+1) r [(nm,h.objs.size)] else cellsFrom h.objs.size r []):=e
  show(if (k == ā)=true then pushCells (h.push { cls:=ć "cell",data:=Data.cell none }) r else pushCells h r).IsCell c none
  by_cases hk:(k == ā)=true
  ·rw[if_pos hk,bf] at e
   rw[if_pos hk]
   rcases Ø.mp e with z|z
   ·exact mJ r _ x c (by rw[Ĵ];exact z)
   ·have z:(x,c)=(nm,h.objs.size):=by simpa using z
    cases z
    exact⟨_,jh r _ _ _ (Õ _ rfl),rfl⟩
  ·rw[if_neg hk] at e ⊢
   exact mJ r h x c e
def zM{M:Model}{A:Around}{E:Value->Shared->Prop}{s:Shared}{scope:Scope}{globals:Addr}{closure:List (Str×Addr)}{qual:Str}{func:Option Addr}{code:Value}{around:Option Env}{builtins:Addr}{Q:Env->Shared->Prop}(h:Q (newEnv scope s.heap.objs.size globals (cellsFrom (s.heap.objs.size+1) scope.names closure) qual func code around builtins) { s with heap:=pushCells (s.heap.push { cls:=ć (if around.isSome=true then "dict" else "frame"),data:=Data.dict #[] }) scope.names }) :
  wpAny M A (newFunctionEnv scope globals closure [] qual func code around builtins) Q E s:=by
 unfold newFunctionEnv
 refine Â (wpAny_alloc ?_)
 refine Â (wpAny_layCells _ (λ_ _ _=>rfl) _ _ _ _ ?_)
 rw[Ĵ]
 exact Â (Ê (Ê h))
def RX{n:Nat}{names:List (Str×NameKind)}{cl:List (Str×Addr)}{x:Str}{c:Addr}(h:(cellsFrom n names cl).lookup x=some c):(x,c)∈cellsFrom n names []\/cl.lookup x=some c:=by
 rw[bf,List.lookup_append] at h
 cases e:(cellsFrom n names []).lookup x with
 |none=>rw[e] at h;exact .inr h
 |some d =>
  rw[e] at h
  cases h
  exact .inl (đ e)
def JV{n:Nat}{names:List (Str×NameKind)}{cl:List (Str×Addr)}{x:Str}(h:∀c,(x,c)∈cellsFrom n names []->False):(cellsFrom n names cl).lookup x=cl.lookup x:=by
 rw[bf,List.lookup_append]
 cases e:(cellsFrom n names []).lookup x with
 |none=>rfl
 |some d=>exact(h d (đ e)).elim
def xU(h:bA X.env scope X.N M=true){n:Nat}{x:Str}(hx:(x,ñ)∈scope.names):∀c,(x,c)∈cellsFrom n scope.names []->False:=λc z=>by
 have h1:=((bM h _ hx).2.2 rfl).1
 have h2:=((bM h _ (dZ _ _ _ _ z).1).2.1 rfl).2
 rw[h1] at h2
 cases h2
def iW(h:bA X.env scope X.N M=true):X.N.length=M.length:=by
 unfold bA at h
 rw[Î,Î] at h
 exact eq_of_beq h.2.1
def tU{i:Nat}{x:Str}{k:NameKind}(h:bA X.env scope X.N M=true)(hx:M[i]?=some x)(_:x∈M)(hn:(x,k)∈scope.names):X.N[i]?=some x:=by
 have hl:=iW h
 unfold bA at h
 rw[Î,Î,Ą] at h
 have hi:i<M.length:=(Þ.mp hx).1
 have hx':M[i]=x:=(Þ.mp hx).2
 have hi':i<X.N.length:=by omega
 have q:=h.2.2 (X.N[i],M[i]) (by
  refine List.mem_iff_getElem.mpr ⟨i,by rw[Ÿ];omega,?_⟩
  rw[List.getElem_zip])
 rw[Bool.or_eq_true] at q
 rcases q with q|q
 ·have q:X.N[i]=M[i]:=eq_of_beq q
  rw[È hi',q,hx']
 ·rw[Î,Ą] at q
  have e:M[i]=("":Str):=eq_of_beq q.1
  have z:=q.2 (x,k) hn
  rw[←hx',e] at z
  simp at z
def Al{pins:List (Addr×Obj)}{σ:St}{H:Hp}{s:Shared}{fp:List Addr}{h₁:Heap}{tk:Nat}(hk:bA X.env scope X.N M=true)(I:Inv X pins σ H s)(hf:∀b∈fp,rE X pins H b)(hfo:∀b∈fp,∃o,s.heap.get? b=some o)(hns:h₁.Ns (s.heap.objs.size+1) λ_=>none)(old:∀b o,s.heap.get? b=some o->h₁.get? b=some o)(hD:h₁.get? s.heap.objs.size=some { cls:=.type "list",data:=.seq #[] 0 })(hnc:∀x c,(x,c)∈cellsFrom (s.heap.objs.size+2) scope.names []->h₁.IsCell c none) :
  Inv (X.bK own M scope ⟨cellsFrom (s.heap.objs.size+2) scope.names (cJ X.env.cells scope.names []),s.heap.objs.size+1,s,H,fp⟩) [(s.heap.objs.size,{ cls:=.type "list",data:=.seq #[] 0 })] (Ë own.length none++σ) H { s with heap:=h₁,toks:=tk }:=by
 have hkk:=dX hk
 have hka:=bM hk
 have hhas:∀x,(x,ñ)∈scope.names->∃c,X.env.cells.lookup x=some c:=λx hx=>I.ok.has x ((hka _ hx).2.2 rfl).2
 have hcl:∀x c,(cJ X.env.cells scope.names []).lookup x=some c->X.env.cells.lookup x=some c/\(x,ñ)∈scope.names:=λx c e=>by
  rcases lW e with q|⟨q1,q2⟩
  ·simp at q
  ·obtain⟨c',e'⟩:=hhas x q1
   rw[e'] at q2
   exact⟨by rw[e',q2];rfl,q1⟩
 have hcc:∀x c,(cellsFrom (s.heap.objs.size+2) scope.names (cJ X.env.cells scope.names [])).lookup x=some c->(X.env.cells.lookup x=some c/\(x,ñ)∈scope.names/\c<s.heap.objs.size)\/((x,c)∈cellsFrom (s.heap.objs.size+2) scope.names []/\(x,ā)∈scope.names/\s.heap.objs.size+2<=c):=λx c e=>by
  rcases RX e with z|z
  ·exact .inr ⟨z,dZ _ _ _ _ z⟩
  ·obtain⟨h1,h2⟩:=hcl x c z
   obtain⟨v,o,ho,_⟩:=I.cell x c h1
   exact .inl ⟨h1,h2,Ç ho⟩
 have hvis:∀x,(relabel scope X.env).names.lookup x=some .cell\/(relabel scope X.env).names.lookup x=some .free->(x,ñ)∈scope.names\/(x,ā)∈scope.names:=λx hx=>by
  have key:∀q,(relabel scope X.env).names.lookup x=some q->q=.cell\/q=.free->(x,ñ)∈scope.names\/(x,ā)∈scope.names:=λq hq hq'=>by
   obtain⟨k,h1,h2,h3⟩:=cH (env:=X.env) (names:=scope.names) hq
   rcases h3 with h3|⟨_,h3⟩
   ·subst h3
    rcases hq' with z|z
    ·rw[z] at h1;exact .inr h1
    ·rw[z] at h1;exact .inl h1
   ·rw[h3] at h1;exact .inl h1
  rcases hx with hx|hx
  ·exact key _ hx (.inl rfl)
  ·exact key _ hx (.inr rfl)
 have hlt:∀b o,s.heap.get? b=some o->b<s.heap.objs.size:=λb o e=>Ç e
 refine⟨⟨I.ok.mod,hkk,I.ok.glob,I.ok.blt,Į _,λx y c h1 h2=>?inj,λx hx=>?_,λx c z e=>?cab,I.ok.hd,I.ok.frames,.inl rfl,λb hb=>⟨?_,λx c e=>?exf⟩,I.bs,
   î I.ok.bsz I.sz,λb o e hb=>?_,λb hb hs=>?_,I.stack,I.ur,λq hq=>⟨(I.ok.sof q hq).1,I.base.frzs _ _ _ (I.ok.sof q hq).2.1,(I.ok.sof q hq).2.2⟩⟩,rfl,I.bare,Un.kept old,⟨_,hns,λi x v h1 h2 h3=>?_⟩,λx c e=>?_,?_,λx c e=>?frc,λp hp=>?_,I.hok.kept old,?_⟩
 case inj =>
  rcases hcc x c h1 with ⟨a1,_,a3⟩|⟨a1,_,a3⟩ <;> rcases hcc y c h2 with ⟨b1,_,b3⟩|⟨b1,_,b3⟩
  ·exact I.ok.inj x y c a1 b1
  ·exact absurd (Û a3 (î (Nat.le_add_right _ 2) b3)) (ø _)
  ·exact absurd (Û b3 (î (Nat.le_add_right _ 2) a3)) (ø _)
  ·exact nG _ _ _ _ _ a1 b1
 case cab =>
  show s.heap.objs.size<=c
  rcases hcc x c e with ⟨_,a2,_⟩|⟨_,_,a3⟩
  ·have h1:=((hka _ a2).2.2 rfl).1
   have z:(scope.names.lookup x == some ā)=true:=z
   rw[h1] at z
   exact absurd z (by decide)
  ·omega
 case exf =>
  rcases hcc x c e with ⟨a1,_,_⟩|⟨_,_,a3⟩
  ·exact(hf b hb).2.2.2.2.1 x c a1
  ·obtain⟨o,e⟩:=hfo b hb
   have:=hlt b o e
   intro z
   subst z
   exact absurd (Û this (î (Nat.le_add_right _ 2) a3)) (ø _)
 case frc =>
  rcases hcc x c e with ⟨a1,_,_⟩|⟨_,_,a3⟩
  ·exact I.freeC x c a1
  ·exact I.hok.fresh (by omega)
 ·have hx':(relabel scope X.env).names.lookup x=some .cell\/(relabel scope X.env).names.lookup x=some .free:=hx
  refine Ů.mp (W.cellsFrom_some _ _ _ ?_)
  rcases hvis x hx' with z|z
  ·exact .inr (iY z)
  ·exact .inl ((hka _ z).2.1 rfl).2
 ·obtain⟨o,e⟩:=hfo b hb
  exact ß (Ā (hlt b o e))
 ·have hb':b∈fp:=hb
  rcases(hf b hb').2.2.2.1 with z|z
  ·exact I.ok.noex b o e z
  ·exact absurd (Û (Ç (I.ok.bs b o e).1) z) (ø _)
 ·have hb':b∈fp:=hb
  rcases â.mp (I.pK b hs) with z|z
  ·exact(hf b hb').2.1 z
  ·exact(hf b hb').2.2.1 z
 ·have hi:own.length<=i:=by
   by_cases hi:i<own.length
   ·rw[ď (by simpa using hi),ĺ] at h2
    split at h2 <;> cases h2
   ·omega
  have h1':M[i - own.length]?=some x:=by
   have q:(own++M)[i]?=some x:=h1
   rwa [ù hi] at q
  have h2':σ[i - own.length]?=some (some v):=by
   rw[ù (by simpa using hi)] at h2
   simpa using h2
  have h3':Vis (relabel scope X.env) x:=h3
  have hfr:(x,ñ)∈scope.names:=by
   rcases h3' with z|z
   ·obtain⟨k,q1,q2,q3⟩:=cH (env:=X.env) (names:=scope.names) z
    rcases q3 with q3|⟨q3,_⟩
    ·subst q3
     exact absurd (Ó h1') ((hka _ q1).1 rfl).1
    ·cases q3
   ·rcases hvis x z with y|y
    ·exact y
    ·exact absurd (Ó h1') ((hka _ y).2.1 rfl).1
  have hkx:=((hka _ hfr).2.2 rfl).2
  obtain⟨m,hm,hl⟩:=I.loc
  obtain⟨u,ru,lu⟩:=hl _ x v (tU hk h1' (Ó h1') hfr) h2' (by rcases hkx with z|z;exact .inr (.inl z);exact .inr (.inr z))
  refine⟨u,ru,.inr ⟨?_,?_⟩⟩
  ·rcases h3' with z|z|z
   ·obtain⟨k,q1,q2,q3⟩:=cH (env:=X.env) (names:=scope.names) z
    rcases q3 with q3|⟨q3,_⟩
    ·subst q3
     exact absurd (Ó h1') ((hka _ q1).1 rfl).1
    ·cases q3
   ·exact .inl z
   ·exact .inr z
  ·rcases lu with ⟨z,_⟩|⟨_,c,e,ic⟩
   ·rcases hkx with q|q
    ·rw[q] at z;cases z
    ·rw[q] at z;cases z
   ·obtain⟨c',e'⟩:=Ů.mp (iY (cells:=X.env.cells) (acc:=[]) hfr)
    have e2:=(hcl x c' e').1
    rw[e] at e2
    cases e2
    obtain⟨o,ho,hd⟩:=ic
    exact⟨c,(JV (xU hk hfr)).trans e',o,old _ _ ho,hd⟩
 ·rcases hcc x c e with ⟨z,_,_⟩|⟨z,_,_⟩
  ·obtain⟨v,o,ho,hd⟩:=I.cell x c z
   exact⟨v,o,old _ _ ho,hd⟩
  ·exact⟨none,hnc x c z⟩
 ·exact I.hok.fresh (Į _)
 ·have hp':p=(s.heap.objs.size,{ cls:=.type "list",data:=.seq #[] 0 }):=by simpa using hp
  subst hp'
  refine⟨hD,I.hok.fresh (Ì _),ß (Ŭ _),λz=>?_,λv z=>nomatch z⟩
  obtain⟨_,o,ho,_⟩:=I.stack.mem z
  exact absurd (Ç ho) (ø _)
 ·show(Ë own.length none++σ).length=(own++M).length
  rw[Ð,Ð,Ň,I.len,iW hk]
def Ak{pins pn:List (Addr×Obj)}{σ σ':St}{H H':Hp}{s s':Shared}{fp:List Addr}{cl:List (Str×Addr)}{ys:List V}{us:List Value}{n:Nat}(I:Inv X pins σ H s)(hf:∀b∈fp,rE X pins H b)(J:Inv (X.bK own M scope ⟨cl,s.heap.objs.size+1,s,H,fp⟩) pn σ' H' s')(hp:(s.heap.objs.size,({ cls:=.type "list",data:=.seq us.toArray n }:Obj))∈pn)(hv:Vals ys us)(hz:ys.length<=sizeLine) :
  Inv X pins σ (upd H' s.heap.objs.size (.lst ys)) s'/\H' s.heap.objs.size=none:=by
 obtain⟨hD,hDn,_⟩:=J.pin _ (å _ hp)
 refine⟨I.call' J.os ⟨λb o e n hb hx=>J.base.keep b o e n hb hx,λb o e n hb hx=>J.base.slot b o e n hb hx,λb o e n hx=>?_,λb o e hx=>J.base.there b o e hx,λb xs e=>?_,λb o u e=>?_,λb ps e=>?_⟩ ?_ J.bare ?_,hDn⟩
 ·rw[ak (ß (Ç e))]
  exact J.base.free b o e n hx
 ·have q:=J.base.tups b xs e
  rw[ak (aF q hDn)]
  exact q
 ·have q:=J.base.frzs b o u e
  rw[ak (aF q hDn)]
  exact q
 ·obtain⟨more,q⟩:=J.base.tbls b ps e
  exact⟨more,by rw[ak (aF q hDn)];exact q⟩
 ·exact J.hok.track hDn ⟨hz,us,n,hv,hD⟩
 ·intro b hb
  exact⟨(hf b hb).2.2.2.1,(hf b hb).2.1,(hf b hb).2.2.2.2.1,(hf b hb).2.2.2.2.2⟩
def q9{pins pn:List (Addr×Obj)}{σ σ':St}{H H':Hp}{s s':Shared}{fp:List Addr}{cl:List (Str×Addr)}(hk:bA X.env scope X.N M=true)(I:Inv X pins σ H s)(hf:∀b∈fp,rE X pins H b)(hcl:∀x,(x,ñ)∈scope.names->∃c,cl.lookup x=some c/\X.env.cells.lookup x=some c)(J:Inv (X.bK own M scope ⟨cl,s.heap.objs.size+1,s,H,fp⟩) pn σ' H' s'):Inv (X.bK own M scope ⟨cl,s.heap.objs.size+1,s,H,fp⟩) pn (Ë own.length none++σ) H' s':=by
 have hka:=bM hk
 refine⟨J.ok,J.os,J.bare,J.base,?_,J.cell,J.free,J.freeC,J.pin,J.hok,?_⟩
 ·obtain⟨mC,hmC,_⟩:=J.loc
  refine⟨mC,hmC,λi x v h1 h2 h3=>?_⟩
  have hi:own.length<=i:=by
   by_cases hi:i<own.length
   ·rw[ď (by simpa using hi),ĺ] at h2
    split at h2 <;> cases h2
   ·omega
  have h1':M[i - own.length]?=some x:=by
   have q:(own++M)[i]?=some x:=h1
   rwa [ù hi] at q
  have h2':σ[i - own.length]?=some (some v):=by
   rw[ù (by simpa using hi)] at h2
   simpa using h2
  have h3':Vis (relabel scope X.env) x:=h3
  have nloc:¬(relabel scope X.env).names.lookup x=some .local:=λz=>by
   obtain⟨k,q1,q2,q3⟩:=cH (env:=X.env) (names:=scope.names) z
   rcases q3 with q3|⟨q3,_⟩
   ·subst q3
    exact absurd (Ó h1') ((hka _ q1).1 rfl).1
   ·cases q3
  have hkk:(relabel scope X.env).names.lookup x=some .cell\/(relabel scope X.env).names.lookup x=some .free:=by
   rcases h3' with z|z
   ·exact absurd z nloc
   ·exact z
  have hfr:(x,ñ)∈scope.names:=by
   have key:∀q,(relabel scope X.env).names.lookup x=some q->q=.cell\/q=.free->(x,ñ)∈scope.names:=λq hq hq'=>by
    obtain⟨k,h1,h2,h3⟩:=cH (env:=X.env) (names:=scope.names) hq
    rcases h3 with h3|⟨_,h3⟩
    ·subst h3
     rcases hq' with z|z
     ·rw[z] at h1;exact absurd (Ó h1') ((hka _ h1).2.1 rfl).1
     ·rw[z] at h1;exact h1
    ·rw[h3] at h1;exact h1
   rcases hkk with hx|hx
   ·exact key _ hx (.inl rfl)
   ·exact key _ hx (.inr rfl)
  have hkx:=((hka _ hfr).2.2 rfl).2
  obtain⟨m,hm,hl⟩:=I.loc
  obtain⟨u,ru,lu⟩:=hl _ x v (tU hk h1' (Ó h1') hfr) h2' (by rcases hkx with z|z;exact .inr (.inl z);exact .inr (.inr z))
  refine⟨u,ru,.inr ⟨hkk,?_⟩⟩
  rcases lu with ⟨z,_⟩|⟨_,c,e,ic⟩
  ·rcases hkx with q|q
   ·rw[q] at z;cases z
   ·rw[q] at z;cases z
  ·obtain⟨c',e',e2⟩:=hcl x hfr
   rw[e] at e2
   cases e2
   obtain⟨o,ho,hd⟩:=ic
   obtain⟨sl,q⟩:=J.base.any ho (I.freeC x c e) λz=>(hf c z).2.2.2.2.1 x c e rfl
   exact⟨c,e',_,q,hd⟩
 ·show(Ë own.length none++σ).length=(own++M).length
  rw[Ð,Ð,Ň,I.len,iW hk]
def tM{pins:List (Addr×Obj)}{σ:St}{H:Hp}{s:Shared}{it:Addr}{fp:List Addr}{tn:Nat->Heap->Prop}{J:It}{W:Nat->Nat->List V->Hp->Prop}{E:Value->Shared->Prop}{RR:Value->Addr->Result->Shared->Prop}{Cm:Cx->Prop}(hc:∀c,Cm (X.bK own M scope c))(hk:bA X.env scope X.N M=true)(hg:∀c,PG (X.bK own M scope c) tg (g c))(ht:∀c,PTs (X.bK own M scope c) ifs (tt c))(he:∀c,PE (X.bK own M scope c) elt (te c))(I:Inv X pins σ H s)(T:TurnG Cm X.prog X.w X.K tg J fp it tn)(st:tn 0 s.heap)(hf:∀b∈fp,rE X pins H b){m0:Nat}(w0:W 0 m0 [] H){D:List V->Hp->Prop}(turn:∀(c:CB) i m ys H,W i m ys H->(J.stop i H/\D ys H) ∨
   (J.go i H/\ys.length<sizeLine/\∃N:List V->Hp->Prop,(∀ys' H',N ys' H'->∃m',m'<m/\W (i+1) m' ys' H')/\∀x H',J.yld i H x H'->g c x (Ë own.length none++σ) H' λσ2 H2=>tt c σ2 H2 λb H3 =>
    if b=true then te c σ2 H3 λv H4=>N (ys++[v]) H4 else N ys H3))(fin:∀s' m' ys H',(s'.heap.Ns (s.heap.objs.size+1) m')->H' (s.heap.objs.size+1)=none->H' s.heap.objs.size=none->Inv X pins σ (upd H' s.heap.objs.size (.lst ys)) s'->D ys H'->RR (.ref s.heap.objs.size) (s.heap.objs.size+1) (.ok .next) s') :
  wpAny (model X.prog X.w) X.A (newList []) (λacc s₃=>wpAny (model X.prog X.w) X.A (newFunctionEnv scope X.env.globals (cJ X.env.cells scope.names []) [] X.env.qual none .none (some X.env)) (λcenv s₄ =>
   codeAny (model X.prog X.w) X.A (.compStart (.ListComp elt [⟨tg,iter,ifs,0⟩] scope pos) 0 (.ref it) acc { cenv with scope:=relabel scope X.env }) (RR acc cenv.locals) s₄) E s₃) E s:=by
 have hkk:=dX hk
 have hka:=bM hk
 refine Ŀ (zM ?_)
 dsimp only
 have hC:(s.heap.push { cls:=.type "list",dict:=none,data:=.seq ([]:List Value).toArray }).objs.size=s.heap.objs.size+1:=Ĵ ..
 rw[hC]
 generalize hH2:s.heap.push { cls:=.type "list",dict:=none,data:=.seq ([]:List Value).toArray }=H2 at hC ⊢
 generalize hH3:H2.push { cls:=ć (if (some X.env:Option Env).isSome=true then "dict" else "frame"),data:=Data.dict #[] }=H3
 generalize hh1:pushCells H3 scope.names=h₁
 have hC3:H3.objs.size=s.heap.objs.size+2:=by rw[←hH3,Ĵ,hC]
 have old3:∀b o,H3.get? b=some o->h₁.get? b=some o:=λb o e=>hh1 ▸ jh _ _ _ _ e
 have old2:∀b o,H2.get? b=some o->h₁.get? b=some o:=λb o e=>old3 b o (hH3 ▸ Æ _ e)
 have old:∀b o,s.heap.get? b=some o->h₁.get? b=some o:=λb o e=>old2 b o (hH2 ▸ Æ _ e)
 have hacc:h₁.get? s.heap.objs.size=some { cls:=.type "list",data:=.seq #[] 0 }:=old2 _ _ (hH2 ▸ Õ _ rfl)
 have hns:h₁.Ns (s.heap.objs.size+1) λ_=>none:=by
  have z:=Heap.Ns.new H2 (ć (if (some X.env:Option Env).isSome=true then "dict" else "frame"))
  rw[hC,hH3] at z
  exact z.keeps old3
 have hnc:∀x c,(x,c)∈cellsFrom (s.heap.objs.size+2) scope.names []->h₁.IsCell c none:=λx c e=>by
  rw[←hC3] at e
  exact hh1 ▸ mJ _ _ _ _ e
 have hfo:∀b∈fp,∃o,s.heap.get? b=some o:=λb hb=>let ⟨o,e,_⟩:=T.obj 0 _ st b hb;⟨o,e⟩
 have st₁:tn 0 h₁:=T.keep 0 _ _ st λb _ o e=>old b o e
 have I₁:=Al (own:=own) (tk:=s.toks) hk I hf hfo hns old hacc hnc
 have loop:∀s₃:Shared,s₃={ s with heap:=h₁,toks:=s.toks } ->
   codeAny (model X.prog X.w) X.A (.compLoop (.ListComp elt [⟨tg,iter,ifs,0⟩] scope pos) 0 (.ref it) (.ref s.heap.objs.size) (compEnvC scope (cellsFrom (s.heap.objs.size+2) scope.names (cJ X.env.cells scope.names [])) (s.heap.objs.size+1) X.env))
    (RR (.ref s.heap.objs.size) (s.heap.objs.size+1)) s₃:=by
  rintro s₃ rfl
  have neD:∀b∈fp,b≠s.heap.objs.size:=λb hb=>by
   obtain⟨o,e⟩:=hfo b hb
   exact ß (Ç e)
  have stat:∀{H':Hp}{o:Obj},(∀b∈fp,H' b=none)->∀b∈fp,rE (X.bK own M scope ⟨cellsFrom (s.heap.objs.size+2) scope.names (cJ X.env.cells scope.names []),s.heap.objs.size+1,s,H,fp⟩) [(s.heap.objs.size,o)] H' b:=λ{H' o} hn b hb =>
   ⟨hn b hb,(I₁.ok.exf b hb).1,I₁.ok.exfs b hb,.inl hb,(I₁.ok.exf b hb).2,λp hp=>by
    have hp':p=(s.heap.objs.size,o):=by simpa using hp
    subst hp'
    exact ă (neD b hb)⟩
  refine Fe (λk s'=>∃i ys us n H',Inv (X.bK own M scope ⟨cellsFrom (s.heap.objs.size+2) scope.names (cJ X.env.cells scope.names []),s.heap.objs.size+1,s,H,fp⟩) [(s.heap.objs.size,{ cls:=.type "list",data:=.seq (us:List Value).toArray n })] (Ë own.length none++σ) H' s' /\
    Vals ys us/\ys.length<=sizeLine/\tn i s'.heap/\(∀b∈fp,H' b=none)/\W i k ys H') ?_ m0 ⟨0,[],[],0,H,I₁,.nil,ä _,st₁,λb hb=>(hf b hb).1,w0⟩
  rintro k s3 ⟨i,ys,us,n,H3,I3,hv,hz,st3,fr3,w3⟩
  rcases turn ⟨cellsFrom (s.heap.objs.size+2) scope.names (cJ X.env.cells scope.names []),s.heap.objs.size+1,s,H,fp⟩ i k ys H3 w3 with ⟨stop,d⟩|⟨go,hlt,N,hN,step⟩
  ·refine thn (T.done (X.bK own M scope ⟨cellsFrom (s.heap.objs.size+2) scope.names (cJ X.env.cells scope.names []),s.heap.objs.size+1,s,H,fp⟩) rfl rfl rfl (hc _) i _ s3 _ H3 _ I3 (stat fr3) st3 stop) λr s4 ⟨hr,I4⟩=>?_
   subst hr
   obtain⟨m',hm',_⟩:=I4.loc
   obtain⟨J4,hDn⟩:=Ak I hf I4 (Ò.mpr rfl) hv hz
   exact fin s4 m' ys H3 hm' I4.free hDn J4 d
  ·refine thn (T.item (X.bK own M scope ⟨cellsFrom (s.heap.objs.size+2) scope.names (cJ X.env.cells scope.names []),s.heap.objs.size+1,s,H,fp⟩) rfl rfl rfl (hc _) i _ s3 _ H3 _ I3 (stat fr3) st3 go) λr s4 ⟨u,hr,h4⟩=>?_
   subst hr
   refine thn h4 λ_ s5 ⟨x,H5,I5,r5,y5,st5,fr5⟩=>?_
   have I5':=I5.pinned (stat fr5) (T.obj _ _ st5)
   refine thn (hg _ _ s5 _ H5 x u _ I5' r5 (step x H5 y5)) λ_ s6 ⟨σ6,H6,I6,q6⟩=>?_
   refine thn (ht _ _ s6 σ6 H6 _ I6 q6) λb s7 ⟨H7,I7,q7⟩=>?_
   -- the turn's end: the iterator's records stand,the names are forgotten
   have clH:∀x,(x,ñ)∈scope.names->∃c,(cellsFrom (s.heap.objs.size+2) scope.names (cJ X.env.cells scope.names [])).lookup x=some c/\X.env.cells.lookup x=some c:=λx hx=>by
    obtain⟨c,e⟩:=I.ok.has x ((hka _ hx).2.2 rfl).2
    obtain⟨c',e'⟩:=Ů.mp (iY (cells:=X.env.cells) (acc:=[]) hx)
    rcases lW e' with q|⟨_,q⟩
    ·simp at q
    ·rw[e] at q
     exact⟨c',(JV (xU hk hx)).trans e',by rw[e,q];rfl⟩
   have keepT:∀{H':Hp}{σ':St}{s':Shared}{pn:List (Addr×Obj)},(∀p∈iz fp s5.heap,p∈pn)->Inv (X.bK own M scope ⟨cellsFrom (s.heap.objs.size+2) scope.names (cJ X.env.cells scope.names []),s.heap.objs.size+1,s,H,fp⟩) pn σ' H' s'->tn (i+1) s'.heap/\∀b∈fp,H' b=none:=λ{H' σ' s' pn} hs I' =>
    ⟨T.keep _ _ _ st5 λb hb o e=>(I'.pin (b,o) (å _ (hs _ (gK hb e)))).1,λb hb=>by
     obtain⟨o,e,_⟩:=T.obj _ _ st5 b hb
     exact(I'.pin (b,o) (å _ (hs _ (gK hb e)))).2.1⟩
   cases b with
   |false =>
    rw[if_neg É]
    rw[if_neg É] at q7
    obtain⟨m',hm',w7⟩:=hN _ _ q7
    obtain⟨t7,f7⟩:=keepT (λp hp=>å _ hp) I7
    exact⟨m',hm',i+1,ys,us,n,H7,q9 hk I hf clH I7.jM,hv,hz,t7,f7,w7⟩
   |true =>
    rw[if_pos rfl]
    rw[if_pos rfl] at q7
    refine thn (he _ _ s7 σ6 H7 _ I7 q7) λu8 s8 ⟨v8,H8,I8,r8,q8⟩=>?_
    obtain⟨m',hm',w8⟩:=hN _ _ q8
    obtain⟨t8,f8⟩:=keepT (λp hp=>å _ hp) I8
    obtain⟨hD8,nD8,lD8,fD8,_⟩:=I8.pin (s.heap.objs.size,{ cls:=.type "list",data:=.seq us.toArray n }) (å _ (Ŧ _ (Ò.mpr rfl)))
    refine append_at (hsz:=by rw[Ï,←hv.length];exact Nat.le_of_lt hlt) hD8 λh9 hs9 hD9=>?_
    have J8:Inv (X.bK own M scope ⟨cellsFrom (s.heap.objs.size+2) scope.names (cJ X.env.cells scope.names []),s.heap.objs.size+1,s,H,fp⟩) (iz fp s5.heap) σ6 H8 s8:=I8.oV λp hp=>I8.pin p (å _ (å _ hp))
    have J9:Inv (X.bK own M scope ⟨cellsFrom (s.heap.objs.size+2) scope.names (cJ X.env.cells scope.names []),s.heap.objs.size+1,s,H,fp⟩) (iz fp s5.heap) σ6 H8 { s8 with heap:=h9 }:=J8.turned (t':=s8.toks) (it:=s.heap.objs.size) (λb o hb e=>(hs9.2 b hb).trans e) nD8 lD8 (.inr (Ì _))
     (λx c e z=>by
      obtain⟨v,o,ho,hd⟩:=J8.cell x c e
      rw[z,hD8] at ho
      cases ho
      cases hd)
     (λp hp=>by
      have hp':p∈iz fp s5.heap:=by simpa using hp
      exact neD _ (sO hp').1)
    obtain⟨t9,f9⟩:=keepT (λp hp=>hp) J9
    have e9:h9.get? s.heap.objs.size=some { cls:=.type "list",data:=.seq (us++[u8]).toArray (n+1) }:=by
     rw[hD9,List.push_toArray]
    have J9':Inv (X.bK own M scope ⟨cellsFrom (s.heap.objs.size+2) scope.names (cJ X.env.cells scope.names []),s.heap.objs.size+1,s,H,fp⟩) [(s.heap.objs.size,{ cls:=.type "list",data:=.seq (us++[u8]).toArray (n+1) })] σ6 H8 { s8 with heap:=h9 }:=J9.oV λp hp=>by
     have hp':p=(s.heap.objs.size,{ cls:=.type "list",data:=.seq (us++[u8]).toArray (n+1) }):=by simpa using hp
     subst hp'
     exact⟨e9,nD8,lD8,fD8,λv z=>nomatch z⟩
    exact⟨m',hm',i+1,ys++[v8],us++[u8],n+1,H8,q9 hk I hf clH J9',hv.append (.cons r8 .nil),by rw[Ð,ņ];exact hlt,t9,f9,w8⟩
 exact codeAny_compStart_list (loop _ rfl) (T.self _ 0 _ _ _ st₁ (loop _ rfl))
def tR{pins:List (Addr×Obj)}{σ:St}{H:Hp}{s:Shared}(hk:bA X.env scope X.N M=true)(I:Inv X pins σ H s):closureFor scope X.env=pure (cJ X.env.cells scope.names []) :=
 Am λx hx hf=>I.ok.has x.1 ((bM hk x hx).2.2 hf).2
def tQ{pins:List (Addr×Obj)}{σ:St}{H:Hp}{s s':Shared}{C:Addr}{h':Heap}{m:Str->Option Value}(I:Inv X pins σ H s')(hs:X.s₀.heap.objs.size<=C)(hC:C≠X.env.locals)(hcl:∀x c,X.env.cells.lookup x=some c->c≠C)(hp:∀p∈X.pn++pins,p.1≠C)(hn:H C=none)(hb:Heap.SameBut C s'.heap h'):Inv X pins σ H { s' with heap:=h' }:=I.turned (t':=s'.toks) (λb o hb' e=>(hb.2 b hb').trans e) hn hC (.inr hs) hcl hp
def Qu(own M:List Str)(hc:X.calm=true)(hi:PI X tg iter wi)(hg:∀c,PG (X.bK own M scope c) tg (g c))(ht:∀c,PTs (X.bK own M scope c) ifs (tt c))(he:∀c,PE (X.bK own M scope c) elt (te c))(hk:bA X.env scope X.N M=true:=by rfl)(hs:∀x,foldedSetIterable iter X.env x=pure x:=by intro _;rfl) :
  PE X (.ListComp elt [⟨tg,iter,ifs,0⟩] scope pos) (tLC own.length wi g tt te):=by
 intro pins s σ H Q I h
 rw[eval_ListComp]
 have hka:=bM hk
 refine wpAny_comprehension_free (use:=none) rfl hs (tR hk I) (dX hk) (λx hx hl=>((hka x hx).1 hl).2) (thn (hi pins s σ H _ I h) λv s1 h1=>thn h1 λitv s2 h2=>?_)
 obtain⟨it,fp,tn,J,H2,e,I2,T,st2,f2,W,⟨m0,w0⟩,turn⟩:=h2
 subst e
 refine tM (RR:=λacc C=>compPost (model X.prog X.w) X.A X.xe none (EP X pins σ Q) acc C) (D:=λys H=>∀p,H p=none->Q (.ref p) (upd H p (.lst ys))) (λ_=>hc) hk hg ht he I2 T st2 f2 w0 turn ?_
 intro s' m' ys H' hns hCn hDn J' d
 have lt2:∀{b:Addr}{o:Obj},s2.heap.get? b=some o->b≠s2.heap.objs.size+1:=λe=>ß (Ā (Ç e))
 refine⟨m',hns,λh' hb=>⟨.ref s2.heap.objs.size,_,tQ (m:=m') (s:=s2) J' (î I2.sz (Į _)) (ă (ß (Ā I2.lt))) (λx c e=>?_) (λp hp=>?_) ?_ hb,rfl,d _ hDn⟩⟩
 ·obtain⟨v,o,ho,_⟩:=I2.cell x c e
  exact lt2 ho
 ·exact lt2 (I2.pin p hp).1
 ·rw[ak (ł (Ŭ _))]
  exact hCn
def Bw{Cm:Cx->Prop}(own M:List Str){i:Nat}{y:Str}{py spos:Pos}(hc:∀c,Cm (X.bK own M scope c))(hN:X.N.Nodup)(hiN:X.N[i]?=some y)(hx:Loc X.env.scope y)(hi:PIG Cm X tg iter wi)(hg:∀c,PG (X.bK own M scope c) tg (g c))(ht:∀c,PTs (X.bK own M scope c) ifs (tt c))(he:∀c,PE (X.bK own M scope c) elt (te c))(hsw:swapsWith (.ListComp elt [⟨tg,iter,ifs,0⟩] scope pos) (some (.Name y py)) spos.line X.env=pure true:=by rfl)(hk:bA X.env scope X.N M=true:=by rfl)(hs:∀x,foldedSetIterable iter X.env x=pure x:=by intro _;rfl)(hf:X.fn y=true\/X.env.scope.names.lookup y=some .local:=by first|exact .inl rfl|exact .inr rfl|assumption) :
  PS X (.Assign [.Name y py] (.ListComp elt [⟨tg,iter,ifs,0⟩] scope pos) spos) (rG (tLC own.length wi g tt te) (iQ i)):=by
 intro pins s σ H D I h
 rw[exec_Assign_Name_used _ _ _ _ hsw]
 have hka:=bM hk
 refine Â (wpAny_standAt (Â ?_))
 show wpAny _ X.A (do let _ ←comprehension (.ListComp elt [⟨tg,iter,ifs,0⟩] scope pos) scope X.env _ (newList []) false (eval iter X.env) (some (assign (.Name y py) X.env))) _ _ s
 refine Â (ĩ (wpAny_comprehension_free (use:=some (assign (.Name y py) X.env)) (Q:=λ_ s'=>SP X pins D .next s') rfl hs (tR hk I) (dX hk) (λx hx hl=>((hka x hx).1 hl).2)
  (thn (hi pins s σ H _ I h) λv s1 h1=>thn h1 λitv s2 h2=>?_)) (λ_ s' hq=>Ê (Ê hq)) λ_ _ e=>e)
 obtain⟨it,fp,tn,J,H2,e,I2,T,st2,f2,W,⟨m0,w0⟩,turn⟩:=h2
 subst e
 refine tM (RR:=λacc C=>compPost (model X.prog X.w) X.A X.xe (some (assign (.Name y py) X.env)) (λ_ s'=>SP X pins D .next s') acc C) (D:=λys H=>∀p,H p=none->iQ i (.ref p) σ (upd H p (.lst ys)) D.nx) hc hk hg ht he I2 T st2 f2 w0 turn ?_
 intro s' m' ys H' hns hCn hDn J' d
 have lt2:∀{b:Addr}{o:Obj},s2.heap.get? b=some o->b≠s2.heap.objs.size+1:=λe=>ß (Ā (Ç e))
 show wpAny _ X.A (assign (.Name y py) X.env (.ref s2.heap.objs.size)) _ _ _
 refine wpAny_assign_Name (sy (v:=.ref s2.heap.objs.size) J' (λj h=>qK hN h hiN) hiN hx rfl (λs'' J'' ⟨a,hsb,ha⟩=>?_) hf)
 have hLne:X.env.locals≠s2.heap.objs.size+1:=ß (Ā I2.lt)
 have hCa:s2.heap.objs.size+1≠a:=by
  rcases ha with ha|ha
  ·rw[ha];exact ă hLne
  ·obtain⟨v,o,ho,_⟩:=I2.cell _ _ ha
   exact ă (lt2 ho)
 refine⟨m',hns.sameBut hsb hCa,λh' hb=>⟨_,_,tQ (m:=m') (s:=s2) J'' (î I2.sz (Į _)) (ă hLne) (λx c e=>?_) (λp hp=>?_) ?_ hb,d _ hDn⟩⟩
 ·obtain⟨v,o,ho,_⟩:=I2.cell x c e
  exact lt2 ho
 ·exact lt2 (I2.pin p hp).1
 ·rw[ak (ł (Ŭ _))]
  exact hCn
def Qj(own M:List Str){i:Nat}{y:Str}{py spos:Pos}(hc:X.calm=true)(hN:X.N.Nodup)(hiN:X.N[i]?=some y)(hx:Loc X.env.scope y)(hi:PI X tg iter wi)(hg:∀c,PG (X.bK own M scope c) tg (g c))(ht:∀c,PTs (X.bK own M scope c) ifs (tt c))(he:∀c,PE (X.bK own M scope c) elt (te c))(hsw:swapsWith (.ListComp elt [⟨tg,iter,ifs,0⟩] scope pos) (some (.Name y py)) spos.line X.env=pure true:=by rfl)(hk:bA X.env scope X.N M=true:=by rfl)(hs:∀x,foldedSetIterable iter X.env x=pure x:=by intro _;rfl)(hf:X.fn y=true\/X.env.scope.names.lookup y=some .local:=by first|exact .inl rfl|exact .inr rfl|assumption) :
  PS X (.Assign [.Name y py] (.ListComp elt [⟨tg,iter,ifs,0⟩] scope pos) spos) (rG (tLC own.length wi g tt te) (iQ i)):=Bw own M (λ_=>hc) hN hiN hx hi hg ht he hsw hk hs hf
def G6(own:List Str)(hc:X.calm=true)(hi:PI X tg iter wi)(hg:∀c,PG (X.comp own scope c) tg (g c))(ht:∀c,PTs (X.comp own scope c) ifs (tt c))(he:∀c,PE (X.comp own scope c) elt (te c))(hk:dh X.env scope X.N=true:=by rfl)(hs:∀x,foldedSetIterable iter X.env x=pure x:=by intro _;rfl) :
  PE X (.ListComp elt [⟨tg,iter,ifs,0⟩] scope pos) (tLC own.length wi g tt te):=Qu own X.N hc hi hg ht he (rm hk) hs
def TV(own:List Str){i:Nat}{y:Str}{py spos:Pos}(hc:X.calm=true)(hN:X.N.Nodup)(hiN:X.N[i]?=some y)(hx:Loc X.env.scope y)(hi:PI X tg iter wi)(hg:∀c,PG (X.comp own scope c) tg (g c))(ht:∀c,PTs (X.comp own scope c) ifs (tt c))(he:∀c,PE (X.comp own scope c) elt (te c))(hsw:swapsWith (.ListComp elt [⟨tg,iter,ifs,0⟩] scope pos) (some (.Name y py)) spos.line X.env=pure true:=by rfl)(hk:dh X.env scope X.N=true:=by rfl)(hs:∀x,foldedSetIterable iter X.env x=pure x:=by intro _;rfl)(hf:X.fn y=true\/X.env.scope.names.lookup y=some .local:=by first|exact .inl rfl|exact .inr rfl|assumption) :
  PS X (.Assign [.Name y py] (.ListComp elt [⟨tg,iter,ifs,0⟩] scope pos) spos) (rG (tLC own.length wi g tt te) (iQ i)):=Qj own X.N hc hN hiN hx hi hg ht he hsw (rm hk) hs hf
end
section
variable {X:Cx}{tg:Expr}{K:Ñ}{g:CB->TG}{tt:CB->TT}{te:CB->TE}{σ:St}{H:Hp}{Q:VK}{n:Nat}
def V8(K:Ñ)(tl:TE):TI:=λσ H R=>tl σ H λx H1=>∃a,x=.ref a/\(((∃xs,SqL K H1 a xs)/\R (Itl K a) H1)\/((∃xs,SqT K H1 a xs)/\R (Itt K a) H1))
def Ql{l:Expr}{tl:TE}(hl:PE X l tl):PI X tg l (V8 X.K tl):=by
 intro pins s σ H R I h
 refine thn (hl pins s σ H _ I h) λv s1 ⟨x,H1,I1,r1,q1⟩=>?_
 obtain⟨a,e,q1⟩:=q1
 subst e
 cases r1
 rcases q1 with ⟨⟨xs,hq⟩,q⟩|⟨⟨xs,hq⟩,q⟩
 ·obtain⟨its,rv,p,hz⟩:=I1.list hq
  refine wpAny_pyIter_list p.isList ?_
  refine⟨s1.heap.objs.size,[s1.heap.objs.size],_,_,H1,rfl,I1.kept (t':=s1.toks) λb o e=>Æ _ e,mD a _,⟨_,Õ _ rfl,rfl,rfl⟩,λb hb=>?_,q⟩
  have e:b=s1.heap.objs.size:=by simpa using hb
  subst e
  exact I1.MP (Ì _) (I1.hok.fresh (Ì _))
 ·obtain⟨its,rv,p,hz⟩:=I1.tuple hq
  refine wpAny_pyIter_tuple (show s1.heap.IsTuple a its.toArray from p) ?_
  refine⟨s1.heap.objs.size,[s1.heap.objs.size],_,_,H1,rfl,I1.kept (t':=s1.toks) λb o e=>Æ _ e,yC a _,⟨_,Õ _ rfl,rfl,rfl⟩,λb hb=>?_,q⟩
  have e:b=s1.heap.objs.size:=by simpa using hb
  subst e
  exact I1.MP (Ì _) (I1.hok.fresh (Ì _))
def Rb{J:It}(k:Nat)(hk:k<=1000)(Pv:Nat->List V->Hp->Prop)(h0:Pv 0 [] H)(hgo:∀i ys H,i<k->Pv i ys H->J.go i H)(hst:∀ys H,Pv k ys H->J.stop k H)(hl:∀i ys H,Pv i ys H->ys.length<=i)(hs:∀c i x ys H H',i<k->J.yld i H x H'->Pv i ys H->g c x (Ë n none++σ) H' λσ2 H2=>tt c σ2 H2 λb H3=>if b=true then te c σ2 H3 λv H4=>Pv (i+1) (ys++[v]) H4 else Pv (i+1) ys H3)(hd:∀ys H,Pv k ys H->∀p,H p=none->Q (.ref p) (upd H p (.lst ys))):J1 J n g tt te σ Q H:=by
 refine⟨λi m ys H=>m=k - i/\i<=k/\Pv i ys H,⟨k,by simp,ä _,h0⟩,?_⟩
 rintro c i m ys H ⟨rfl,hi,p⟩
 by_cases hlt:i<k
 ·refine .inr ⟨hgo i ys H hlt p,?_,Pv (i+1),λys' H' p'=>⟨k - (i+1),by omega,rfl,hlt,p'⟩,λx H' y=>hs c i x ys H H' hlt y p⟩
  have:=hl i ys H p
  have h24:=ì
  omega
 ·have e:i=k:=by omega
  subst e
  exact .inl ⟨hst ys H p,hd ys H p⟩
def Ra{lo:Int}{k:Nat}(hk:k<=1000)(Pv:Nat->List V->Hp->Prop)(h0:Pv 0 [] H)(hl:∀i ys H,Pv i ys H->ys.length<=i)(hs:∀c i ys H,i<k->Pv i ys H->g c (.int (lo+i)) (Ë n none++σ) H λσ2 H2=>tt c σ2 H2 λb H3=>if b=true then te c σ2 H3 λv H4=>Pv (i+1) (ys++[v]) H4 else Pv (i+1) ys H3)(hd:∀ys H,Pv k ys H->∀p,H p=none->Q (.ref p) (upd H p (.lst ys))):J1 (Itr lo k) n g tt te σ Q H :=
 Rb k hk Pv h0 (λi ys H hi p=>hi) (λys H p=>Ì k) hl (λc i x ys H H' hi y p=>by
  obtain⟨e,y⟩:=y
  subst e y
  exact hs c i ys _ hi p) hd
end
end L2
namespace NfSort
open PySem PySem.W PyProof.Rows
def kwp{α:Type}(n:Nat)(key:Nat->Int):KasT α->(α->Prop)->Prop
 |.ret a,Q=>Q a
 |.ask i j k,Q=>i<n/\j<n/\kwp n key (k (decide (key i<key j))) Q
def bJ{α:Type}{n:Nat}{key:Nat->Int}{Q Q':α->Prop}(h:∀a,Q a->Q' a):∀{t:KasT α},kwp n key t Q->kwp n key t Q'
 |.ret a,q=>h a q
 |.ask _ _ k,q=>⟨q.1,q.2.1,bJ h q.2.2⟩
def eG{α β:Type}{n:Nat}{key:Nat->Int}{f:α->KasT β}{Q:β->Prop}:∀{t:KasT α},kwp n key t (λa=>kwp n key (f a) Q)->kwp n key (t.bind f) Q
 |.ret a,q=>q
 |.ask _ _ k,q=>⟨q.1,q.2.1,eG q.2.2⟩
def vg{α:Type}{n:Nat}{key:Nat->Int}{cmp:Nat->Nat->(Bool->Shared->Prop)->Shared->Prop}{s:Shared}{G:α->Shared->Prop}(hc:∀i j C,i<n->j<n->C (decide (key i<key j)) s->cmp i j C s) :
  ∀{t:KasT α},kwp n key t (λa=>G a s)->t.kasWp cmp G s
 |.ret _,q=>q
 |.ask i j k,q=>hc i j _ q.1 q.2.1 (vg hc q.2.2)
section
variable {n:Nat}{key:Nat->Int}{p:Array Nat}
def Pm(n:Nat)(p:Array Nat):Prop:=p.Perm (á n).toArray
def kk(key:Nat->Int)(p:Array Nat)(i:Nat):Int:=key (p.getD i 0)
def Pm.size(h:Pm n p):p.size=n:=by
 have:=Array.Perm.size_eq h
 simpa using this
def getD_eq(p:Array Nat)(i:Nat):p.getD i 0=(p[i]?).getD 0:=by
 by_cases h:i<p.size <;> simp[Array.getD,h]
def Pm.lt(h:Pm n p){i:Nat}(hi:i<n):p.getD i 0<n:=by
 have hs:=h.size
 have hi':i<p.size:=by omega
 have hm:p[i]∈p.toList:=by
  have:=Array.getElem_mem hi'
  simpa using this
 have hp:p.toList.Perm (á n):=by
  have:=Array.perm_iff_toList_perm.mp h
  simpa using this
 have e:p.getD i 0=p[i]:=by simp[Array.getD,hi']
 rw[e]
 exact Ķ.mp (hp.mem_iff.mp hm)
def Pm.rev(h:Pm n p)(i j:Nat):Pm n (kas_rev p i j):=Array.Perm.trans (mirror_perm _ _ _ _) h
def Pm.bub(h:Pm n p)(i j:Nat):Pm n (bubble p i j):=Array.Perm.trans (bubble_perm _ _ _) h
def vh(h:Pm n p){i j:Nat}(hj:j<=n)(t:Nat):kk key (kas_rev p i j) t=if i<=t/\t<j then kk key p (i+j - 1 - t) else kk key p t:=by
 unfold kk kas_rev
 rw[getD_eq,getElem?_mirror_all (by rw[h.size];exact hj)]
 split
 ·rw[getD_eq]
 ·rw[getD_eq]
def Rg(h:Pm n p){k l:Nat}(hk:k<n)(hl:l<=k)(t:Nat):kk key (bubble p k (k - l)) t=if t=l then kk key p k else if l<t/\t<=k then kk key p (t - 1) else kk key p t:=by
 unfold kk
 rw[getD_eq,getElem?_bubble (by rw[h.size];exact hk) _ (by omega)]
 have e:k - (k - l)=l:=by omega
 rw[e]
 split
 ·rw[getD_eq]
 ·split
  ·rw[getD_eq]
  ·rw[getD_eq]
def Up(key:Nat->Int)(p:Array Nat)(m:Nat):Prop:=∀i j,i<=j->j<m->kk key p i<=kk key p j
def Dn(key:Nat->Int)(p:Array Nat)(m:Nat):Prop:=∀i j,i<=j->j<m->kk key p j<=kk key p i
def Rn(key:Nat->Int)(p:Array Nat)(m q:Nat):Prop:=q+1<=m/\∀t,m<=t+q+1->t<m->kk key p t=kk key p (m - 1)
def Up.more{a:Nat}(h:Up key p a)(h1:1<=a)(hx:kk key p (a - 1)<=kk key p a):Up key p (a+1):=λi j hij hj=>by
 by_cases hja:j<a
 ·exact h i j hij hja
 ·obtain rfl:j=a:=by omega
  by_cases hi:i=j
  ·subst hi;exact Int.le_refl _
  ·exact Int.le_trans (h i (j - 1) (by omega) (by omega)) hx
def Dn.more{a:Nat}(h:Dn key p a)(h1:1<=a)(hx:kk key p a<=kk key p (a - 1)):Dn key p (a+1):=λi j hij hj=>by
 by_cases hja:j<a
 ·exact h i j hij hja
 ·obtain rfl:j=a:=by omega
  by_cases hi:i=j
  ·subst hi;exact Int.le_refl _
  ·exact Int.le_trans hx (h i (j - 1) (by omega) (by omega))
def Ar(hp:Pm n p):∀(f a:Nat),1<=a->a+f<=n->Up key p a->kwp n key (kas_asc p f a) (λm=>a<=m/\m<=a+f/\Up key p m/\(m<a+f->kk key p m<kk key p (m - 1)))
 |0,a,h1,hf,hu=>⟨Ì _,Ì _,hu,λh=>absurd h (by omega)⟩
 |f+1,a,h1,hf,hu=>by
  refine⟨hp.lt (by omega),hp.lt (by omega),?_⟩
  by_cases hc:key (p.getD a 0)<key (p.getD (a - 1) 0)
  ·(rw[decide_eq_true hc];dsimp only;rw[if_pos rfl])
   exact⟨Ì _,by omega,hu,λ_=>hc⟩
  ·(rw[decide_eq_false hc];dsimp only;rw[if_neg É])
   refine bJ (λm ⟨a1,a2,a3,a4⟩=>⟨by omega,by omega,a3,λh=>a4 (by omega)⟩) (Ar hp f (a+1) (by omega) (by omega) (hu.more h1 (Int.not_lt.mp hc)))
def Bq(hp:Pm n p){a q:Nat}(ha:a<=n)(hr:Rn key p a q)(t:Nat):kk key (kas_rev p (a - (q+1)) a) t=kk key p t:=by
 rw[vh hp ha]
 split
 ·rename_i h
  rw[hr.2 t (by omega) h.2]
  exact hr.2 _ (by have:=hr.1;omega) (by omega)
 ·rfl
def Dn.eq{p':Array Nat}{m:Nat}(h:Dn key p m)(e:∀t,kk key p' t=kk key p t):Dn key p' m:=λi j a b=>by rw[e,e];exact h i j a b
def CT:∀(f:Nat) (p:Array Nat) (a q:Nat),Pm n p->1<=a->a+f<=n->Dn key p a->Rn key p a q ->
  kwp n key (kas_desc f p a q) (λr=>Pm n r.1/\a<=r.2.1/\r.2.1<=a+f/\Dn key r.1 r.2.1/\Rn key r.1 r.2.1 r.2.2)
 |0,p,a,q,hp,h1,hf,hd,hr=>⟨hp,Ì _,Ì _,hd,hr⟩
 |f+1,p,a,q,hp,h1,hf,hd,hr=>by
  refine⟨hp.lt (by omega),hp.lt (by omega),?_⟩
  have fin:∀{p':Array Nat}{q':Nat},Pm n p'->Dn key p' (a+1)->Rn key p' (a+1) q'->kwp n key (kas_desc f p' (a+1) q') (λr=>Pm n r.1/\a<=r.2.1/\r.2.1<=a+(f+1)/\Dn key r.1 r.2.1/\Rn key r.1 r.2.1 r.2.2):=λx y z =>
   bJ (λr ⟨a1,a2,a3,a4,a5⟩=>⟨a1,by omega,by omega,a4,a5⟩) (CT f _ (a+1) _ x (by omega) (by omega) y z)
  have rn0:∀p':Array Nat,Rn key p' (a+1) 0:=λp'=>⟨by omega,λt h1 h2=>by
   have e:t=a+1 - 1:=by omega
   rw[e]⟩
  by_cases hc:key (p.getD a 0)<key (p.getD (a - 1) 0)
  ·(rw[decide_eq_true hc];dsimp only;rw[if_pos rfl])
   have hc':kk key p a<kk key p (a - 1):=hc
   by_cases hq:q > 0
   ·rw[if_pos hq]
    have e:=Bq (key:=key) hp (by omega) hr
    exact fin (hp.rev _ _) ((hd.more h1 (Int.le_of_lt hc')).eq e) (rn0 _)
   ·rw[if_neg hq]
    exact fin hp (hd.more h1 (Int.le_of_lt hc')) (rn0 _)
  ·(rw[decide_eq_false hc];dsimp only;rw[if_neg É])
   refine⟨hp.lt (by omega),hp.lt (by omega),?_⟩
   by_cases hc2:key (p.getD (a - 1) 0)<key (p.getD a 0)
   ·(rw[decide_eq_true hc2];dsimp only;rw[if_pos rfl])
    exact⟨hp,Ì _,(by show a<=a+(f+1);omega),hd,hr⟩
   ·(rw[decide_eq_false hc2];dsimp only;rw[if_neg É])
    have e:kk key p a=kk key p (a - 1):=Int.le_antisymm (Int.not_lt.mp hc2) (Int.not_lt.mp hc)
    refine fin hp (hd.more h1 (Int.le_of_eq e)) ⟨by have:=hr.1;omega,λt t1 t2=>?_⟩
    show _=kk key p a
    by_cases ht:t=a
    ·rw[ht]
    ·rw[e]
     exact hr.2 t (by omega) (by omega)
def v9{a:Nat}(hp:Pm n p)(h1:1<=a)(ha:a<=n)(hd:Dn key p a):kwp n key (kas_tail3 a n p) (λr=>Pm n r.2/\1<=r.1/\r.1<=n/\Up key r.2 r.1):=by
 unfold kas_tail3
 have hu:Up key (kas_rev p 0 a) a:=λi j hij hj=>by
  rw[vh hp ha,vh hp ha,if_pos ⟨by omega,by omega⟩,if_pos ⟨by omega,hj⟩]
  exact hd _ _ (by omega) (by omega)
 refine eG (bJ (λm ⟨a1,a2,a3,_⟩=>?_) (Ar (hp.rev 0 a) (n - a) a h1 (by omega) hu))
 exact⟨hp.rev 0 a,by omega,by omega,a3⟩
def nY{a:Nat}(hp:Pm n p)(ha:a+1<=n)(hd:Dn key p (a+1)):kwp n key (kas_descPart a n p) (λr=>Pm n r.2/\1<=r.1/\r.1<=n/\Up key r.2 r.1):=by
 unfold kas_descPart
 refine eG (bJ (λr ⟨a1,a2,a3,a4,a5⟩=>?_) (CT (n - (a+1)) p (a+1) 0 hp (by omega) (by omega) hd ⟨by omega,λt h1 h2=>by
  have e:t=a+1 - 1:=by omega
  rw[e]⟩))
 split
 ·exact v9 (a1.rev _ _) (by omega) (by omega) (a4.eq (Bq a1 (by omega) a5))
 ·exact v9 a1 (by omega) (by omega) a4
def JT(hp:Pm n p)(h1:1<=n):kwp n key (kas_count n p) (λr=>Pm n r.2/\1<=r.1/\r.1<=n/\Up key r.2 r.1):=by
 unfold kas_count
 have u1:Up key p 1:=λi j hij hj=>by
  have e:i=j:=by omega
  rw[e];exact Int.le_refl _
 refine eG (bJ (λm ⟨a1,a2,a3,a4⟩=>?_) (Ar hp (n - 1) 1 (Ì _) (by omega) u1))
 by_cases hm:m=n
 ·rw[if_pos (by simpa using hm)]
  exact⟨hp,by omega,by omega,a3⟩
 ·rw[if_neg (by simpa using hm)]
  have hlt:=a4 (by omega)
  by_cases hm1:m > 1
  ·rw[if_pos hm1]
   refine⟨hp.lt (by omega),hp.lt (by omega),?_⟩
   by_cases hc:key (p.getD 0 0)<key (p.getD (m - 1) 0)
   ·(rw[decide_eq_true hc];dsimp only;rw[if_pos rfl])
    exact⟨hp,by omega,by omega,a3⟩
   ·(rw[decide_eq_false hc];dsimp only;rw[if_neg É])
    have hall:∀t,t<m->kk key p t=kk key p 0:=λt ht=>by
     have e1:=a3 0 t (by omega) ht
     have e2:=a3 t (m - 1) (by omega) (by omega)
     have e3:kk key p (m - 1)<=kk key p 0:=Int.not_lt.mp hc
     omega
    have e:∀t,kk key (kas_rev p 0 m) t=kk key p t:=λt=>by
     rw[vh hp (by omega)]
     split
     ·rename_i h
      rw[hall t h.2,hall _ (by omega)]
     ·rfl
    refine nY (hp.rev 0 m) (by omega) (Dn.eq (p:=p) (Dn.more (λi j hij hj=>?_) (by omega) (Int.le_of_lt hlt)) e)
    rw[hall i (by omega),hall j hj]
    exact Int.le_refl _
  ·rw[if_neg hm1]
   obtain rfl:m=1:=by omega
   refine nY hp (by omega) (Dn.more (λi j hij hj=>?_) (by omega) (Int.le_of_lt hlt))
   have e:i=j:=by omega
   rw[e];exact Int.le_refl _
def p7{k:Nat}(hp:Pm n p)(hk:k<n)(hu:Up key p k):∀(f l r:Nat),l<=r->r<=k->r<=l+f->(∀t,t<l->kk key p t<=kk key p k)->(∀t,r<=t->t<k->kk key p k<kk key p t) ->
  kwp n key (kas_place p k f l r) (λl'=>l'<=k/\(∀t,t<l'->kk key p t<=kk key p k)/\(∀t,l'<=t->t<k->kk key p k<kk key p t))
 |0,l,r,h1,h2,h3,h4,h5=>⟨by omega,h4,λt a b=>h5 t (by omega) b⟩
 |f+1,l,r,h1,h2,h3,h4,h5=>by
  unfold kas_place
  by_cases hlr:l ≥ r
  ·rw[if_pos hlr]
   exact⟨by omega,h4,λt a b=>h5 t (by omega) b⟩
  ·rw[if_neg hlr]
   have hm:(l+r) / 2<r:=by omega
   refine⟨hp.lt hk,hp.lt (by omega),?_⟩
   by_cases hc:key (p.getD k 0)<key (p.getD ((l+r) / 2) 0)
   ·(rw[decide_eq_true hc];dsimp only;rw[if_pos rfl])
    have hc':kk key p k<kk key p ((l+r) / 2):=hc
    exact p7 hp hk hu f l _ (by omega) (by omega) (by omega) h4 λt a b=>Int.lt_of_lt_of_le hc' (hu _ t a b)
   ·(rw[decide_eq_false hc];dsimp only;rw[if_neg É])
    have hc':kk key p ((l+r) / 2)<=kk key p k:=Int.not_lt.mp hc
    exact p7 hp hk hu f _ r (by omega) (by omega) (by omega) (λt a=>Int.le_trans (hu t _ (by omega) (by omega)) hc') h5
def JZ:∀(f:Nat) (p:Array Nat) (k:Nat),Pm n p->k+f<=n->Up key p k->kwp n key (kas_bin f p k) (λp'=>Pm n p'/\Up key p' (k+f))
 |0,p,k,hp,hk,hu=>⟨hp,hu⟩
 |f+1,p,k,hp,hk,hu=>by
  unfold kas_bin
  refine eG (bJ (λl ⟨a1,a2,a3⟩=>?_) (p7 hp (by omega) hu k 0 k (ä _) (Ì _) (by omega) (λt h=>absurd h (by omega)) (λt h1 h2=>absurd h1 (by omega))))
  have e:=Rg (key:=key) hp (k:=k) (by omega) a1
  have hu':Up key (bubble p k (k - l)) (k+1):=λi j hij hj=>by
   rw[e,e]
   by_cases hi:i=l
   ·rw[if_pos hi]
    by_cases hj':j=l
    ·rw[if_pos hj'];exact Int.le_refl _
    ·rw[if_neg hj',if_pos ⟨by omega,by omega⟩]
     exact Int.le_of_lt (a3 _ (by omega) (by omega))
   ·rw[if_neg hi]
    by_cases hi2:l<i/\i<=k
    ·rw[if_pos hi2,if_neg (by omega),if_pos ⟨by omega,by omega⟩]
     exact hu _ _ (by omega) (by omega)
    ·rw[if_neg hi2]
     by_cases hj':j=l
     ·rw[if_pos hj']
      exact a2 i (by omega)
     ·rw[if_neg hj']
      by_cases hj2:l<j/\j<=k
      ·rw[if_pos hj2]
       exact hu _ _ (by omega) (by omega)
      ·rw[if_neg hj2]
       exact hu _ _ hij (by omega)
  refine bJ (λp' ⟨b1,b2⟩=>⟨b1,?_⟩) (JZ f _ (k+1) (hp.bub _ _) (by omega) hu')
  have e2:k+(f+1)=k+1+f:=by omega
  rw[e2];exact b2
def Kh(h1:1<=n):kwp n key (kas_sort n) (λp=>Pm n p/\Up key p n):=by
 unfold kas_sort
 refine eG (bJ (λr ⟨a1,a2,a3,a4⟩=>?_) (JT (p:=(á n).toArray) (Array.Perm.refl _) h1))
 have e:max r.1 1=r.1:=by omega
 rw[e]
 split
 ·refine bJ (λp' ⟨b1,b2⟩=>⟨b1,?_⟩) (JZ (n - r.1) r.2 r.1 a1 (by omega) a4)
  have e2:r.1+(n - r.1)=n:=by omega
  rw[e2] at b2;exact b2
 ·have e2:r.1=n:=by omega
  rw[e2] at a4
  exact⟨a1,a4⟩
end
end NfSort
namespace L2
open PySem PySem.Spec PyProof.Rows
section
variable {prog:Program}{w:World}{A:Around}{E:Value->Shared->Prop}{s:Shared}
end
section
variable {X:Cx}{pos:Pos}
def Mz(K:Ñ)(n:Nat)(t:TGs):TG:=λv σ H Q=>∃a xs,v=.ref a/\SqL K H a xs/\xs.length=n/\t xs σ H Q
end
section
variable {X:Cx}
def vQ:bC X (.builtin "isinstance") (λxs H Q=>∃x c t b,xs=[x,.ty c]/\TyOf X.K H x t/\Ŕ X.K t (.type c)=some b/\Q (.bl b) H):=by
 intro pins s σ H xs us Q I r h
 obtain⟨x,c,t,b,rfl,ty,e,q⟩:=h
 obtain⟨u,u2,rfl,rx,rc⟩:=vals2 r
 cases rc
 exact Et I rx ty e λtk=>⟨.bl b,H,I.tok _,rfl,q⟩
def vP:bC X (.builtin "isinstance") (λxs H Q=>∃x p c1 c2 t b,xs=[x,.ref p]/\TyOf X.K H x t/\SqT X.K H p [.ty c1,.ty c2]/\W.kitAny X.K t [.type c1,.type c2]=some b/\Q (.bl b) H):=by
 intro pins s σ H xs us Q I r h
 obtain⟨x,p,c1,c2,t,b,rfl,ty,hp,e,q⟩:=h
 obtain⟨u,u2,rfl,rx,rc⟩:=vals2 r
 cases rc
 obtain⟨its,rv,⟨o,ho,hcl,n,hd⟩,hz⟩:=I.tuple hp
 obtain⟨v1,v2,rfl,r1,r2⟩:=vals2 rv
 cases r1
 cases r2
 obtain⟨oc,od,odt,osl⟩:=o
 cases hcl
 cases hd
 have fin:∀tk,EP X pins σ Q (.bool b) { s with toks:=tk }:=λtk=>⟨.bl b,H,I.tok _,rfl,q⟩
 cases ty with
 |non=>cases (show u=ý from rx);exact ų W.kitx_none I.kIn ť ho e (λz=>nomatch z) fin
 |bl y=>cases (show u=ŕ y from rx);exact ų W.kitx_bool I.kIn ť ho e (λz=>nomatch z) fin
 |int i=>obtain⟨t,q⟩:=(show ∃t,u=ĕ i t from rx);cases q;exact ų W.kitx_int I.kIn ť ho e (λz=>nomatch z) fin
 |str y=>obtain⟨t,q⟩:=(show ∃t,u=Value.str y t from rx);cases q;exact ų W.kitx_str I.kIn ť ho e (λz=>nomatch z) fin
 |flt y=>obtain⟨t,q⟩:=(show ∃t,u=Value.float y t from rx);cases q;exact ų W.kitx_float I.kIn ť ho e (λz=>nomatch z) fin
 |@lst a xs ea =>
  cases (show u=ü a from rx)
  obtain⟨_,_,n,_,h1⟩:=(show aU X.prog X.w H s.heap a (.lst xs) from I.hok a _ ea)
  exact ų W.kitx_list I.kIn ⟨_,h1,rfl⟩ ho e (λz=>nomatch z) fin
 |@frz a ob xs ea =>
  cases (show u=ü a from rx)
  obtain⟨_,_,_,n,_,h1⟩:=(show aU X.prog X.w H s.heap a (.frz ob (.lst xs)) from I.hok a _ ea)
  exact ų W.kitx_list I.kIn ⟨_,h1,rfl⟩ ho e (λz=>nomatch z) fin
 |@tup a xs ea =>
  cases (show u=ü a from rx)
  obtain⟨_,_,_,p⟩:=(show aU X.prog X.w H s.heap a (.tup xs) from I.hok a _ ea)
  obtain⟨o,h1,h2,_⟩:=p
  exact ų W.kitx_tuple I.kIn ⟨o,h1,h2⟩ ho e (λz=>nomatch z) fin
 |@dK a kvs ea =>
  cases (show u=ü a from rx)
  obtain⟨_,_,vs,_,p⟩:=(show aU X.prog X.w H s.heap a (.dK kvs) from I.hok a _ ea)
  obtain⟨o,es,ep,h1,h2,_⟩:=p
  exact ų W.kitx_dict I.kIn ⟨o,h1,h2.1⟩ ho e (λz=>nomatch z) fin
 |@dT a kvs ea =>
  cases (show u=ü a from rx)
  obtain⟨_,_,xs,_,o,es,ep,h1,h2,_⟩:=(show aU X.prog X.w H s.heap a (.dT kvs) from I.hok a _ ea)
  exact ų W.kitx_dict I.kIn ⟨o,h1,h2.1⟩ ho e (λz=>nomatch z) fin
 |@ins a C dx fs ea cl ha hn htk hm =>
  cases (show u=ü a from rx)
  obtain⟨mA,O,_⟩:=Cu I.hok ea
  obtain⟨od,J,_⟩:=O.look
  exact ų (W.kitx_own (cl.get _) cl.hd ha hn htk hm) I.kIn J ho e (λz=>nomatch z) fin
def uo:∀{bs:List Bool}{us:List Value},Vals (bs.map V.bl) us->us=bs.map ŕ
 |[],_,h=>by cases h;rfl
 |b::bs,_,h=>by
  cases h with
  |cons r t =>
   cases r
   rw[uo t]
   rfl
def all_range(bs:List Bool):(á bs.length).all (λi=>bs.getD i true)=bs.all id:=by
 rw[ę]
 simp only[Ą,Ķ]
 constructor
 ·intro h x hx
  obtain⟨i,hi,e⟩:=List.mem_iff_getElem.mp hx
  have q:=h i hi
  simp[hi] at q
  rw[←e];exact q
 ·intro h i hi
  have q:=h bs[i] (Ū hi)
  simpa[hi] using q
def Fv(hc:X.calm=true):bC X (.builtin "all") (λxs H Q=>∃(p:Addr) (bs:List Bool),xs=[.ref p]/\SqL X.K H p (bs.map V.bl)/\Q (.bl (bs.all id)) H):=by
 intro pins s σ H xs us Q I r h
 obtain⟨p,bs,rfl,hp,q⟩:=h
 obtain⟨u,rfl,rx⟩:=vals1 r
 cases rx
 obtain⟨its,rv,pl,hz⟩:=I.list hp
 have e:=uo rv
 subst e
 have hlt:p≠s.heap.objs.size:=by obtain⟨o,ho,_⟩:=pl.isList;exact ß (Ç ho)
 refine call_all_walk (wpAny_pyIter_list pl.isList ?_)
 refine⟨_,_,_,_,_,_,λi=>bs.getD i true,rfl,Walks.list (A:=X.A.in1) (I.ok.hd hc) _ p hlt _,⟨⟨_,Õ _ rfl,rfl,rfl⟩,pl.isList.push _⟩,?_,λh' tk hk=>?_⟩
 ·intro i v s Q E hP hQ
  have hP':(bs.map ŕ)[i]?=some v:=by simpa using hP
  rw[à] at hP'
  cases hb:bs[i]? with
  |none=>rw[hb] at hP';cases hP'
  |some b =>
   rw[hb] at hP'
   cases hP'
   refine į ?_
   have e:bs.getD i true=b:=by rw[ò,hb];rfl
   have hQ':Q (bs.getD i true) s:=hQ
   rw[e] at hQ'
   exact hQ'
 ·have e:(á (bs.map ŕ).toArray.size).all (λi=>bs.getD i true)=bs.all id:=by
   rw[Ï,Ã]
   exact all_range bs
  rw[e]
  refine⟨.bl (bs.all id),H,I.kept λb o eb=>hk b o ?_ (Æ _ eb),rfl,q⟩
  intro hm
  have:b=s.heap.objs.size:=by simpa using hm
  exact absurd (Ç eb) (by rw[this];exact ø _)
def Fi(hc:X.calm=true):bC X (.builtin "min") (λxs H Q=>∃p a b,xs=[.ref p]/\SqT X.K H p [.int a,.int b]/\Q (.int (if b<a then b else a)) H):=by
 intro pins s σ H xs us Q I r h
 obtain⟨p,a,b,rfl,hp,q⟩:=h
 obtain⟨u,rfl,rx⟩:=vals1 r
 cases rx
 obtain⟨its,rv,pl,hz⟩:=I.tuple hp
 obtain⟨v1,v2,rfl,⟨t1,rfl⟩,⟨t2,rfl⟩⟩:=vals2 rv
 have pl':s.heap.IsTuple p (intItems #[(a,t1),(b,t2)]):=by
  have z:s.heap.IsTuple p #[ĕ a t1,ĕ b t2]:=pl
  simpa[intItems] using z
 have hlt:p<s.heap.objs.size:=by obtain⟨o,ho,_⟩:=pl;exact Ç ho
 refine call_min_walk (wpAny_pyIter_tuple pl' ?_)
 refine⟨_,[s.heap.objs.size,p],[s.heap.objs.size],_,_,_,_,rfl,Walks.tuple (A:=X.A.in1) (I.ok.hd hc) _ p (ß hlt) (intItems #[(a,t1),(b,t2)]),⟨⟨_,Õ _ rfl,rfl,rfl⟩,pl'.push _⟩,λc hc=>?_,by simp[intItems],
  CmpOf.ints_lt (numAt #[(a,t1),(b,t2)]) (λ_ _=>intItems_at),λv h' tk hP hk=>?_⟩
 ·show c<(s.heap.push _).objs.size
  rw[Ĵ]
  rcases â.mp hc with rfl|hc
  ·exact Ŭ _
  ·have:c=p:=by simpa using hc
   rw[this];exact Ā hlt
 ·have hv:v=if b<a then ĕ b t2 else ĕ a t1:=by
   have hP':(intItems #[(a,t1),(b,t2)])[argBest (λi j=>decide (numAt #[(a,t1),(b,t2)] i<numAt #[(a,t1),(b,t2)] j)) 1]?=some v:=by
    have hsz2:(intItems #[(a,t1),(b,t2)]).size - 1=1:=by simp[intItems]
    rw[←hsz2];exact hP
   by_cases hba:b<a
   ·have e:argBest (λi j=>decide (numAt #[(a,t1),(b,t2)] i<numAt #[(a,t1),(b,t2)] j)) 1=1:=by simp[argBest,numAt,hba]
    rw[e] at hP'
    simpa[intItems,hba] using hP'.symm
   ·have e:argBest (λi j=>decide (numAt #[(a,t1),(b,t2)] i<numAt #[(a,t1),(b,t2)] j)) 1=0:=by simp[argBest,numAt,hba]
    rw[e] at hP'
    simpa[intItems,hba] using hP'.symm
  subst hv
  refine⟨.int (if b<a then b else a),H,I.kept λb o eb=>hk b o ?_ (Æ _ eb),?_,q⟩
  ·intro hm
   have:b=s.heap.objs.size:=by simpa using hm
   exact absurd (Ç eb) (by rw[this];exact ø _)
  ·by_cases hba:b<a
   ·rw[if_pos hba,if_pos hba];exact⟨_,rfl⟩
   ·rw[if_neg hba,if_neg hba];exact⟨_,rfl⟩
def Fl(hc:X.calm=true):bC X (.builtin "max") (λxs H Q=>∃p a b,xs=[.ref p]/\SqT X.K H p [.int a,.int b]/\Q (.int (if b > a then b else a)) H):=by
 intro pins s σ H xs us Q I r h
 obtain⟨p,a,b,rfl,hp,q⟩:=h
 obtain⟨u,rfl,rx⟩:=vals1 r
 cases rx
 obtain⟨its,rv,pl,hz⟩:=I.tuple hp
 obtain⟨v1,v2,rfl,⟨t1,rfl⟩,⟨t2,rfl⟩⟩:=vals2 rv
 have pl':s.heap.IsTuple p (intItems #[(a,t1),(b,t2)]):=by
  have z:s.heap.IsTuple p #[ĕ a t1,ĕ b t2]:=pl
  simpa[intItems] using z
 have hlt:p<s.heap.objs.size:=by obtain⟨o,ho,_⟩:=pl;exact Ç ho
 refine call_max_walk (wpAny_pyIter_tuple pl' ?_)
 refine⟨_,[s.heap.objs.size,p],[s.heap.objs.size],_,_,_,_,rfl,Walks.tuple (A:=X.A.in1) (I.ok.hd hc) _ p (ß hlt) (intItems #[(a,t1),(b,t2)]),⟨⟨_,Õ _ rfl,rfl,rfl⟩,pl'.push _⟩,λc hc=>?_,by simp[intItems],
  CmpOf.ints_gt (numAt #[(a,t1),(b,t2)]) (λ_ _=>intItems_at),λv h' tk hP hk=>?_⟩
 ·show c<(s.heap.push _).objs.size
  rw[Ĵ]
  rcases â.mp hc with rfl|hc
  ·exact Ŭ _
  ·have:c=p:=by simpa using hc
   rw[this];exact Ā hlt
 ·have hv:v=if b > a then ĕ b t2 else ĕ a t1:=by
   have hP':(intItems #[(a,t1),(b,t2)])[argBest (λi j=>decide (numAt #[(a,t1),(b,t2)] i > numAt #[(a,t1),(b,t2)] j)) 1]?=some v:=by
    have hsz2:(intItems #[(a,t1),(b,t2)]).size - 1=1:=by simp[intItems]
    rw[←hsz2];exact hP
   by_cases hba:b > a
   ·have e:argBest (λi j=>decide (numAt #[(a,t1),(b,t2)] i > numAt #[(a,t1),(b,t2)] j)) 1=1:=by simp[argBest,numAt,hba]
    rw[e] at hP'
    simpa[intItems,hba] using hP'.symm
   ·have e:argBest (λi j=>decide (numAt #[(a,t1),(b,t2)] i > numAt #[(a,t1),(b,t2)] j)) 1=0:=by simp[argBest,numAt,hba]
    rw[e] at hP'
    simpa[intItems,hba] using hP'.symm
  subst hv
  refine⟨.int (if b > a then b else a),H,I.kept λb o eb=>hk b o ?_ (Æ _ eb),?_,q⟩
  ·intro hm
   have:b=s.heap.objs.size:=by simpa using hm
   exact absurd (Ç eb) (by rw[this];exact ø _)
  ·by_cases hba:b > a
   ·rw[if_pos hba,if_pos hba];exact⟨_,rfl⟩
   ·rw[if_neg hba,if_neg hba];exact⟨_,rfl⟩
def tX:bC X (.type "range") (λxs H Q=>∃j,xs=[.int j]/\∀p,H p=none->Q (.ref p) (upd H p (.rng 0 j))):=by
 intro pins s σ H xs us Q I r h
 obtain⟨j,rfl,q⟩:=h
 obtain⟨u,rfl,t,rfl⟩:=vals1 r
 refine call_range_1 ?_
 exact⟨.ref s.heap.objs.size,_,I.laid (o:=.rng 0 j) (λb o e=>Æ _ e) (Ì _) ⟨_,_,_,Õ _ rfl⟩,rfl,q _ I.fresh⟩
def oF(lo hi:Int):List V:=(á (hi - lo).toNat).map λi=>V.int (lo+(i:Nat))
def yx{lo:Int}:∀{n:Nat}{us:List Value},us.length=n->(∀j v,us[j]?=some v->∃t,v=ĕ (lo+(j:Nat) * 1) t)->Vals ((á n).map λi=>V.int (lo+(i:Nat))) us:=by
 intro n us hl h
 have key:∀(us:List Value) (k:Nat),(∀j v,us[j]?=some v->∃t,v=ĕ (lo+((k+j:Nat):Int)) t)->Vals ((List.range' k us.length).map λi=>V.int (lo+(i:Nat))) us:=by
  intro us
  induction us with
  |nil=>intro k _;exact .nil
  |cons u us ih =>
   intro k hk
   obtain⟨t,e⟩:=hk 0 u (by simp)
   rw[ç,List.range'_succ,û]
   refine .cons ⟨t,by simpa using e⟩ (ih (k+1) λj v hv=>?_)
   obtain⟨t,e⟩:=hk (j+1) v (by simpa using hv)
   exact⟨t,by rw[e];congr 2;omega⟩
 have q:=key us 0 λj v hv=>by
  obtain⟨t,e⟩:=h j v hv
  exact⟨t,by rw[e];simp⟩
 rw[hl,←List.range_eq_range'] at q
 exact q
def jF(hc:X.calm=true):bC X (.type "list") (λxs H Q=>∃p lo hi,xs=[.ref p]/\H p=some (.rng lo hi)/\(-1000<=lo/\lo<=1000/\-1000<=hi/\hi<=1000)/\∀l,H l=none->Q (.ref l) (upd H l (.lst (oF lo hi)))):=by
 intro pins s σ H xs us Q I r h
 obtain⟨p,lo,hi,rfl,hp,⟨b1,b2,b3,b4⟩,q⟩:=h
 obtain⟨u,rfl,rx⟩:=vals1 r
 cases rx
 obtain⟨t,u,v,e⟩:=I.hok p _ hp
 have hsz:Builtin.Range.rangeSize lo hi 1=(((hi - lo).toNat:Nat):Int):=by rw[rangeSize_one];split <;> omega
 refine call_list_range (I.ok.hd hc) (show IsRange s.heap p lo hi 1 t u v from e) (small_one (by omega) (by omega) (by omega) (by omega)) hsz (by omega) λh' tk acc' c' hk ho ⟨hn,hit⟩=>?_
 have hv:Vals (oF lo hi) acc'.toList:=yx (by simpa using hn) λj w hw=>hit j w (by simpa using hw)
 refine⟨.ref s.heap.objs.size,_,I.laid (o:=.lst (oF lo hi)) hk (Ì _) ⟨?_,acc'.toList,c',hv,by simpa using ho⟩,rfl,q _ I.fresh⟩
 unfold oF
 rw[Ã,List.length_range,ì]
 omega
end
abbrev Tie:=Int×Int
def Pr(H:Hp)(v:V)(t:Tie):Prop:=∃p,v=.ref p/\H p=some (.tup [.int t.1,.int t.2])
abbrev Prs(H:Hp):List V->List Tie->Prop:=Paired (Pr H)
def aV(t:Tie):Int:=64 * t.1+t.2
def yt(t:Tie):Prop:=0<=t.2/\t.2<64
def jc(h:Heap)(u:Value)(t:Tie):Prop:=∃a o t1 t2 n,u=.ref a/\h.get? a=some o/\o.cls=.type "tuple"/\o.data=.seq #[.int t.1 t1,.int t.2 t2] n
def jc.keep{h h':Heap}{u:Value}{t:Tie}(x:jc h u t)(k:∀a o,h.get? a=some o->o.cls=.type "tuple"->h'.get? a=some o):jc h' u t:=by
 obtain⟨a,o,t1,t2,n,e,ho,hc,hd⟩:=x
 exact⟨a,o,t1,t2,n,e,k a o ho hc,hc,hd⟩
def T3{α β:Type}{F:α->β->Prop}{l₁:List α}{l₂:List β}(h:Paired F l₁ l₂):∀{i:Nat}{b:β},l₂[i]?=some b->∃a,l₁[i]?=some a/\F a b:=by
 induction h with
 |nil=>intro i x e;simp at e
 |cons r t ih =>
  intro i x e
  cases i with
  |zero=>simp at e;subst e;exact⟨_,rfl,r⟩
  |succ i =>
   obtain⟨c,e1,f⟩:=ih (by simpa using e)
   exact⟨c,by simpa using e1,f⟩
def GZ{α β:Type}{F:α->β->Prop}{l₁:List α}{l₂:List β}(h:Paired F l₁ l₂)(da:α)(db:β):∀(p:List Nat),(∀i∈p,i<l₂.length)->Paired F (p.map λi=>l₁.getD i da) (p.map λi=>l₂.getD i db)
 |[],_=>.nil
 |i::p,hp=>by
  have hi:i<l₂.length:=hp i Ö
  obtain⟨a,e,f⟩:=T3 h (i:=i) (b:=l₂[i]) (by simp[hi])
  refine .cons ?_ (GZ h da db p λj hj=>hp j (Ô _ hj))
  have e1:l₁.getD i da=a:=by rw[ò,e];rfl
  have e2:l₂.getD i db=l₂[i]:=by simp[hi]
  show F (l₁.getD i da) (l₂.getD i db)
  rw[e1,e2]
  exact f
def Te{α:Type}:∀us:List α,List.map (λx=>x.snd) (us.zip us)=us
 |[]=>rfl
 |u::us=>by rw[List.zip_cons_cons,û,Te us]
def iJ{α:Type}(l:List α)(d:α):(á l.length).map (λi=>l.getD i d)=l:=by
 apply List.ext_getElem
 ·simp
 ·intro i h1 h2
  simp at h1 ⊢
  simp[h1]
section
variable {X:Cx}{pins:List (Addr×Obj)}{σ:St}{H:Hp}{s:Shared}
def Inv.pairs(I:Inv X pins σ H s):∀{vs:List V}{ts:List Tie}{us:List Value},Prs H vs ts->Vals vs us->Paired (jc s.heap) us ts
 |_,_,_,.nil,r=>by cases r;exact .nil
 |_,_,_,.cons p q,r=>by
  cases r with
  |cons r rr =>
   refine .cons ?_ (I.pairs q rr)
   obtain⟨a,rfl,e⟩:=p
   cases r
   obtain⟨_,its,rv,⟨o,ho,hc,n,hd⟩⟩:=I.hok a _ e
   obtain⟨v1,v2,rfl,⟨t1,rfl⟩,⟨t2,rfl⟩⟩:=vals2 rv
   exact⟨a,o,t1,t2,n,rfl,ho,hc,hd⟩
end
section
variable {prog:Program}{w:World}{A:Around}{E:Value->Shared->Prop}{s:Shared}
def Il{x y:Value}{a b:Tie}{Q:Bool->Shared->Prop}(hx:jc s.heap x a)(hy:jc s.heap y b)(na:yt a)(nb:yt b)(h:Q (decide (aV a<aV b)) s):wpAny (model prog w) A (keyLt' (tuples' true) x y) Q E s:=by
 obtain⟨p,o,t1,t2,n,rfl,ho,hc,hd⟩:=hx
 obtain⟨p',o',t1',t2',n',rfl,ho',hc',hd'⟩:=hy
 obtain⟨a1,a2⟩:=a
 obtain⟨b1,b2⟩:=b
 unfold yt at na nb
 simp only at na nb
 refine W.kat_lt ho hd ho' hd' ?_
 refine W.kat_cons (wpAny_eqBool_int ?_)
 by_cases e1:a1=b1
 ·subst e1
  rw[beq_self_eq_true]
  refine W.kat_yes (W.kat_cons (wpAny_eqBool_int ?_))
  by_cases e2:a2=b2
  ·subst e2
   rw[beq_self_eq_true]
   refine W.kat_yes (W.kat_nil ?_)
   have e:decide (aV (a1,a2)<aV (a1,a2))=false:=decide_eq_false (Int.lt_irrefl _)
   rw[e] at h
   exact h
  ·rw[beq_eq_false_iff_ne.mpr e2]
   refine W.kat_no (W.kat_one _ _ (lt_int ?_))
   have e:decide (aV (a1,a2)<aV (a1,b2))=decide (a2<b2):=by
    apply decide_eq_decide.mpr
    unfold aV
    omega
   rw[e] at h
   exact h
 ·rw[beq_eq_false_iff_ne.mpr e1]
  refine W.kat_no (oneLt_int ?_)
  have e:decide (aV (a1,a2)<aV (b1,b2))=decide (a1<b1):=by
   apply decide_eq_decide.mpr
   unfold aV
   simp only
   constructor
   ·intro h;omega
   ·intro h;omega
  rw[e] at h
  exact h
def Je:∀{us:List Value}{ts:List Tie},Paired (jc s.heap) us ts->∃fs,W.KatTups s.heap us fs/\fs.length=us.length/\∀v∈fs,∃i t,v=ĕ i t
 |_,_,.nil=>⟨[],.nil,rfl,λ_ h=>nomatch h⟩
 |_,_,.cons p q=>by
  obtain⟨a,o,t1,t2,n,rfl,ho,hc,hd⟩:=p
  obtain⟨fs,k,hl,hv⟩:=Je q
  refine⟨_::fs,.cons ho hc hd (f:=ĕ _ t1) rfl k,by simp[hl],λv hv'=>?_⟩
  rcases â.mp hv' with rfl|h
  ·exact⟨_,_,rfl⟩
  ·exact hv v h
def Sq{n:Nat}{key:Nat->Int}{p:Array Nat}(hp:NfSort.Pm n p)(h1:1<=n)(hs:NfSort.Up key p n):NfSort.kwp n key (W.kas_count n p) (λr=>r.1=n/\r.2=p):=by
 unfold W.kas_count
 have go:∀(f a:Nat),1<=a->a+f=n->NfSort.kwp n key (W.kas_asc p f a) (λm=>m=n):=by
  intro f
  induction f with
  |zero=>intro a _ h;exact h
  |succ f ih =>
   intro a ha h
   refine⟨hp.lt (by omega),hp.lt (by omega),?_⟩
   have hc:¬key (p.getD a 0)<key (p.getD (a - 1) 0):=Int.not_lt.mpr (hs (a - 1) a (by omega) (by omega))
   rw[decide_eq_false hc]
   exact ih (a+1) (by omega) (by omega)
 refine NfSort.eG (NfSort.bJ (λm e=>?_) (go (n - 1) 1 (Ì _) (by omega)))
 rw[if_pos (by simpa using e)]
 exact⟨e,rfl⟩
open PySem.W in
def Ku{prog:Program}{w:World}{A:Around}{E:Value->Shared->Prop}{κ:SortKind}{it:Array Keyed}{n:Nat}{Q:Unit->SortSt->Shared->Prop}{G:Array Nat->Shared->Prop}{s:Shared}(h2:2<=n)(hmr:minRun' n n 0<=n)(hG:∀p' st' s',p'.size=n->arrOf st'=p'.map (kas_item it)->failedOf st'=none->G p' s'->Q () st' s')(h:(kas_count n (Ŏ (á n))).kasWp (kas_cmp prog w A κ it) (λr s'=>r.1=n/\G r.2 s') s) :
  kasC (model prog w) A E sortRuns' Q (kas_st κ it (Ŏ (á n))) s:=by
 obtain⟨r,rfl⟩:∃r,n=r+2:=⟨n - 2,by omega⟩
 have hrs:(Ŏ (á (r+2))).size=r+2:=by simp
 rw[sortRuns'_eq]
 refine kasC_bind (kasC_get ?_)
 dsimp only
 have hsz:(arrOf (kas_st κ it (Ŏ (á (r+2))))).size=r+2:=by
  show((Ŏ (á (r+2))).map (kas_item it)).size=_
  rw[Array.size_map,hrs]
 simp only[hsz]
 refine kasC_bind (kasC_range ?_)
 show kasC _ _ _ (forIn (0::1::List.range' 2 r) _ _) _ _ _
 refine kasC_cons ?_
 dsimp only
 rw[if_neg (by omega)]
 simp only[Nat.sub_zero,Nat.zero_add]
 refine kasC_bind (kas_count_ (by omega) (by rw[hrs];exact Ì _) (λm p' s' hm1 hm2 hp hg=>?_) h)
 have hps:p'.size=r+2:=hp.trans hrs
 obtain⟨e,hg⟩:=hg
 have e':m=r+2:=e
 subst e'
 dsimp only
 rw[if_neg (by omega)]
 refine kasC_bind (kasC_get ?_)
 rw[show(pendingOf (kas_st κ it p')).back?=none from rfl]
 dsimp only
 refine kasC_bind (kasC_modify (kasC_pure ?_))
 show kasC _ _ _ (forIn (1::List.range' 2 r) _ _) _ _ _
 refine kasC_cons ?_
 dsimp only
 rw[if_pos (Ì _)]
 refine kasC_pure ?_
 dsimp only
 refine kasC_bind (kasC_range ?_)
 show kasC _ _ _ (forIn (0::1::List.range' 2 r) _ _) _ _ _
 refine kasC_cons ?_
 refine kasC_bind (kasC_get ?_)
 rw[if_pos (show(pendingOf (setPending (kas_st κ it p') ((pendingOf (kas_st κ it p')).push (0,r+2,0)))).size<=1 from Ì 1)]
 refine kasC_pure ?_
 dsimp only
 exact kasC_pure (hG p' _ _ hps rfl rfl hg)
def Srt(ts:List Tie):Prop:=ts.length<64\/ts.length=300/\∀i j,i<=j->j<ts.length->aV (ts.getD i (0,0))<=aV (ts.getD j (0,0))
def Srt.lt{ts:List Tie}:Srt ts->ts.length<512
 |.inl h=>by omega
 |.inr h=>by omega
def Dq{a:Addr}{us:List Value}{ts:List Tie}{n:Nat}{P:PySem.Fin->Shared->Prop}(ho:s.heap.get? a=some (seqObj "list" us.toArray n))(hp:Paired (jc s.heap) us ts)(hn:∀t∈ts,yt t)(h64:Srt ts)(h:∀p:List Nat,p.Perm (á us.length)->(∀i j,i<=j->j<us.length->aV (ts.getD (p.getD i 0) (0,0))<=aV (ts.getD (p.getD j 0) (0,0))) ->
   P (.done (.ret .none)) { s with heap:=sortedHeap s.heap a us (p.map λi=>us.getD i ý).toArray }) :
  wpAny (model prog w) A (Builtin.«list.sort» ⟨[.ref a],[]⟩) P E s:=by
 have hlen:=hp.length
 have hbig:=h64.lt
 have h24:=ì
 rw[list_sort_plain]
 have ha:a<s.heap.objs.size:=Ç ho
 refine Â (listItems_at ho rfl ?_)
 refine Â (listUpdate_at ho rfl ?_ (by rw[Ï,ì];omega) (ä _))
 obtain⟨e1,ho1⟩:∃e1,(s.heap.update a (Ù λ_=>(#[]:Array Value))).get? a=some (seqObj "list" #[] e1):=⟨_,get?_update_seq ho (λ_=>#[])⟩
 refine Â (seqEpoch_at ho1 rfl ?_)
 refine Â (wpAny_newTuple ?_ (by show us.length<=_;rw[ì];omega))
 refine Â (wpAny_newList ?_ (ä _))
 refine ö ?_
 have ho6:(((s.heap.update a (Ù λ_=>(#[]:Array Value))).push (seqObj "tuple" us.toArray 0)).push (seqObj "list" #[] 0)).get? a=some (seqObj "list" #[] e1):=by
  rw[Ş _ _ _ (by rw[size_push',ħ];exact ß (Ā ha)),Ş _ _ _ (by rw[ħ];exact ß ha)]
  exact ho1
 have kept:∀b o,s.heap.get? b=some o->o.cls=.type "tuple"->(((s.heap.update a (Ù λ_=>(#[]:Array Value))).push (seqObj "tuple" us.toArray 0)).push (seqObj "list" #[] 0)).get? b=some o:=λb o q hc=>by
  have hlt:b<s.heap.objs.size:=Ç q
  have hne:b≠a:=λz=>by
   rw[z,ho] at q
   cases q
   have z2:(ć "list")=ć "tuple":=hc
   injection z2 with z3
   exact absurd z3 (by decide)
  rw[Ş _ _ _ (by rw[size_push',ħ];exact ß (Ā hlt)),Ş _ _ _ (by rw[ħ];exact ß hlt),Heap.get?_update_ne _ _ _ _ hne]
  exact q
 show wpAny (model prog w) A _ P E { s with heap:=((s.heap.update a (Ù λ_=>(#[]:Array Value))).push (seqObj "tuple" us.toArray 0)).push (seqObj "list" #[] 0) }
 dsimp only
 have hsz:us.toArray.size=us.length:=by simp
 have hp6:Paired (jc (((s.heap.update a (Ù λ_=>(#[]:Array Value))).push (seqObj "tuple" us.toArray 0)).push (seqObj "list" #[] 0))) us ts:=Paired.Ii hp λu t x=>x.keep kept
 by_cases h2:us.toArray.size<2
 ·rw[if_pos h2,if_pos h2]
  refine Â (Ê ?_)
  rw[StateT.run_pure]
  refine Â (Ê ?_)
  dsimp only
  have eout:(arrOf (SortSt.mk' general' (us.toArray.zip us.toArray) #[] 7 none)).map (·.2)=((á us.length).map λi=>us.getD i ý).toArray:=by
   rw[iJ]
   show(us.toArray.zip us.toArray).map (·.2)=us.toArray
   apply Array.toList_inj.mp
   simp
   exact Te us
  rw[eout]
  refine Â (seqEpoch_at ho6 rfl ?_)
  refine Â (listUpdate_at ho6 rfl ?_ (ä _) (by rw[Ï,Ã,List.length_range,ì];omega))
  simp only[bne_self_eq_false,Ĥ,if_false]
  refine Ê (h _ (List.Perm.refl _) λi j hij hj=>?_)
  have:i=j:=by omega
  subst this
  exact Int.le_refl _
 ·rw[if_neg h2,if_neg h2]
  have h2':2<=us.length:=by omega
  obtain⟨fs,hk,hfl,hfi⟩:=Je (s:={ s with heap:=((s.heap.update a (Ù λ_=>(#[]:Array Value))).push (seqObj "tuple" us.toArray 0)).push (seqObj "list" #[] 0) }) hp6
  refine Â (W.kat_kind (T:=.type "int") hk (by omega) (λv hv=>by obtain⟨i,t,rfl⟩:=hfi v hv;exact W.Looks.of_pure rfl) rfl ?_)
  have hcmp:∀i j C,i<us.length->j<us.length->C (decide (aV (ts.getD i (0,0))<aV (ts.getD j (0,0)))) { s with heap:=((s.heap.update a (Ù λ_=>(#[]:Array Value))).push (seqObj "tuple" us.toArray 0)).push (seqObj "list" #[] 0) } ->
    W.kas_cmp prog w A (tuples' true) (us.toArray.zip us.toArray) i j C { s with heap:=((s.heap.update a (Ù λ_=>(#[]:Array Value))).push (seqObj "tuple" us.toArray 0)).push (seqObj "list" #[] 0) }:=λi j C hi hj hC=>by
   unfold W.kas_cmp
   rw[W.kat_item rfl,W.kat_item rfl]
   have key:∀k,k<us.length->jc (((s.heap.update a (Ù λ_=>(#[]:Array Value))).push (seqObj "tuple" us.toArray 0)).push (seqObj "list" #[] 0)) (us.getD k ý) (ts.getD k (0,0))/\yt (ts.getD k (0,0)):=λk hk=>by
    have hk':k<ts.length:=by omega
    have ek:ts.getD k (0,0)=ts[k]:=by simp[hk']
    obtain⟨u,eu,pu⟩:=T3 hp6 (i:=k) (b:=ts[k]) (by simp[hk'])
    have eu':us.getD k ý=u:=by rw[ò,eu];rfl
    rw[ek,eu']
    exact⟨pu,hn _ (Ū hk')⟩
   exact Il (key i hi).1 (key j hj).1 (key i hi).2 (key j hj).2 hC
  have G:W.kasC (model prog w) A E sortRuns' (λ_ st' s'=>∃p:Array Nat,s'={ s with heap:=((s.heap.update a (Ù λ_=>(#[]:Array Value))).push (seqObj "tuple" us.toArray 0)).push (seqObj "list" #[] 0) }/\arrOf st'=p.map (W.kas_item (us.toArray.zip us.toArray))/\failedOf st'=none/\NfSort.Pm us.length p/\NfSort.Up (λi=>aV (ts.getD i (0,0))) p us.length) (W.kas_st (tuples' true) (us.toArray.zip us.toArray) (Ŏ (á us.length))) { s with heap:=((s.heap.update a (Ù λ_=>(#[]:Array Value))).push (seqObj "tuple" us.toArray 0)).push (seqObj "list" #[] 0) }:=by
   rcases h64 with h64|⟨h64,hs⟩
   ·exact W.kas_runs (G:=λp s'=>s'={ s with heap:=((s.heap.update a (Ù λ_=>(#[]:Array Value))).push (seqObj "tuple" us.toArray 0)).push (seqObj "list" #[] 0) }/\NfSort.Pm us.length p/\NfSort.Up (λi=>aV (ts.getD i (0,0))) p us.length) h2' (by omega) (λp' st' s' a1 a2 a3 a4=>⟨p',a4.1,a2,a3,a4.2⟩)
     (NfSort.vg hcmp (NfSort.bJ (λp hp=>⟨rfl,hp⟩) (NfSort.Kh (by omega))))
   ·have hu:NfSort.Up (λi=>aV (ts.getD i (0,0))) (Ŏ (á us.length)) us.length:=λi j hij hj=>by
     unfold NfSort.kk
     have eg:∀k,k<us.length->(Ŏ (á us.length)).getD k 0=k:=λk hk=>by simp[Array.getD,hk]
     rw[eg i (by omega),eg j hj]
     exact hs i j hij (by omega)
    exact Ku (G:=λp s'=>s'={ s with heap:=((s.heap.update a (Ù λ_=>(#[]:Array Value))).push (seqObj "tuple" us.toArray 0)).push (seqObj "list" #[] 0) }/\NfSort.Pm us.length p/\NfSort.Up (λi=>aV (ts.getD i (0,0))) p us.length) h2' (by rw[hlen,h64];decide +kernel) (λp' st' s' a1 a2 a3 a4=>⟨p',a4.1,a2,a3,a4.2⟩)
     (NfSort.vg (G:=λr s'=>r.1=us.length/\s'={ s with heap:=((s.heap.update a (Ù λ_=>(#[]:Array Value))).push (seqObj "tuple" us.toArray 0)).push (seqObj "list" #[] 0) }/\NfSort.Pm us.length r.2/\NfSort.Up (λi=>aV (ts.getD i (0,0))) r.2 us.length) hcmp (NfSort.bJ (λr ⟨e1,e2⟩=>⟨e1,rfl,by rw[e2];exact⟨Array.Perm.refl _,hu⟩⟩) (Sq (Array.Perm.refl _) (by omega) hu)))
  have est:SortSt.mk' (tuples' true) (us.toArray.zip us.toArray) #[] 7 none=W.kas_st (tuples' true) (us.toArray.zip us.toArray) (Ŏ (á us.length)):=by
   have e:=W.kas_range (us.toArray.zip us.toArray)
   rw[show(us.toArray.zip us.toArray).size=us.length by simp] at e
   show SortSt.mk' (tuples' true) (us.toArray.zip us.toArray) #[] 7 none=SortSt.mk' (tuples' true) ((Ŏ (á us.length)).map (W.kas_item (us.toArray.zip us.toArray))) #[] 7 none
   rw[e]
  have eT:tuples' (ć "int" != ć "tuple")=tuples' true:=rfl
  rw[eT,est]
  refine Â (ĩ G ?_ λ_ _ e=>e)
  rintro⟨⟨⟩,st'⟩ s' ⟨p,rfl,har,hf,hpm,hup⟩
  dsimp only
  have hout:=W.kat_snds (ks:=us) (vs:=us) rfl har
  rw[hout]
  have hsz2:p.size=us.length:=hpm.size
  refine Â (seqEpoch_at ho6 rfl ?_)
  refine Â (listUpdate_at ho6 rfl ?_ (ä _) (by rw[Ï,Ã,ċ,hsz2,ì];omega))
  rw[hf]
  simp only[bne_self_eq_false,Ĥ,if_false]
  refine Ê (h p.toList ?_ λi j hij hj=>?_)
  ·have:=Array.perm_iff_toList_perm.mp hpm
   simpa using this
  ·have q:=hup i j hij hj
   unfold NfSort.kk at q
   have eg:∀k,p.toList.getD k 0=p.getD k 0:=λk=>by
    rw[NfSort.getD_eq,ò]
    simp
   rw[eg,eg]
   exact q
def rA{l:Addr}{vs:List Value}{Q:List Value->Shared->Prop}(hl:IsTup s.heap l vs.toArray)(h:Q vs { s with heap:=(s.heap.push (seqObj "list" #[] 0)).update s.heap.objs.size (Ù (·++vs.toArray)) })(hsz:vs.length<=sizeLine) :
  wpAny (model prog w) A (collect (.ref l)) Q E s:=by
 obtain⟨o,ho,hc,n,hd⟩:=id hl
 unfold collect
 refine Â (wpAny_runValue (codeAny_builtin entry_proto_collect' ?_))
 show wpAny _ _ (do again (.builtin "list.__iadd__" ⟨[←newList [],.ref l],[]⟩)) _ _ s
 refine Â (wpAny_newList (Ê ⟨Code.quiet_builtin _ (by decide +kernel),codeAny_builtin entry_list_iadd' ?_⟩))
 show wpAny _ _ (Œ (.ref s.heap.objs.size) (.ref l) (.ref s.heap.objs.size)) _ _ { s with heap:=s.heap.push (seqObj "list" #[] 0) }
 unfold Œ
 have ho':(s.heap.push (seqObj "list" #[] 0)).get? l=some o:=Æ _ ho
 refine Â (wpAny_typeOf (T:="tuple") ⟨o,ho',hc⟩ ?_)
 have ht:(ć "tuple" == ć "tuple")=true:=by rfl
 rw[if_pos (by rw[ht];simp)]
 refine Â (listItems_at ho' hd ?_)
 refine Â (listItems_at (xs:=#[]) (n:=0) (Õ _ rfl) rfl ?_)
 rw[if_neg (by simp)]
 refine Â (listUpdate_at (xs:=#[]) (n:=0) (Õ _ rfl) rfl ?_ (ä _) (by show(#[]++vs.toArray).size<=sizeLine+1;simp only[Array.size_append,Ï,List.length_nil];omega))
 refine Ê ?_
 show wpAny (model prog w) A (do
   let o ←load s.heap.objs.size
   match o.data with
   |.seq xs _=>pure xs.toList
   |_=>unsupported "internal:collect") Q E { s with heap:=(s.heap.push (seqObj "list" #[] 0)).update s.heap.objs.size (Ù (·++vs.toArray)) }
 refine Â (wpAny_load (get?_update_seq (Õ _ rfl) _) ?_)
 show wpAny _ _ (pure ((#[]:Array Value)++vs.toArray).toList) Q E _
 rw[show((#[]:Array Value)++vs.toArray).toList=vs by simp]
 exact Ê h
def uw{l:Addr}{us:List Value}{ts:List Tie}{Q:Value->Shared->Prop}(hl:s.heap.IsList l us.toArray\/IsTup s.heap l us.toArray)(hp:Paired (jc s.heap) us ts)(hn:∀t∈ts,yt t)(h64:Srt ts)(h:∀p:List Nat,p.Perm (á us.length)->(∀i j,i<=j->j<us.length->aV (ts.getD (p.getD i 0) (0,0))<=aV (ts.getD (p.getD j 0) (0,0))) ->
   Q (.ref (s.heap.objs.size+1)) { s with heap:=sortedAll s.heap us (p.map λi=>us.getD i ý).toArray }) :
  wpAny (model prog w) A (call (.builtin "sorted") [.ref l]) Q E s:=by
 have h24:=ì
 have hlen:=hp.length
 have hbig:=h64.lt
 refine Calls.call_function_entry kind_sorted plain_sorted entry_sorted (args_sorted1 _) ?_
 unfold Builtin.«sorted»
 refine Â (m:=checkCount "sorted" 1 1 _) (Ê ?_)
 have hsz:((s.heap.push (seqObj "list" #[] 0)).update s.heap.objs.size (Ù (·++us.toArray))).objs.size=s.heap.objs.size+1:=by
  rw[ħ,size_push']
 have hoL:(((s.heap.push (seqObj "list" #[] 0)).update s.heap.objs.size (Ù (·++us.toArray))).push (seqObj "list" us.toArray 0)).get? (s.heap.objs.size+1)=some (seqObj "list" us.toArray 0):=by
  rw[←hsz];exact Õ _ rfl
 have keep:∀b o,s.heap.get? b=some o->(((s.heap.push (seqObj "list" #[] 0)).update s.heap.objs.size (Ù (·++us.toArray))).push (seqObj "list" us.toArray 0)).get? b=some o:=λb o q=>by
  have hlt:b<s.heap.objs.size:=Ç q
  rw[Ş _ _ _ (by rw[hsz];exact ß (Ā hlt)),Heap.get?_update_ne _ _ _ _ (ß hlt),Ş _ _ _ (ß hlt)]
  exact q
 have go:∀{Q':List Value->Shared->Prop},Q' us { s with heap:=(s.heap.push (seqObj "list" #[] 0)).update s.heap.objs.size (Ù (·++us.toArray)) }->wpAny (model prog w) A.in1 (collect (.ref l)) Q' (λe s'=>E e s') s:=λ{Q'} hq=>by
  rcases hl with hl|hl
  ·exact collect_list hl hq (by omega)
  ·exact rA hl hq (by omega)
 refine Â (go ?_)
 refine Â (wpAny_newList ?_ (by omega))
 show wpAny _ _ _ _ _ { s with heap:=((s.heap.push (seqObj "list" #[] 0)).update s.heap.objs.size (Ù (·++us.toArray))).push (seqObj "list" us.toArray 0) }
 rw[hsz]
 refine Â (ö (Ŗ slot_list_sort ⟨_,hoL,rfl⟩ entry_list_sort (Dq hoL (Paired.Ii hp λu t x=>x.keep λa o e _=>keep a o e) hn h64 λp a1 a2=>⟨_,rfl,?_⟩) (args_list_sort _)))
 exact Ê ⟨_,rfl,h p a1 a2⟩
end
section
variable {X:Cx}
def wA{ts:List Tie}{p:List Nat}(hp:p.Perm (á ts.length))(h:∀i j,i<=j->j<ts.length->aV (ts.getD (p.getD i 0) (0,0))<=aV (ts.getD (p.getD j 0) (0,0))) :
  (p.map λi=>ts.getD i (0,0)).Perm ts/\(p.map λi=>ts.getD i (0,0)).Pairwise (λa b=>aV a<=aV b):=by
 refine⟨?_,?_⟩
 ·have q:=hp.map λi=>ts.getD i (0,0)
  rw[iJ] at q
  exact q
 ·have hl:p.length=ts.length:=by simpa using hp.length_eq
  rw[List.pairwise_iff_getElem]
  intro i j hi hj hij
  rw[Ã] at hi hj
  have q:=h i j (by omega) (by omega)
  have ei:p.getD i 0=p[i]:=by simp[hi]
  have ej:p.getD j 0=p[j]:=by simp[hj]
  rw[ei,ej] at q
  simpa using q
def vN:bC X (.builtin "sorted") (λxs H Q=>∃(p:Addr) (vs:List V) (ts:List Tie),xs=[.ref p]/\(SqL X.K H p vs\/SqT X.K H p vs)/\Prs H vs ts/\(∀t∈ts,yt t)/\Srt ts /\
  ∀l ws us,H l=none->Prs H ws us->us.Perm ts->us.Pairwise (λa b=>aV a<=aV b)->Q (.ref l) (upd H l (.lst ws))):=by
 intro pins s σ H xs us Q I r h
 obtain⟨p,vs,ts,rfl,hp,hpr,hn,h64,q⟩:=h
 obtain⟨u,rfl,rx⟩:=vals1 r
 cases rx
 have h24:=ì
 have fin:∀its:List Value,Vals vs its->(s.heap.IsList p its.toArray\/IsTup s.heap p its.toArray)->wpAny (model X.prog X.w) X.A (call (.builtin "sorted") [.ref p]) (EP X pins σ Q) X.xe s:=λits rv hl=>by
  have hpv:=I.pairs hpr rv
  have hlen:=hpr.length
  have hlen2:=rv.length
  have hbig:=h64.lt
  refine uw hl hpv hn h64 λpp hpp hord=>?_
  have eits:its.length=ts.length:=by omega
  rw[eits] at hpp hord
  obtain⟨hperm,hpw⟩:=wA hpp hord
  have hlt:∀i∈pp,i<ts.length:=λi hi=>Ķ.mp (hpp.mem_iff.mp hi)
  have hw:=GZ hpr V.non (0,0) pp hlt
  have hvv:Vals (pp.map λi=>vs.getD i V.non) (pp.map λi=>its.getD i ý):=GZ rv V.non ý pp λi hi=>by have:=hlt i hi;omega
  obtain⟨e,he⟩:=sortedAll_at s.heap its (pp.map λi=>its.getD i ý).toArray
  refine⟨.ref (s.heap.objs.size+1),upd H (s.heap.objs.size+1) (.lst (pp.map λi=>vs.getD i V.non)),I.laid (t':=s.toks) (λb o eb=>sortedAll_old eb) (Į _) ?_,rfl,q _ _ _ (I.hok.fresh (Į _)) hw hperm hpw⟩
  refine⟨?_,_,e,hvv,he⟩
  have hl3:pp.length=ts.length:=by simpa using hpp.length_eq
  rw[Ã]
  omega
 rcases hp with hp|hp
 ·obtain⟨its,rv,pl,hz⟩:=I.list hp
  exact fin its rv (.inl pl.isList)
 ·obtain⟨its,rv,pl,hz⟩:=I.tuple hp
  exact fin its rv (.inr pl)
def pD(t:Tie):PyData:=.tuple [.int t.1,.int t.2]
def IK:∀ts:List Tie,Ī (ts.map pD)=true
 |[]=>rfl
 |t::ts=>by
  show(PyData.canLay0 (pD t)&&Ī (ts.map pD))=true
  rw[IK ts]
  rfl
def xW:∀ts:List Tie,ė (ts.map pD)<=1
 |[]=>ä _
 |t::ts=>by
  show max (PyData.depth (pD t)) (ė (ts.map pD))<=1
  have h1:=xW ts
  have h2:PyData.depth (pD t)=1:=rfl
  omega
inductive DatV(K:Ñ)(H:Hp):V->PyData->Prop
 |lst {a:Addr}{vs:List V}{ts:List Tie}:SqL K H a vs->Prs H vs ts->DatV K H (.ref a) (.list (ts.map pD))
 |tup {a:Addr}{vs:List V}{ts:List Tie}:SqT K H a vs->Prs H vs ts->DatV K H (.ref a) (.tuple (ts.map pD))
 |web {a b:Addr}{n:Int}{vs:List V}{ts:List Tie}:SqT K H a [.int n,.ref b]->SqT K H b vs->Prs H vs ts->DatV K H (.ref a) (.tuple [.int n,.tuple (ts.map pD)])
end
end L2
namespace L2
open PySem PySem.Spec PyProof.Rows HT
section
variable {prog:Program}{w:World}{A:Around}{E:Value->Shared->Prop}{s:Shared}
end
section
variable {X:Cx}{e:Expr}{te:TE}{p1 p2 p3 pos:Pos}
end
end L2
namespace PySem
open Sem (wp)
open AutoSeq1 (wpAny_loadPart')
section
variable {prog:Program}{w:World}{A:Around}{E:Value->Shared->Prop}{s:Shared}
end
end PySem
namespace L2
open PySem PySem.Spec PyProof.Rows
section
variable {κ:Type} [DecidableEq κ]
end
section
variable {P:Program}{w:World}{H:Hp}{h:Heap}{a:Addr}
def Tv{u:HO}(ok:HOk P w H h)(e:Rd H a u):aU P w H h a u:=e.ok ok
def U3{kvs:List (Key×V)}(ok:HOk P w H h)(e:Rd H a (.dK kvs)):kvs.length<=sizeLine/\(a == sysModules)=false/\∃vs,KV kvs vs/\h.DictOf (jl P w) a vs :=
 show aU P w H h a (.dK kvs) from Tv ok e
def U4{kvs:List (Key×V)}(ok:HOk P w H h)(e:H a=some (.dK kvs)):kvs.length<=sizeLine/\(a == sysModules)=false/\∃vs,KV kvs vs/\h.DictOf (jl P w) a vs:=U3 ok (.inl e)
end
section
variable {X:Cx}{pins:List (Addr×Obj)}{σ:St}{H:Hp}{s:Shared}{a:Addr}{y v:V}{u r:Value}{o:Option V}{A:Around}{E:Value->Shared->Prop}
def Inv.big(I:Inv X pins σ H s):sysModules<s.heap.objs.size:=by
 have h:mainGlobals<s.heap.objs.size:=(I.mod.glob.keeps I.bk).lt
 exact Nat.lt_trans (by decide) h
end
section
variable {X:Cx}{pins:List (Addr×Obj)}{σ:St}{H:Hp}{s:Shared}{a:Addr}{kvs:List (Key×V)}{k:Key}{u:Value}{A:Around}{E:Value->Shared->Prop}
end
section
variable {X:Cx}{o i e value:Expr}{pos pos' tpos:Pos}{td ty tv:TE}
end
def JG{P:Program}{w:World}{H:Hp}(h:Heap)(hb:sysModules<h.objs.size):aU P w H (h.push { cls:=.type "dict",data:=.dict #[] }) h.objs.size (.dK []) :=
 ⟨ä _,beq_eq_false_iff_ne.mpr (ă (ß hb)),[],.nil,Heap.DictOf.new h⟩
def Ph:TE:=λ_ H Q=>∀p,H p=none->Q (.ref p) (upd H p (.dK []))
section
variable {X:Cx}{pos:Pos}
def G8:PE X (.Dict [] [] pos) Ph:=λpins s σ H Q I h =>
 wpAny_Dict_empty ⟨.ref s.heap.objs.size,_,I.laid (a:=s.heap.objs.size) (o:=.dK []) (t':=s.toks) (λ_ _ q=>Æ _ q) (Ì _) (JG s.heap I.big),rfl,h _ (I.hok.fresh (Ì _))⟩
end
structure M1(X:Cx)(o:Expr)(m:Str)(apos:Pos)(e:Expr)(cpos:Pos):Prop where
 base:attributeBase o m X.env (eval o X.env)=eval o X.env
 few:((backTo cpos (starEach [e] X.env)).all (λx=>!x.1)&&(backToKw cpos (keywordEach [] X.env)).all (λx=>x.1.isSome)
 &&decide (([e]:List Expr).length+([]:List Keyword).length+(if ([]:List Keyword).isEmpty then 0 else 1)<30))=true
 line:(apos.endLine == cpos.line)=true
 trees:backTo cpos (starEach [e] X.env)=[(false,eval e X.env)]
structure M2(X:Cx)(o:Expr)(m:Str)(apos:Pos)(e f:Expr)(cpos:Pos):Prop where
 base:attributeBase o m X.env (eval o X.env)=eval o X.env
 few:((backTo cpos (starEach [e,f] X.env)).all (λx=>!x.1)&&(backToKw cpos (keywordEach [] X.env)).all (λx=>x.1.isSome)
 &&decide (([e,f]:List Expr).length+([]:List Keyword).length+(if ([]:List Keyword).isEmpty then 0 else 1)<30))=true
 line:(apos.endLine == cpos.line)=true
 trees:backTo cpos (starEach [e,f] X.env)=[(false,eval e X.env),(false,eval f X.env)]
section
variable {X:Cx}{pins:List (Addr×Obj)}{σ:St}{H:Hp}{s:Shared}{a:Addr}{y d:V}{u r:Value}{o:Option V}{A:Around}{E:Value->Shared->Prop}
end
section
variable {X:Cx}{o e f:Expr}{apos cpos:Pos}{td ty tx:TE}
end
section
variable {X:Cx}{pins:List (Addr×Obj)}{σ:St}{H:Hp}{s:Shared}{a:Addr}{kvs:List (Key×V)}{A:Around}{E:Value->Shared->Prop}
end
section
variable {X:Cx}{pins:List (Addr×Obj)}{σ:St}{H:Hp}{s:Shared}{a:Addr}{y:V}{u:Value}{A:Around}{E:Value->Shared->Prop}
end
section
variable {prog:Program}{w:World}{A:Around}{E:Value->Shared->Prop}{s:Shared}
end
section
variable {X:Cx}
end
section
variable {X:Cx}
def iD(l:List Int):PyData:=.list (l.map Í)
inductive DatL(K:Ñ)(H:Hp):V->PyData->Prop
 |flt {a:Addr}{l:List Int}:SqL K H a (l.map V.int)->DatL K H (.ref a) (iD l)
 |lists {a:Addr}{as:List Addr}{ls:List (List Int)}:SqL K H a (as.map V.ref)->Paired (λ(a:Addr) (l:List Int)=>SqL K H a (l.map V.int)) as ls->DatL K H (.ref a) (.list (ls.map iD))
end
end L2
namespace PySem
open PyProof.Rows
def gb(h:Heap)(e:Addr):Prop:=∃oe vs,h.get? e=some oe/\oe.data=.fields vs/\vs[2]?=some .none
section
variable {M:Model}{A:Around}{E:Value->Shared->Prop}{s:Shared}{base:Heap}{env:Env}{outer:List Env}{L e:Addr}{Q:Unit->Shared->Prop}
def gb.other{h:Heap}{T:Addr}{f:Obj->Obj}(x:gb h e)(ne:T≠e):gb (h.update T f) e:=by
 obtain⟨oe,vs,a,b,c⟩:=x
 exact⟨oe,vs,(æ _ _ ne).trans a,b,c⟩
def xq{oe:Obj}{vs:Array Value}{hd a0:Value}{hn:Bool}(fr:A.frames=some (env::outer))(fl:s.heap.FunFrames base (env::outer))(ef:env.frame=some L)(ge:s.heap.get? e=some oe)(kb:base.StaysIn s.heap)(bn:base.get? e=none)(da:oe.data=.fields vs)(sz:1<vs.size)(v0:vs[0]?=some a0)(v2:vs[2]?=some .none)(q:∀g,Heap.NotedW base (env::outer) e oe.cls a0 (rawInt L) s.heap g->gb g e->Q () { s with heap:=g }) :
  wpAny M A (do let a ←frameOf env;let pl ←entryPlaceOf L hn;let b ←EntryCells.newEntry hd a .none (rawInt L) .none pl;setField (.ref e) 1 b) Q E s:=by
 have ne:e∉(env::outer).filterMap (·.frame):=λz=>by
  obtain⟨_,o,eo,nf⟩:=fl.mem z
  rw[ge] at eo
  cases eo
  exact nf vs da
 refine Â (wpAny_frameOf_fun fr fl ef λg1 s1=>Â (wpAny_entryPlaceOf λpl hp=>?_))
 unfold EntryCells.newEntry newFields
 refine Â (Ŀ ?_ (hp.sizeOk5 _ _ _ _ _))
 generalize eT:({ cls:=.type "traceback",dict:=none,data:=.fields ([hd,.ref L,.none,rawInt L,.none]++(if pl.isEmpty then Ë 6 ý else pl)).toArray }:Obj)=oT
 have dT:oT.data=.fields ([hd,.ref L,.none,rawInt L,.none]++(if pl.isEmpty then Ë 6 ý else pl)).toArray:=by rw[←eT]
 have g1e:g1.get? e=some oe:=(s1.2.1 e ne).trans ge
 have kb1:base.StaysIn g1:=λb o eb=>(s1.2.1 b λz=>by rw[(fl.mem z).1] at eb;cases eb).trans (kb b o eb)
 have g2e:(g1.push oT).get? e=some oe:=Æ _ g1e
 refine wpAny_setField g2e da sz ?_
 have nT:g1.objs.size≠e:=ł (Ç g1e)
 have d3:=Obj.data_mapFields da (·.setIfInBounds 1 (ü g1.objs.size))
 have e3:=ğ (Obj.mapFields (·.setIfInBounds 1 (ü g1.objs.size))) g2e (Obj.isFreed_of_fields d3)
 have nfT:oT.isFreed=false:=Obj.isFreed_of_fields dT
 have gT:((g1.push oT).update e (Obj.mapFields (·.setIfInBounds 1 (ü g1.objs.size)))).get? g1.objs.size=some oT:=(æ _ _ (ă nT)).trans (Õ _ nfT)
 have keep:∀b o,b≠e->g1.get? b=some o->((g1.push oT).update e (Obj.mapFields (·.setIfInBounds 1 (ü g1.objs.size)))).get? b=some o:=λb o nb eb=>(æ _ _ (ă nb)).trans (Æ _ eb)
 have rec0:∀b o,s.heap.get? b=some o->(∀vs,o.data≠.fields vs)->b≠e:=λb o eb nf z=>by
  rw[z,ge] at eb
  cases eb
  exact nf vs da
 refine q _ ⟨λb o eb=>keep b o (λz=>by rw[z,bn] at eb;cases eb) (kb1 b o eb),fl.of_keeps λb o eb nf=>?_,⟨_,_,g1.objs.size,oT,_,e3,⟨Obj.cls_mapFields _ _,?_⟩,d3,?_,kb1.fresh,nT,gT,dT,?_⟩,λb o eb nf=>?_⟩ ⟨_,_,e3,d3,?_⟩
 ·obtain⟨sl,z⟩:=s1.2.2 b o eb
  exact⟨_,keep b _ (rec0 b o eb nf) z,rfl⟩
 ·rw[Array.getElem?_setIfInBounds_ne (by decide)]
  exact v0
 ·simp[sz]
 ·first|(simp;done)|(rcases hp with rfl|⟨_,_,_,_,_,_,_,rfl⟩ <;> simp)
 ·obtain⟨sl,z⟩:=s1.2.2 b o eb
  exact⟨sl,keep b _ (rec0 b o eb nf) z⟩
 ·rw[Array.getElem?_setIfInBounds_ne (by decide)]
  exact v2
def Ib{oe:Obj}{vs:Array Value}{a0:Value}(fr:A.frames=some (env::outer))(fl:s.heap.FunFrames base (env::outer))(ef:env.frame=some L)(ge:s.heap.get? e=some oe)(kb:base.StaysIn s.heap)(bn:base.get? e=none)(da:oe.data=.fields vs)(v1:vs[1]?=some .none)(v0:vs[0]?=some a0)(v2:vs[2]?=some .none)(q:∀g,Heap.NotedW base (env::outer) e oe.cls a0 (rawInt L) s.heap g->gb g e->Q () { s with heap:=g }):wpAny M A (noteFrame (.ref e) env) Q E s:=by
 unfold noteFrame
 simp only[ef]
 refine Â (Ĳ ge da v1 ?_)
 rw[if_neg (by decide)]
 exact xq fr fl ef ge kb bn da (Ť.mp v1).1 v0 v2 q
def Cq{cls a0:Value}(fr:A.frames=some (env::outer))(fl:s.heap.FunFrames base (env::outer))(ef:env.frame=some L)(tr:s.heap.TracedW base e cls a0)(nc:gb s.heap e)(kb:base.StaysIn s.heap)(bn:base.get? e=none)(q:∀g,Heap.NotedW base (env::outer) e cls a0 (rawInt L) s.heap g->gb g e->Q () { s with heap:=g }):wpAny M A (noteFrame (.ref e) env) Q E s:=by
 obtain⟨oe,vs,T,oT,ts,ge,⟨rfl,v0⟩,da,v1,bT,nT,gT,dT,t3⟩:=tr
 obtain⟨oe',vs',ge',da',v2⟩:=nc
 rw[ge] at ge'
 cases ge'
 rw[da] at da'
 cases da'
 unfold noteFrame
 simp only[ef]
 refine Â (Ĳ ge da v1 ?_)
 rw[if_pos (show(ü T != ý)=true by simp)]
 refine Â (Ĳ gT dT t3 ?_)
 rw[if_neg (show ¬((ý == rawInt L)=true) by simp[rawInt])]
 refine Â (wpAny_setField gT dT (Ť.mp t3).1 ?_)
 have oth:∀b,b≠T->(s.heap.update T (Obj.mapFields (·.setIfInBounds 3 ý))).get? b=s.heap.get? b:=λb nb=>æ _ _ (ă nb)
 have rec0:∀b o,s.heap.get? b=some o->(∀vs,o.data≠.fields vs)->b≠T:=λb o eb nf z=>by
  rw[z,gT] at eb
  cases eb
  exact nf ts dT
 refine xq fr (fl.of_keeps λb o eb nf=>⟨o,(oth b (rec0 b o eb nf)).trans eb,rfl⟩) ef ((oth e (ă nT)).trans ge) (λb o eb=>(oth b λz=>by rw[z,bT] at eb;cases eb).trans (kb b o eb)) bn da (Ť.mp v1).1 v0 v2 λg ⟨x1,x2,x3,x4⟩ y=>?_
 exact q g ⟨x1,x2,x3,λb o eb nf=>x4 b o ((oth b (rec0 b o eb nf)).trans eb) nf⟩ y
def jk{l:List Env}{cls a0 fl:Value}(kb:base.StaysIn s.heap)(hl:s.heap.FunFrames base l)(tr:s.heap.TracedAtW base e cls a0 fl)(nc:gb s.heap e)(q:∀g,base.StaysIn g->g.FunFrames base l->g.TracedW base e cls a0->(∀b o,s.heap.get? b=some o->(∀vs,o.data≠.fields vs)->g.get? b=some o)->gb g e->Q () { s with heap:=g }):wpAny M A (setFlight (.ref e) none) Q E s:=by
 obtain⟨oe,vs,T,oT,ts,ge,hc,da,v1,bT,nT,gT,dT,t3⟩:=tr
 have sz:3<ts.size:=(Ť.mp t3).1
 have oth:∀b,b≠T->(s.heap.update T (Obj.mapFields (·.setIfInBounds 3 ((none:Option Addr).elim ý λf=>rawInt f)))).get? b=s.heap.get? b:=λb nb=>æ _ _ (ă nb)
 have rec0:∀b o,s.heap.get? b=some o->(∀vs,o.data≠.fields vs)->b≠T:=λb o eb nf z=>by
  rw[z,gT] at eb
  cases eb
  exact nf ts dT
 unfold setFlight
 refine Â (Ĳ ge da v1 ?_)
 rw[if_pos (show(ü T != ý)=true by simp)]
 refine wpAny_setField gT dT sz (q _ (λb o eb=>(oth b λz=>by rw[z,bT] at eb;cases eb).trans (kb b o eb)) (hl.of_keeps λb o eb nf=>⟨o,(oth b (rec0 b o eb nf)).trans eb,rfl⟩) ?_ (λb o eb nf=>(oth b (rec0 b o eb nf)).trans eb) (nc.other nT))
 exact⟨oe,vs,T,_,_,(oth e (ă nT)).trans ge,hc,da,v1,bT,nT,ğ _ gT (Obj.isFreed_of_fields (Obj.data_mapFields dT _)),Obj.data_mapFields dT _,by simp[sz]⟩
def Ei{oe:Obj}{vs:Array Value}{a0:Value}(fr:A.frames=some (env::outer))(fl:s.heap.FunFrames base (env::outer))(ef:env.frame=some L)(ge:s.heap.get? e=some oe)(kb:base.StaysIn s.heap)(bn:base.get? e=none)(da:oe.data=.fields vs)(v1:vs[1]?=some .none)(v0:vs[0]?=some a0)(v2:vs[2]?=some .none)(q:∀g,Heap.LeftW base (env::outer) e oe.cls a0 s.heap g->gb g e->Q () { s with heap:=g }):wpAny M A (leaving env (.ref e)) Q E s:=by
 unfold leaving
 refine Â (Ib fr fl ef ge kb bn da v1 v0 v2 λg ⟨x1,x2,x3,x4⟩ y=>jk x1 x2 x3 y λg2 y1 y2 y3 y4 y5=>q g2 ⟨y1,y2,y3,λb o eb nf=>?_⟩ y5)
 obtain⟨sl,z⟩:=x4 b o eb nf
 exact⟨sl,y4 b _ z nf⟩
def Ie{cls a0:Value}(fr:A.frames=some (env::outer))(fl:s.heap.FunFrames base (env::outer))(ef:env.frame=some L)(tr:s.heap.TracedW base e cls a0)(nc:gb s.heap e)(kb:base.StaysIn s.heap)(bn:base.get? e=none)(q:∀g,Heap.LeftW base (env::outer) e cls a0 s.heap g->gb g e->Q () { s with heap:=g }):wpAny M A (leaving env (.ref e)) Q E s:=by
 unfold leaving
 refine Â (Cq fr fl ef tr nc kb bn λg ⟨x1,x2,x3,x4⟩ y=>jk x1 x2 x3 y λg2 y1 y2 y3 y4 y5=>q g2 ⟨y1,y2,y3,λb o eb nf=>?_⟩ y5)
 obtain⟨sl,z⟩:=x4 b o eb nf
 exact⟨sl,y4 b _ z nf⟩
end
end PySem
namespace L2
open PySem PySem.Spec PyProof.Rows
def Wm(base:Heap)(l:List Env)(e:Addr)(cls a0:Value)(h:Heap):Prop:=base.StaysIn h/\base.get? e=none/\h.FunFrames base l/\h.TracedW base e cls a0/\gb h e
def CX1(P:Program)(w:World):CXT:=λouter H s E e s'=>∃(a:Addr) (cls a0:Value) (H1:Hp) (hb:Heap),e=.ref a/\s'.os=s.os/\AllBare s'.gens/\Un (frs outer) [] H H1 s.heap s'.heap/\HOk P w H1 hb/\Wm hb outer a cls a0 s'.heap /\
 (∀b o,s.heap.get? b=some o->H b=none->b∉frs outer->hb.get? b=some o)/\(∀b o,s.heap.get? b=some o->b∉frs outer->∃o',hb.get? b=some o')/\E cls none H1
structure Lets(X:Cx)(E:XK):Prop where
 xe:∀e s',wpAny (model X.prog X.w) X.A (leaving X.env e) (λ_ s''=>CX1 X.prog X.w X.outer X.H₀ X.s₀ E e s'') (λe' s''=>CX1 X.prog X.w X.outer X.H₀ X.s₀ E e' s'') s'->X.xe e s'
 stk:X.stack=X.env::X.outer
 fr:X.env.frame=some X.env.locals
 ex:X.ex=[]
def Ax{fs:List Addr}{H H1:Hp}{h h1 h2 hb:Heap}(u:Un fs [] H H1 h h1)(k1:∀b o,h.get? b=some o->H b=none->b∉fs->hb.get? b=some o)(k4:∀b o,h.get? b=some o->b∉fs->∃o',hb.get? b=some o')(st:hb.StaysIn h2)(fr:∀b∈fs,∃o,h1.get? b=some o/\∀vs,o.data≠.fields vs)(up:∀b o,h1.get? b=some o->(∀vs,o.data≠.fields vs)->∃sl,h2.get? b=some { o with slots:=sl }):Un fs [] H H1 h h2 where
 keep:=λb o e n hb' _=>st b o (k1 b o e n hb')
 slot:=λb o e n hb' hx=>by
  obtain⟨sl,e1⟩:=u.slot b o e n hb' hx
  obtain⟨o1,e2,nf⟩:=fr b hb'
  rw[e1] at e2
  cases e2
  obtain⟨sl2,e3⟩:=up b _ e1 nf
  exact⟨sl2,e3⟩
 free:=u.free
 there:=λb o e hx=>by
  by_cases hb':b∈fs
  ·obtain⟨o1,e2,nf⟩:=fr b hb'
   obtain⟨sl2,e3⟩:=up b _ e2 nf
   exact⟨_,e3⟩
  ·obtain⟨o',e'⟩:=k4 b o e hb'
   exact⟨o',st b o' e'⟩
 tups:=u.tups
 frzs:=u.frzs
 tbls:=u.tbls
def xR{h h' base hb:Heap}(k:∀b o,h.get? b=some o->h'.get? b=some o):∀{l:List Env},h.FunFrames base l->(∀b∈frs l,hb.get? b=none)->h'.FunFrames hb l
 |[],_,_=>trivial
 |env::r,hl,hn=>by
  obtain⟨hk,⟨L,o,hf,hn',ho,hd⟩,hr⟩:=hl
  have hL:L∈frs (env::r):=by unfold frs;rw[Ĭ,hf];exact Ö
  exact⟨hk,⟨L,o,hf,hn L hL,k _ _ ho,hd⟩,xR k hr λb hb'=>hn b (by
   unfold frs;rw[Ĭ,hf];exact Ô _ hb')⟩
def tE{h hb:Heap}{env:Env}{l:List Env}(x:h.FunFrames hb (env::l)):h.FunFrames hb l:=x.2.2
section
variable {X:Cx}{pins:List (Addr×Obj)}{σ:St}{H H1:Hp}{s:Shared}{E:XK}
def Inv.wZ(L:Lets X E)(I:Inv X pins σ H s){b:Addr}{o:Obj}(e:X.s₀.heap.get? b=some o)(h:b∉frs X.outer):b∉frs X.stack:=λz=>by
 rcases â.mp (I.pK b z) with z|z
 ·have h1:=Ç e
  have h2:=I.ok.above
  rw[z] at h1
  exact absurd (Û h1 h2) (ø _)
 ·exact h z
def Cr{h1 h2 hb:Heap}(L:Lets X E)(I:Inv X pins σ H s)(un:Un (frs X.stack) [] H H1 s.heap h1)(k1:∀b o,s.heap.get? b=some o->H b=none->b∉frs X.stack->hb.get? b=some o)(k4:∀b o,s.heap.get? b=some o->b∉frs X.stack->∃o',hb.get? b=some o')(f1:h1.FunFrames hb X.stack)(st:hb.StaysIn h2)(up:∀b o,h1.get? b=some o->(∀vs,o.data≠.fields vs)->∃sl,h2.get? b=some { o with slots:=sl }) :
  Un (frs X.outer) [] X.H₀ H1 X.s₀.heap h2/\(∀b o,X.s₀.heap.get? b=some o->X.H₀ b=none->b∉frs X.outer->hb.get? b=some o)/\(∀b o,X.s₀.heap.get? b=some o->b∉frs X.outer->∃o',hb.get? b=some o'):=by
 have nx:∀b:Addr,b∉X.ex:=λb=>by rw[L.ex];simp
 have sub:∀b∈frs X.outer,b∈frs X.stack:=λb hb'=>by
  rw[L.stk]
  unfold frs
  rw[Ĭ,L.fr]
  exact Ô _ hb'
 have K1:∀b o,X.s₀.heap.get? b=some o->X.H₀ b=none->b∉frs X.outer->hb.get? b=some o:=λb o e n hb' =>
  k1 b o (I.base.keep b o e n hb' (nx b)) (I.base.free b o e n (nx b)) (I.wZ L e hb')
 have K4:∀b o,X.s₀.heap.get? b=some o->b∉frs X.outer->∃o',hb.get? b=some o':=λb o e hb'=>by
  obtain⟨o',e'⟩:=I.base.there b o e (nx b)
  exact k4 b o' e' (I.wZ L e hb')
 refine⟨⟨λb o e n hb' _=>st b o (K1 b o e n hb'),λb o e n hb' _=>?_,λb o e n _=>?_,λb o e _=>?_,λb xs q=>un.tups b xs (I.base.tups b xs q),λb o u q=>un.frzs b o u (I.base.frzs b o u q),λb ps q=>?_⟩,K1,K4⟩
 ·obtain⟨sl,e1⟩:=I.base.slot b o e n hb' (nx b)
  obtain⟨sl1,e2⟩:=un.slot b _ e1 (I.base.free b o e n (nx b)) (sub b hb') (by simp)
  obtain⟨_,o1,e3,nf⟩:=f1.mem (sub b hb')
  rw[e2] at e3
  cases e3
  obtain⟨sl2,e4⟩:=up b _ e2 nf
  exact⟨sl2,e4⟩
 ·obtain⟨o',e'⟩:=I.base.there b o e (nx b)
  exact un.free b o' e' (I.base.free b o e n (nx b)) (by simp)
 ·by_cases hb':b∈frs X.stack
  ·obtain⟨_,o1,e3,nf⟩:=f1.mem hb'
   obtain⟨sl2,e4⟩:=up b _ e3 nf
   exact⟨_,e4⟩
  ·obtain⟨o',e'⟩:=K4 b o e (λz=>hb' (sub b z))
   exact⟨o',st b o' e'⟩
 ·obtain⟨m1,e1⟩:=I.base.tbls b ps q
  obtain⟨m2,e2⟩:=un.tbls b _ e1
  exact⟨m1++m2,by rw[e2,Array.append_assoc]⟩
def Hi(L:Lets X E):Passes (CX1 X.prog X.w) X E:=λpins σ H s e s' I h=>by
 obtain⟨a,cls,a0,H1,hb,rfl,os,bare,un,hok,⟨st,hn,fs,tr⟩,k1,k4,q⟩:=h
 refine L.xe _ _ (Ie (base:=hb) (by rw[I.ok.frames,L.stk]) (L.stk ▸ fs) L.fr tr.1 tr.2 st hn λh2 ⟨l1,l2,l3,l4⟩ l5=>?_)
 obtain⟨u,K1,K4⟩:=Cr L I un k1 k4 fs l1 l4
 exact⟨a,cls,a0,H1,hb,rfl,os.trans I.os,bare,u,hok,⟨l1,hn,tE l2,l3,l5⟩,K1,K4,q⟩
def Jg(I:Inv X pins σ H s):HOk X.prog X.w H (Ŵ s.heap (frs X.stack)):=λb u e=>by
 have nf:∀{c v},H c=some v->c∉frs X.stack:=λ{c v} q z=>by rw[I.ur c z] at q;cases q
 refine(I.hok b u e).stay (λc v hcv y=>W.hideAll_get _ y ?_) (λ_ q=>q) λ_ _ q=>q
 rcases hcv with rfl|z
 ·exact nf e
 ·exact nf z
def Dv(L:Lets X E)(I:Inv X pins σ H s){h':Heap}{e:Addr}{cls:Value}{args:List Value}(m:s.heap.MadeExcOf h' e cls args)(q:E cls none H):X.xe (.ref e) { s with heap:=h' }:=by
 obtain⟨k,new,t,he,ht,_⟩:=m
 have hbn:(Ŵ s.heap (frs X.stack)).get? e=none:=by
  cases z:(Ŵ s.heap (frs X.stack)).get? e with
  |none=>rfl
  |some o=>rw[W.of_hideAll _ z] at new;cases new
 have st0:(Ŵ s.heap (frs X.stack)).StaysIn h':=λb o z=>k b o (W.of_hideAll _ z)
 have f1:h'.FunFrames (Ŵ s.heap (frs X.stack)) X.stack:=xR k I.stack λb hb=>W.hideAll_none _ hb
 have k1:∀b o,s.heap.get? b=some o->H b=none->b∉frs X.stack->(Ŵ s.heap (frs X.stack)).get? b=some o:=λb o z _ nb=>W.hideAll_get _ z nb
 have k4:∀b o,s.heap.get? b=some o->b∉frs X.stack->∃o',(Ŵ s.heap (frs X.stack)).get? b=some o':=λb o z nb=>⟨o,W.hideAll_get _ z nb⟩
 have hok:=Jg I
 generalize Ŵ s.heap (frs X.stack)=hb at hbn st0 f1 k1 k4 hok
 have f2:h'.FunFrames hb (X.env::X.outer):=by rw[←L.stk];exact f1
 refine L.xe _ _ (Ei (base:=hb) (a0:=.ref t) (by rw[I.ok.frames,L.stk]) f2 L.fr he st0 hbn rfl rfl rfl rfl λh2 ⟨l1,l2,l3,l4⟩ l5=>?_)
 obtain⟨u,K1,K4⟩:=Cr (H1:=H) (h1:=h') L I (Un.kept k) k1 k4 f1 l1 l4
 exact⟨e,cls,.ref t,H,hb,rfl,I.os,I.bare,u,hok,⟨l1,hbn,tE l2,l3,l5⟩,K1,K4,q⟩
end
def o9{P:Program}{w:World}{K:Ñ}{mg:Str->Option Value}{base:Heap}{N:List Str}{qual:Str}{scope:Scope}{f:Addr}{cd:Value}{A:Around}{outer:List Env}{s:Shared}{H:Hp}{E:XK}:Lets (rP (CX1 P w) P w K mg base N qual scope f cd A outer s H E) E:=⟨λ_ _ h=>h,rfl,rfl,rfl⟩
def Fun.ok1{P:Program}{w:World}{K:Ñ}{mg:Str->Option Value}{base:Heap}{x qual:Str}{st:Stmt}{f:Addr}{fd:FuncData}{N ps:List Str}{k:Nat}{sp:Sp}(F:Fun K x qual st f fd)(S:FnScope N ps (aj st))(len:∀vs H Q E,sp vs H Q E->vs.length=ps.length)(hbody:∀(cdv:Value) (A:Around) (outer:List Env) (s:Shared) (H:Hp) (vs:List V) (Q:VK) (E:XK),Room k (A.deeper (envOfC qual (aj st) s.heap.objs.size f cdv))->sp vs H Q E ->
   ∃t,PSs (rP (CX1 P w) P w K mg base N qual (aj st) f cdv A outer s H E) (bO st) t/\t { nx:=λ_ H'=>Q .non H',rt:=Q } (start N vs) H):FnOk P w K mg base (CX1 P w) (k+1) f fd ps sp:=by
 obtain⟨oc,od,kV,doc,pm,an,cdv,ct,osl,rfl,lk,hcd⟩:=F.ex
 refine Js lk hcd S len λA outer s H vs Q E hr hsp=>?_
 obtain⟨t,h,q⟩:=hbody cdv A outer s H vs Q E hr hsp
 exact⟨t,h,q⟩
structure ExcCls(K:Ñ)(C:Addr)(newId:String)(bmB:List Value):Prop where
 ex:∃(nm q:Str) (N:Addr) (bs bm:List Value) (hdct:Bool) (sn:List Str) (sub:List Value) (ab:Bool) (col:Option Bool) (dd:Option Addr) (k0 k1 k2 k3 k5:Option Value),
  K.lookup C=some (excClassObj nm q C N bs bm hdct sn sub ab col dd k0 k1 k2 k3 k5 newId)/\W.tailIn K bmB bm=true/\W.nsOkIn K N=true/\W.nsIn K N "__init__"=some none/\bm.contains (.type "BaseException")=true
section
variable {X:Cx}{E:XK}{x:Str}{C:Addr}{newId Bn initId:String}{bmB:List Value}{e:Expr}{es:List Expr}{t:TA}{np cpos pos:Pos}
def O8(E:XK)(C:Addr)(t:TA):TS:=λ_ σ H=>t σ H λvs H1=>vs.length<=sizeLine/\E (.ref C) none H1
def GR(L:Lets X E)(hc:X.calm=true)(hg:Gl X x)(hm:X.mg x=some (.ref C))(hx:ExcCls X.K C newId bmB)(B:ExcBaseFacts Bn newId initId bmB)(ha:PA X (e::es) t)(hdb:(x == ("__debug__":Str))=false:=by decide)(he:starEach (e::es) X.env=(false,eval e X.env)::starEach es X.env:=by rfl)(hpl:(backTo cpos (starEach (e::es) X.env)).any (·.1)=false:=by rfl)(hcons:backTo cpos (starEach (e::es) X.env)=(false,eval e X.env)::backTo cpos (starEach es X.env):=by rfl) :
  PS X (.Raise (some (.Call (.Name x np) (e::es) [] cpos)) none pos) (O8 E C t):=by
 intro pins s σ H D I h
 obtain⟨nm,q,N,bs,bm,hdct,sn,sub,ab,col,dd,k0,k1,k2,k3,k5,lk,tl,nso,nin,bmc⟩:=hx.ex
 have nsb:X.base.Ns N (X.base.nsMap N):=Heap.Ns.of_isNs (W.isNs_of_in I.ok.mod.kin nso)
 refine wpAny_Raise_call_subT (nm:=nm) (q:=q) (N:=N) (bs:=bs) (bm:=bm) (hdct:=hdct) (sn:=sn) (sub:=sub) (ab:=ab) (col:=col) (dd:=dd) (k0:=k0) (k1:=k1) (k2:=k2) (k3:=k3) (k5:=k5) (mN:=X.base.nsMap N) B bmc (I.ok.hd hc) hpl (W.nsMap_none_of_in I.ok.mod.kin nso nin) (jm I hg hm ⟨rfl,?_⟩ hdb)
 rw[hcons]
 refine PySem.Calls.evalArgs_plain ?_
 rw[←hcons]
 refine thn (ha cpos pins s σ H _ I h) λus s1 ⟨vs,H1,I1,r,hl,q⟩=>⟨rfl,by rw[←r.length];exact hl,I1.kIn _ _ lk,nsb.keeps I1.bk,W.tail_of_in I1.kIn tl,λh' a m=>Dv L I1 m q⟩
end
abbrev Cx.handling(X:Cx)(e:Value):Cx:={ X with A:=X.A.mark (some e),calm:=false,xe:=λ_ _=>False,sf:=[] }
section
variable {X:Cx}{pins:List (Addr×Obj)}{σ:St}{H:Hp}{s:Shared}{ev:Value}
def Inv.handling(I:Inv X pins σ H s)(ev:Value):Inv (X.handling ev) pins σ H s :=
 ⟨⟨I.ok.mod,I.ok.kind,I.ok.glob,I.ok.blt,I.ok.above,I.ok.inj,I.ok.has,I.ok.cab,(λh=>nomatch h),I.ok.frames,I.ok.stk,I.ok.exf,I.ok.bs,I.ok.bsz,I.ok.noex,I.ok.exfs,I.ok.gY,I.ok.frf,λq z=>nomatch z⟩,I.os,I.bare,I.base,I.loc,I.cell,I.free,I.freeC,I.pin,I.hok,I.len⟩
def Inv.handled(ok:X.Ok)(I:Inv (X.handling ev) pins σ H s):Inv X pins σ H s:=⟨ok,I.os,I.bare,I.base,I.loc,I.cell,I.free,I.freeC,I.pin,I.hok,I.len⟩
def jd(a:Addr)(cls:Value):Heap->Prop:=λh=>∃oe vs,h.get? a=some oe/\oe.cls=cls/\oe.data=.fields vs
def jx(a:Addr)(cls:Value):HO:=.ext (jd a cls)
def jd.ok{P:Program}{w:World}{H:Hp}{h:Heap}{a:Addr}{cls:Value}(x:jd a cls h):aU P w H h a (jx a cls) :=
 ⟨x,let ⟨oe,_,e,_⟩:=x;⟨oe,e⟩,λh1 h2 ⟨oe,vs,e,c,d⟩ k=>⟨oe,vs,k _ e,c,d⟩⟩
def Inv.track{a:Addr}{o:HO}(I:Inv X pins σ H s)(hn:H a=none)(h0:∀ob,X.s₀.heap.get? a≠some ob)(hL:a≠X.env.locals)(hC:∀x c,X.env.cells.lookup x=some c->c≠a)(hp:∀p∈X.pn++pins,p.1≠a)(new:aU X.prog X.w (upd H a o) s.heap a o):Inv X pins σ (upd H a o) s:=by
 refine⟨I.ok,I.os,I.bare,⟨I.base.keep,I.base.slot,λb ob e n hx=>?_,I.base.there,λb xs e=>?_,λb ob u e=>?_,λb ps e=>?_⟩,I.loc,I.cell,?_,λx c e=>?_,λp q=>?_,I.hok.track hn new,I.len⟩
 ·rw[ak (show b≠a from λz=>h0 ob (by rw[←z];exact e))]
  exact I.base.free b ob e n hx
 ·have q:=I.base.tups b xs e
  rw[ak (aF q hn)]
  exact q
 ·have q:=I.base.frzs b ob u e
  rw[ak (aF q hn)]
  exact q
 ·obtain⟨m,q⟩:=I.base.tbls b ps e
  exact⟨m,by rw[ak (aF q hn)];exact q⟩
 ·rw[ak (ă hL)]
  exact I.free
 ·rw[ak (hC x c e)]
  exact I.freeC x c e
 ·obtain⟨q1,q2,q3⟩:=I.pin p q
  exact⟨q1,by rw[ak (hp p q)];exact q2,q3⟩
end
def aU.there{P:Program}{w:World}{H:Hp}{h:Heap}{a:Addr}{o:HO}(x:aU P w H h a o):∃ob,h.get? a=some ob:=by
 cases o with
 |lst xs=>obtain⟨_,_,_,_,e⟩:=x;exact⟨_,e⟩
 |tup xs=>obtain⟨_,_,_,o,e,_⟩:=x;exact⟨_,e⟩
 |dK kvs=>obtain⟨_,_,_,_,o,_,_,e,_⟩:=x;exact⟨_,e⟩
 |dT kvs=>obtain⟨_,_,_,_,o,_,_,e,_⟩:=x;exact⟨_,e⟩
 |set S n=>obtain⟨o,_,_,_,e,_⟩:=x;exact⟨_,e⟩
 |ins C dx fs=>obtain⟨_,_,_,e,_⟩:=x;exact⟨_,e⟩
 |own y=>exact x
 |xd fs=>obtain⟨_,⟨_,_,_,e,_⟩,_⟩:=x;exact⟨_,e⟩
 |rng lo hi=>obtain⟨_,_,_,e⟩:=x;exact⟨_,e⟩
 |frz ob u=>exact⟨_,x.1⟩
 |tbl ps=>exact⟨_,(show h.get? a=some _ from x)⟩
 |met f y=>exact⟨_,(show h.get? a=some _ from x)⟩
 |ext φ=>exact x.2.1
def Inv.unbound{X:Cx}{pins:List (Addr×Obj)}{σ:St}{H:Hp}{s:Shared}{j:Nat}{n:Str}{m:Str->Option Value}{v:Option Value}{h':Heap}{tk:Nat}(I:Inv X pins σ H s)(hN:X.N.Nodup)(hj:X.N[j]?=some n)(hm:s.heap.Ns X.env.locals m)(hn:h'.Ns X.env.locals λx=>if x=n then v else m x)(hs:Heap.SameBut X.env.locals s.heap h'):Inv X pins (σ.set j none) H { s with heap:=h',toks:=tk }:=by
 obtain⟨m0,hm0,hl⟩:=id I.loc
 have em:m0=m:=by
  obtain⟨o1,es1,ep1,e1,d1,_,f1⟩:=id hm0
  obtain⟨o2,es2,ep2,e2,d2,_,f2⟩:=id hm
  rw[e1] at e2
  cases e2
  rw[d1] at d2
  cases d2
  funext y
  rw[←f1,←f2]
 subst em
 have neL:∀b o,X.s₀.heap.get? b=some o->b≠X.env.locals:=λb o e=>ß (Û (Ç e) I.ok.above)
 have cne:=I.cne
 refine⟨I.ok,I.os,I.bare,⟨λb o e n' hb hx=>(hs.2 b (neL b o e)).trans (I.base.keep b o e n' hb hx),λb o e n' hb hx=>?_,I.base.free,λb o e hx=>?_,I.base.tups,I.base.frzs,I.base.tbls⟩,⟨_,hn,λi y v' e1 e2 e3=>?_⟩,λy c e=>?_,I.free,I.freeC,λp hp=>?_,λb u e=>?_,by rw[List.length_set];exact I.len⟩
 ·obtain⟨sl,e1⟩:=I.base.slot b o e n' hb hx
  exact⟨sl,(hs.2 b (neL b o e)).trans e1⟩
 ·obtain⟨o',e1⟩:=I.base.there b o e hx
  exact⟨o',(hs.2 b (neL b o e)).trans e1⟩
 ·by_cases hij:i=j
  ·subst hij
   rw[List.getElem?_set] at e2
   simp at e2
  ·rw[Ę (ă hij)] at e2
   obtain⟨u',r',q⟩:=hl i y v' e1 e2 e3
   refine⟨u',r',?_⟩
   rcases q with ⟨k,e⟩|⟨k,c,e,z⟩
   ·refine .inl ⟨k,?_⟩
    have:y≠n:=λe=>hij (qK hN e1 (e ▸ hj))
    simp[this,e]
   ·exact .inr ⟨k,c,e,z.sameBut hs (cne y c e)⟩
 ·obtain⟨u,z⟩:=I.cell y c e
  exact⟨u,z.sameBut hs (cne y c e)⟩
 ·obtain⟨q1,q2,q3,q4⟩:=I.pin p hp
  exact⟨(hs.2 p.1 q3).trans q1,q2,q3,q4⟩
 ·refine(I.hok b u e).stay (λc w' hc q=>(hs.2 c ?_).trans q) (λ_ q=>q) λ_ _ q=>q
  intro z
  rcases hc with hc|hc
  ·rw[←hc,z,I.free] at e;cases e
  ·rw[z,I.free] at hc;cases hc
section
variable {X:Cx}{k:Nat}{f CF:Addr}{fd:FuncData}{ps:List Str}{sp:Sp}{E:XK}{x hx n:Str}{p np cpos epos hpos pos:Pos}{e:Expr}{es:List Expr}{t:TA}{b₀:Stmt}{suite:List Stmt}{ts:TS}{j:Nat}
end
end L2
namespace L2
open PySem PySem.W PySem.Spec PyProof.Rows
structure ExcK(K:Ñ)(C:Addr):Prop where
 ex:∃(nm q:Str) (N AF:Addr) (bs bmB:List Value) (hdct:Bool) (sn:List Str) (sub:List Value) (ab:Bool) (col:Option Bool) (dd ddF:Option Addr) (k0 k1 k2 k3 k5:Option Value) (newId B:String) (c0:Value) (cd:ClassData) (slF:Array (Option Value)),
  K.lookup C=some (excClassObj nm q C N bs (.ref AF::bmB) hdct sn sub ab col dd k0 k1 k2 k3 k5 newId)/\K.lookup AF=some ⟨c0,ddF,.cls cd,slF⟩/\nsOkIn K cd.ns=true/\(∀n∈quietNames,nsIn K cd.ns n=some none)/\ExcAttrBase B bmB
 ga:findIn K (.ref C) "__getattribute__"=some (some (.builtin "BaseException.__getattribute__"))
 hook:findIn K (.ref C) "__getattr__"=some none
 cls:findIn K (.ref C) "__class__"=some (some (.builtin "object.__class__"))
 mro:mroIn K C (.type "object")=some true
section
variable {prog:Program}{w:World}{K:Ñ}{a C:Addr}{A:Around}{E:Value->Shared->Prop}{s:Shared}
def vG{M:Model}{h:Heap}(x:jd a (.ref C) h):Looks M h (typeOf (.ref a)) (.ref C):=λA Q E s k q=>by
 obtain⟨oe,vs,e1,e2,_⟩:=x
 refine wpAny_typeOf_ref (k _ _ e1) ?_
 rw[e2]
 exact q
def M8{tp:Value}{R:Result->Shared->Prop}(X:K.In s.heap)(x:jd a (.ref C) s.heap)(hm:mroIn K C (.type "object")=some true)(h:R (.ok (.ret (.ref C))) s) :
  codeAny (model prog w) A (.call (.builtin "getset_descriptor.__get__") ⟨[.builtin "object.__class__",.ref a,tp],[]⟩) R s:=by
 obtain⟨hh,g,dr,t,os⟩:=s
 have L0:=vG (M:=model prog w) x
 have L1:=looks_mroIn (M:=model prog w) X hm
 refine codeAny_call_builtin KF.slot_gs.plain KF.entry_gs (KF.slot_gs.check _ _ _ _ _ _ _ _ KF.type_class (KF.args_gs _ _ _) ?_)
 show wpAny _ _ (Builtin.Getset_descriptor.descrGet _) _ _ _
 unfold Builtin.Getset_descriptor.descrGet
 rw[dga_obj]
 refine Â (Ê ?_)
 show wpAny _ _ (Ż (.builtin "object.__class__") (.ref a) >>= _) _ _ _
 have e1:Builtin.Getset_descriptor.descrNameAndClass (.builtin "object.__class__")=pure (ð "__class__",.type "object"):=by
  show pure (ð (Builtin.Getset_descriptor.descrOwnerAndName "object.__class__").2,ć (Builtin.Getset_descriptor.descrOwnerAndName "object.__class__").1)=_
  rw[KF.owner_class]
 unfold Ż
 rw[e1]
 refine Â (Â (Ê ?_))
 show wpAny _ _ ((do let t ←typeOf (.ref a);isSubtype t (.type "object")) >>= _) _ _ _
 refine Â (Â (Looks.at L0 (Looks.at L1 ?_)))
 refine wpAny_ite_false rfl (Ê ?_)
 refine Ê ⟨Code.quiet_builtin _ (by decide +kernel),codeAny_builtin KF.entry_class ?_⟩
 show wpAny _ _ ((typeOf (.ref a) >>= _) >>= _) _ _ _
 refine Â (Â (Looks.at L0 ?_))
 exact Ê (Ê h)
def EY{h:Heap}{AF:Addr}{bmB:List Value}{c0:Value}{ddF:Option Addr}{cd:ClassData}{slF:Array (Option Value)}(X:K.In h)(lkF:K.lookup AF=some ⟨c0,ddF,.cls cd,slF⟩)(nsF:nsOkIn K cd.ns=true)(qF:∀n∈quietNames,nsIn K cd.ns n=some none):OwnTailQ h bmB (.ref AF::bmB) :=
 .own (X _ _ lkF) (Heap.Ns.of_isNs (isNs_of_in X nsF)) (λn hn=>nsMap_none_of_in X nsF (qF n hn)) .base
def Fb{tk:Tok}{Q:PySem.Fin->Shared->Prop}(X:K.In s.heap)(k:ExcK K C)(x:jd a (.ref C) s.heap)(h:Q (.done (.ret (.ref C))) s) :
  wpAny (model prog w) A (Builtin.«object.__getattribute__» ⟨[.ref a,.str "__class__" tk],[]⟩) Q E s:=by
 obtain⟨hh,g,dr,t,os⟩:=s
 have L0:=vG (M:=model prog w) x
 have L2:=looks_findIn (M:=model prog w) X k.cls
 have es:slotArgs "__getattribute__" 1 ⟨[.ref a,.str "__class__" tk],[]⟩=pure (.ref a,[.str "__class__" tk]):=rfl
 have en:Builtin.ObjectAttr.attrName (.str "__class__" tk)=pure (ð "__class__"):=rfl
 unfold Builtin.«object.__getattribute__»
 rw[es]
 refine Â (Ê ?_)
 show wpAny _ _ (Builtin.ObjectAttr.attrName (.str "__class__" tk) >>= _) _ _ _
 rw[en]
 refine Â (Ê ?_)
 refine Â (Looks.at L0 ?_)
 refine Â ?_
 unfold Builtin.ObjectAttr.find
 refine Â (Looks.at L2 ?_)
 refine Â (wpAny_specialOf_val F.typeOf_object_class F.slot_gs_get.lookup ?_)
 refine Â (Â (Â (wpAny_specialOf_val F.typeOf_object_class F.slot_gs_set.lookup ?_)))
 refine wpAny_ite_true rfl (Ê (wpAny_ite_true rfl (Ê (Â (wpAny_rule (Ê ?_))))))
 show wpAny _ _ (holding _ (call _ _) >>= _) _ _ _
 exact Â (ö (wpAny_call (M8 X x k.mro (Ê h))))
def RK{tk:Tok}{Q:Value->Shared->Prop}(X:K.In s.heap)(k:ExcK K C)(x:jd a (.ref C) s.heap)(h:Q (.ref C) s):wpAny (model prog w) A (getAttrBy (.ref a) (.str "__class__" tk) false) Q E s:=by
 obtain⟨nm,q,N,AF,bs,bmB,hdct,sn,sub,ab,col,dd,ddF,k0,k1,k2,k3,k5,newId,B,c0,cd,slF,lk,lkF,nsF,qF,FB⟩:=k.ex
 obtain⟨hh,g,dr,t,os⟩:=s
 obtain⟨oe,vs,e1,e2,e3⟩:=id x
 have L0:=vG (M:=model prog w) x
 have L3:=looks_findIn (M:=model prog w) X k.ga
 have L4:=looks_findIn (M:=model prog w) X k.hook
 refine ö (Â (Looks.at L0 (Â (Looks.at L3 ?_))))
 refine wpAny_ite_false rfl ?_
 refine Â (wpAny_ite_true rfl (Looks.at L4 (Â (wpAny_attempt (ö ?_)))))
 refine wpAny_ite_false rfl ?_
 refine Â (wpAny_of_eq (FB.ga.bind (.ref a)) (wpAny_call ?_))
 refine codeAny_call_builtin FB.ga.plain F.entry_bexc_ga (wpAny_check_ga_own FB (X _ _ lk) (EY X lkF nsF qF) e1 e2 ?_)
 exact Fb X k x (Ê h)
def RJ{Q:Option Value->Shared->Prop}(X:K.In s.heap)(k:ExcK K C)(x:jd a (.ref C) s.heap)(h:Q (some (.ref C)) { s with toks:=s.toks+1 }):wpAny (model prog w) A (getAttr? (.ref a) "__class__") Q E s:=by
 obtain⟨hh,g,dr,t,os⟩:=s
 exact Â (Â (wpAny_fresh' (Ê (Â (wpAny_attempt (RK (s:=⟨hh,g,dr,t+1,os⟩) X k x (Ê h)))))))
def Jz(k:ExcK K C):KitX K (.ref a) (.ref C) (jd a (.ref C)) where
 ty:=λM h _ x=>vG x
 it:=λM h X x A Q E s kk q=>by
  obtain⟨nm,q',N,AF,bs,bmB,hdct,sn,sub,ab,col,dd,ddF,k0,k1,k2,k3,k5,newId,B,c0,cd,slF,lk,_⟩:=k.ex
  exact Â (wpAny_loadPart (kk _ _ (X _ _ lk)) (Ê q))
 ne:=λh tp dd its n sl X htp=>by
  obtain⟨nm,q',N,AF,bs,bmB,hdct,sn,sub,ab,col,dd,ddF,k0,k1,k2,k3,k5,newId,B,c0,cd,slF,lk,_⟩:=k.ex
  rw[Bool.eq_false_iff]
  intro z
  have e:C=tp:=Value.ref.inj (beq_iff_eq.mp z)
  rw[←e,X _ _ lk] at htp
  have z:=congrArg Obj.data (Ý htp)
  cases z
 ca:=λX x h=>RJ X k x h
end
section
variable {X:Cx}
def N5:R2:=λx y H Q=>∃a b xs ys,x=.ref a/\y=.ref b/\H a=some (.tup xs)/\H b=some (.tup ys)/\xs.length+ys.length<=sizeLine/\∀c H',(∀d u,H d=some u->H' d=some u)->H' c=some (.tup (xs++ys))->Q (.ref c) H'
def Ce:OpR X (binaryOp .Add) N5:=by
 intro pins s σ H x y v u Q I rx ry h
 obtain⟨a,b,xs,ys,rfl,rfl,ha,hb,hz,q⟩:=h
 cases rx
 cases ry
 obtain⟨its,r1,p1,_⟩:=I.tuple (SqT.of ha)
 obtain⟨its2,r2,p2,_⟩:=I.tuple (SqT.of hb)
 by_cases hx:xs=[]
 ·subst hx
  cases r1
  obtain⟨m,F⟩:=I.fr
  refine add_tuples (vs:=[]) F HY p1 p2 (λ_=>⟨.ref b,H,I,rfl,q b H (λ_ _ z=>z) (by simpa using hb)⟩) (λz=>absurd rfl z) (λz=>absurd rfl z) (by rw[←r2.length];simpa using hz)
 ·refine K5 pins s σ H (.ref a) (.ref b) (.ref a) (.ref b) Q I rfl rfl ⟨a,b,xs,ys,rfl,rfl,SqT.of ha,SqT.of hb,hx,hz,λe=>?_,λ_ p hp=>?_⟩
  ·subst e
   exact q a H (λ_ _ z=>z) (by rw[í];exact ha)
  ·exact q p _ (λd u z=>by rw[ak (aF z hp)];exact z) ao
end
section
variable {K:Ñ}{C c:Addr}{dd:Option Addr}{cd:ClassData}{sl:Array (Option Value)}
def sY(lk:K.lookup c=some ⟨.type "type",dd,.cls cd,sl⟩):kitCls K (.ref C) (.ref c)=mroIn K C (.ref c):=by
 have e1:clsIn K c=some cd:=by unfold clsIn;rw[lk]
 have e2:typeIn K (.ref c)=some (.type "type"):=by
  show Option.map _ (List.lookup c K)=_
  rw[lk]
  rfl
 show(if ((clsIn K c).isSome&&typeIn K (.ref c) == some (.type "type"))=true then subIn K (.ref C) (.ref c) else none)=_
 rw[e1,e2,if_pos (by simp)]
 rfl
def bY(lk:K.lookup c=some ⟨.type "type",dd,.cls cd,sl⟩)(m:mroIn K C (.ref c)=some false)(mm:mroIn K C (.ref C)=some true):kitOne K (.ref C) (.ref c)=some false:=by
 have hne:C≠c:=λz=>by rw[←z,mm] at m;cases m
 unfold kitOne
 rw[if_neg (λz=>hne (Value.ref.inj (beq_iff_eq.mp z))),sY lk]
 exact m
def xM:kitOne K (.ref C) (.ref C)=some true:=by
 unfold kitOne
 rw[if_pos (by simp)]
def xK{T:String}(hm:kitMeta T=true)(m:mroIn K C (.type T)=some true):kitOne K (.ref C) (.type T)=some true:=by
 unfold kitOne
 rw[if_neg (λz=>by have:=beq_iff_eq.mp z;cases this)]
 show(if kitMeta T=true then subIn K (.ref C) (.type T) else none)=_
 rw[if_pos hm]
 exact m
def Ez(lk:K.lookup c=some ⟨.type "type",dd,.cls cd,sl⟩)(b:mroIn K c (.type "BaseException")=some true)(m:mroIn K C (.ref c)=some true):exmOne K (.ref C) (.ref c)=some true:=by
 unfold exmOne
 have e:subIn K (.ref c) (.type "BaseException")=some true:=b
 rw[e,if_pos (by decide +kernel),sY lk]
 exact m
def Ck{N:Addr}{cl:Value}{d:Option Addr}{es:Array DictEntry}{ep:Nat}{s:Array (Option Value)}(lk:K.lookup N=some ⟨cl,d,.dict es ep,s⟩)(h:(es.toList.all λe=>match e.key with|.str _ _=>true|_=>false)=true):nsOkIn K N=true:=by
 rw[Array.all_toList] at h
 unfold nsOkIn
 rw[lk]
 exact h
def Dk{v:Value}{r:List Value}:tailIn K (v::r) (v::r)=true:=by
 rw[tailIn.eq_def]
 simp
def Gd{bmB:List Value}{cl:Value}(lk:K.lookup c=some ⟨cl,dd,.cls cd,sl⟩)(ns:nsOkIn K cd.ns=true)(ni:nsIn K cd.ns "__init__"=some none)(hb:tailIn K bmB bmB=true):tailIn K bmB (.ref c::bmB)=true:=by
 rw[tailIn.eq_def]
 simp only[lk,ns,ni,hb]
 simp
end
end L2
namespace Dl
open PySem L2 PyProof.Rows
abbrev D:=PyData
def kD:Key->D
 |.inl i=>.int i
 |.inr x=>.str x
mutual
inductive Rp(ok:Addr->Prop)(H:Hp):V->D->Prop
 |non:Rp ok H .non .none
 |bl (b:Bool):Rp ok H (.bl b) (.bool b)
 |int (i:Int):Rp ok H (.int i) (.int i)
 |str (x:Str):Rp ok H (.str x) (.str x)
 |lst {a:Addr}{vs:List V}{ds:List D} (o:ok a) (h:H a=some (.lst vs)) (r:Rps ok H vs ds):Rp ok H (.ref a) (.list ds)
 |tup {a:Addr}{vs:List V}{ds:List D} (h:H a=some (.tup vs)) (r:Rps ok H vs ds):Rp ok H (.ref a) (.tuple ds)
 |dct {a:Addr}{kvs:List (Key×V)}{ds:List (D×D)} (o:ok a) (h:H a=some (.dK kvs)) (r:Rkv ok H kvs ds):Rp ok H (.ref a) (.dict ds)
inductive Rps(ok:Addr->Prop)(H:Hp):List V->List D->Prop
 |nil:Rps ok H [] []
 |cons {v:V}{d:D}{vs:List V}{ds:List D} (h:Rp ok H v d) (t:Rps ok H vs ds):Rps ok H (v::vs) (d::ds)
inductive Rkv(ok:Addr->Prop)(H:Hp):List (Key×V)->List (D×D)->Prop
 |nil:Rkv ok H [] []
 |cons {k:Key}{v:V}{d:D}{vs:List (Key×V)}{ds:List (D×D)} (h:Rp ok H v d) (t:Rkv ok H vs ds):Rkv ok H ((k,v)::vs) ((kD k,d)::ds)
end
section
variable {ok ok':Addr->Prop}{H H':Hp}
mutual
def Rp.mono(f:∀a,ok a->ok' a)(g:∀a o,ok a->H a=some o->H' a=some o)(t:∀a xs,H a=some (.tup xs)->H' a=some (.tup xs)):∀{v:V}{d:D},Rp ok H v d->Rp ok' H' v d
 |_,_,.non=>.non
 |_,_,.bl b=>.bl b
 |_,_,.int i=>.int i
 |_,_,.str x=>.str x
 |_,_,.lst o h r=>.lst (f _ o) (g _ _ o h) (Rps.mono f g t r)
 |_,_,.tup h r=>.tup (t _ _ h) (Rps.mono f g t r)
 |_,_,.dct o h r=>.dct (f _ o) (g _ _ o h) (Rkv.mono f g t r)
def Rps.mono(f:∀a,ok a->ok' a)(g:∀a o,ok a->H a=some o->H' a=some o)(t:∀a xs,H a=some (.tup xs)->H' a=some (.tup xs)):∀{v:List V}{d:List D},Rps ok H v d->Rps ok' H' v d
 |_,_,.nil=>.nil
 |_,_,.cons h r=>.cons (Rp.mono f g t h) (Rps.mono f g t r)
def Rkv.mono(f:∀a,ok a->ok' a)(g:∀a o,ok a->H a=some o->H' a=some o)(t:∀a xs,H a=some (.tup xs)->H' a=some (.tup xs)):∀{v:List (Key×V)}{d:List (D×D)},Rkv ok H v d->Rkv ok' H' v d
 |_,_,.nil=>.nil
 |_,_,.cons h r=>.cons (Rp.mono f g t h) (Rkv.mono f g t r)
end
def Rps.length:∀{vs:List V}{ds:List D},Rps ok H vs ds->vs.length=ds.length
 |_,_,.nil=>rfl
 |_,_,.cons _ t=>by rw[ç,ç,Rps.length t]
def Rps.getD:∀{vs:List V}{ds:List D}{i:Nat}{d:D},Rps ok H vs ds->ds[i]?=some d->∃v,vs[i]?=some v/\Rp ok H v d
 |_,_,i,v,.nil,e=>by simp at e
 |_,_,0,v,.cons h t,e=>by simp at e;subst e;exact⟨_,rfl,h⟩
 |_,_,i+1,v,.cons h t,e=>by
  obtain⟨d,a,b⟩:=Rps.getD (i:=i) (d:=v) t (by simpa using e)
  exact⟨d,by simpa using a,b⟩
def Rps.app:∀{vs ws:List V}{ds es:List D},Rps ok H vs ds->Rps ok H ws es->Rps ok H (vs++ws) (ds++es)
 |_,_,_,_,.nil,s=>s
 |_,_,_,_,.cons h t,s=>.cons h (Rps.app t s)
def Rps.snoc{vs:List V}{ds:List D}{v:V}{d:D}(h:Rps ok H vs ds)(r:Rp ok H v d):Rps ok H (vs++[v]) (ds++[d]):=h.app (.cons r .nil)
def Rps.set{v:V}{d:D}(r:Rp ok H v d):∀{vs:List V}{ds:List D} (i:Nat),Rps ok H vs ds->Rps ok H (vs.set i v) (ds.set i d)
 |_,_,_,.nil=>.nil
 |_,_,0,.cons _ t=>.cons r t
 |_,_,i+1,.cons q t=>.cons q (Rps.set r i t)
def Rps.take:∀{vs:List V}{ds:List D} (n:Nat),Rps ok H vs ds->Rps ok H (vs.take n) (ds.take n)
 |_,_,0,_=>by simp;exact .nil
 |_,_,_+1,.nil=>by simp;exact .nil
 |_,_,n+1,.cons r t=>.cons r (Rps.take n t)
def Rps.drop:∀{vs:List V}{ds:List D} (n:Nat),Rps ok H vs ds->Rps ok H (vs.drop n) (ds.drop n)
 |_,_,0,r=>r
 |_,_,_+1,.nil=>by simp;exact .nil
 |_,_,n+1,.cons _ t=>Rps.drop n t
def Rps.ofMap{α:Type}{f:α->V}{g:α->D}(h:∀x,Rp ok H (f x) (g x)):∀l:List α,Rps ok H (l.map f) (l.map g)
 |[]=>.nil
 |x::l=>.cons (h x) (Rps.ofMap h l)
def Rp.int'{v:V}{i:Int}(r:Rp ok H v (.int i)):v=.int i:=by cases r;rfl
def Rp.bl'{v:V}{i:Bool}(r:Rp ok H v (.bool i)):v=.bl i:=by cases r;rfl
def Rp.str'{v:V}{i:Str}(r:Rp ok H v (.str i)):v=.str i:=by cases r;rfl
def Rp.cj{v:V}{ds:List D}(r:Rp ok H v (.list ds)):∃a vs,v=.ref a/\ok a/\H a=some (.lst vs)/\Rps ok H vs ds:=by
 cases r with
 |lst o h r=>exact⟨_,_,rfl,o,h,r⟩
def Rp.d7{v:V}{ds:List D}(r:Rp ok H v (.tuple ds)):∃a vs,v=.ref a/\H a=some (.tup vs)/\Rps ok H vs ds:=by
 cases r with
 |tup h r=>exact⟨_,_,rfl,h,r⟩
def Rps.ints:∀{vs:List V}{ns:List Int},Rps ok H vs (ns.map Í)->vs=ns.map V.int
 |[],[],_=>rfl
 |_,n::ns,.cons h t=>by
  have e:=h.int'
  subst e
  rw[Rps.ints t]
  rfl
def Rps.two{vs:List V}{d e:D}(r:Rps ok H vs [d,e]):∃v w,vs=[v,w]/\Rp ok H v d/\Rp ok H w e:=by
 cases r with
 |cons h t =>
  cases t with
  |cons h2 t2 =>
   cases t2
   exact⟨_,_,rfl,h,h2⟩
end
mutual
def bU:D->Bool
 |.none=>true
 |.bool _=>true
 |.int _=>true
 |.str _=>true
 |.list _=>false
 |.tuple ds=>cX ds
 |.dict _=>false
def cX:List D->Bool
 |[]=>true
 |d::ds=>bU d&&cX ds
end
section
variable {ok:Addr->Prop}{H:Hp}
mutual
def Rp.imm:∀{v:V}{d:D},Rp ok H v d->bU d=true->Rp (λ_=>False) H v d
 |_,_,.non,_=>.non
 |_,_,.bl b,_=>.bl b
 |_,_,.int i,_=>.int i
 |_,_,.str x,_=>.str x
 |_,_,.tup h r,e=>.tup h (Rps.imm r e)
def Rps.imm:∀{v:List V}{d:List D},Rps ok H v d->cX d=true->Rps (λ_=>False) H v d
 |_,_,.nil,_=>.nil
 |_,_,.cons h r,e=>.cons (Rp.imm h (by simp only[cX,Î] at e;exact e.1)) (Rps.imm r (by simp only[cX,Î] at e;exact e.2))
end
end
def Fxd(o:HO):Prop:=∃x φ,o=.frz x (.ext φ)
structure Pn where
 fp:Addr->Prop
 PI:Hp->Prop
 pv:V
 mono:∀H H',PI H->(∀b o,(fp b\/Fxd o)->H b=some o->H' b=some o)->PI H'
 is:∀H b,PI H->fp b->∃o,H b=some o/\(∀xs,o≠.tup xs)/\¬Fxd o
class Gr where
 G:Pn->Hp->Prop
instance (priority:=low) grT:Gr:=⟨λ_ _=>True⟩
def eF:Pn:=⟨λ_=>False,λ_=>True,.non,λ_ _ _ _=>trivial,λ_ _ _ h=>h.elim⟩
def Kp(p:Pn)(H H':Hp):Prop:=∀b o,H b=some o->¬p.fp b->H' b=some o
def Kp.refl{p:Pn}{H:Hp}:Kp p H H:=λ_ _ h _=>h
def Kp.trans{p:Pn}{H H1 H2:Hp}(a:Kp p H H1)(b:Kp p H1 H2):Kp p H H2:=λc o h n=>b c o (a c o h n) n
def Kp.of{p:Pn}{H H':Hp}(s:Same H H'):Kp p H H':=λb o h _=>s b o h
inductive Sl where
 |any
 |im (d:D)
 |sh (d:D)
 |sn (d:D)
 |dw (r:Nat) (d:D)
 |pen (C:Pn->Prop)
 |rw (r:Nat) (L:List (List D))
 |tw (r:Nat) (L:List (List D))
 |scr (v:V) (b:Bool)
 |sp (r:Nat) (b:Bool) (ds:List D)
inductive Kd where
 |imm|new|reg (r:Nat)|n0|snw|shr|wk
 deriving DecidableEq
def Kd.le:Kd->Kd->Bool
 |.imm,_=>true
 |.new,.new=>true
 |.new,.n0=>true
 |.new,.snw=>true
 |.new,.shr=>true
 |.new,.wk=>true
 |.reg r,.reg q=>r == q
 |.reg _,.n0=>true
 |.reg _,.wk=>true
 |.snw,.snw=>true
 |.snw,.n0=>true
 |.snw,.shr=>true
 |.snw,.wk=>true
 |.n0,.n0=>true
 |.n0,.wk=>true
 |.shr,.shr=>true
 |.shr,.wk=>true
 |.wk,.wk=>true
 |_,_=>false
def Kd.join(a b:Kd):Kd:=if a.le b then b else if b.le a then a else if a.le .n0&&b.le .n0 then .n0 else if a.le .shr&&b.le .shr then .shr else .wk
def norm(k:Kd)(d:D):Kd:=match k with
 |.imm=>.imm
 |k=>if bU d then .imm else k
def qI{k:Kd}{d:D}(h:bU d=true):norm k d=.imm:=by
 cases k <;> first
  |rfl
  |exact if_pos h
def qJ{k:Kd}{d:D}(h:¬bU d=true):norm k d=k:=by
 cases k <;> first
  |rfl
  |exact if_neg h
def okK(p:Pn)(H0:Hp)(own:Addr->Option Nat)(Hb:Hp):Kd->Addr->Prop
 |.imm=>λ_=>False
 |.new=>λa=>Hb a=none
 |.reg r=>λa=>own a=some r
 |.n0=>λa=>H0 a=none/\¬p.fp a
 |.snw=>λa=>H0 a=none/\¬p.fp a/\own a=none
 |.shr=>λa=>¬p.fp a/\own a=none
 |.wk=>λa=>¬p.fp a
structure At(p:Pn)(H0:Hp)(own:Addr->Option Nat)(Hb H:Hp):Prop where
 k0:∀b o,H0 b=some o->¬p.fp b->Hb b=some o
 kp:Kp p Hb H
 penb:p.PI Hb
 pen:p.PI H
 ow:∀a r,own a=some r->H0 a=none/\¬p.fp a/\Hb a≠none
section
variable {p:Pn}{H0 Hb H H':Hp}{own:Addr->Option Nat}
def At.nfp(A:At p H0 own Hb H){a:Addr}(h:H a=none):¬p.fp a:=λz=>by
 obtain⟨o,e,_⟩:=p.is H a A.pen z
 rw[h] at e
 cases e
def At.free(A:At p H0 own Hb H){a:Addr}(h:H a=none):Hb a=none:=by
 have hn:=A.nfp h
 cases e:Hb a with
 |none=>rfl
 |some o=>rw[A.kp a o e hn] at h;cases h
def At.nfb(A:At p H0 own Hb H){a:Addr}(h:Hb a=none):¬p.fp a:=λz=>by
 obtain⟨o,e,_⟩:=p.is Hb a A.penb z
 rw[h] at e
 cases e
def At.QC(A:At p H0 own Hb H){a:Addr}(h:Hb a=none):own a=none:=by
 cases e:own a with
 |none=>rfl
 |some r=>exact absurd h (A.ow a r e).2.2
def At.h0(A:At p H0 own Hb H){a:Addr}(h:Hb a=none):H0 a=none:=by
 cases e:H0 a with
 |none=>rfl
 |some o=>rw[A.k0 a o e (A.nfb h)] at h;cases h
def bw(A:At p H0 own Hb H){j k:Kd}(h:j.le k=true){a:Addr}(o:okK p H0 own Hb j a):okK p H0 own Hb k a:=by
 cases j with
 |imm=>exact è o
 |new =>
  cases k with
  |imm=>cases h
  |new=>exact o
  |reg r=>cases h
  |n0=>exact⟨A.h0 o,A.nfb o⟩
  |snw=>exact⟨A.h0 o,A.nfb o,A.QC o⟩
  |shr=>exact⟨A.nfb o,A.QC o⟩
  |wk=>exact A.nfb o
 |reg r =>
  cases k with
  |reg q =>
   have e:r=q:=by simpa[Kd.le] using h
   subst e
   exact o
  |n0=>exact⟨(A.ow a r o).1,(A.ow a r o).2.1⟩
  |wk=>exact(A.ow a r o).2.1
  |_=>cases h
 |n0 =>
  cases k with
  |n0=>exact o
  |wk=>exact o.2
  |_=>cases h
 |snw =>
  cases k with
  |snw=>exact o
  |n0=>exact⟨o.1,o.2.1⟩
  |shr=>exact o.2
  |wk=>exact o.2.1
  |_=>cases h
 |shr =>
  cases k with
  |shr=>exact o
  |wk=>exact o.1
  |_=>cases h
 |wk =>
  cases k with
  |wk=>exact o
  |_=>cases h
def eX(A:At p H0 own Hb H){k:Kd}{a:Addr}(o:okK p H0 own Hb k a):¬p.fp a:=by
 have:k.le .wk=true:=by cases k <;> rfl
 exact bw A this o
def iw(A:At p H0 own Hb H){j k:Kd}(h:j.le k=true){v:V}{d:D}{H2:Hp}(r:Rp (okK p H0 own Hb j) H2 v d):Rp (okK p H0 own Hb k) H2 v d :=
 r.mono (λa o=>bw A h o) (λ_ _ _ e=>e) λ_ _ e=>e
def cQ(a b:Kd):a.le (a.join b)=true/\b.le (a.join b)=true:=by
 unfold Kd.join
 by_cases h:a.le b=true
 ·rw[if_pos h];exact⟨h,by cases b <;> simp[Kd.le]⟩
 ·rw[if_neg h]
  by_cases h2:b.le a=true
  ·rw[if_pos h2];exact⟨by cases a <;> simp[Kd.le],h2⟩
  ·rw[if_neg h2]
   by_cases h3:(a.le .n0&&b.le .n0)=true
   ·rw[if_pos h3];exact Î _ _ ▸ h3
   ·rw[if_neg h3]
    by_cases h4:(a.le .shr&&b.le .shr)=true
    ·rw[if_pos h4];exact Î _ _ ▸ h4
    ·rw[if_neg h4];exact⟨by cases a <;> rfl,by cases b <;> rfl⟩
def aM{k:Kd}{v:V}{d:D}{H2:Hp}(r:Rp (okK p H0 own Hb k) H2 v d):Rp (okK p H0 own Hb (norm k d)) H2 v d:=by
 by_cases h:bU d=true
 ·rw[qI h];exact r.imm h
 ·rw[qJ h];exact r
def iM(A:At p H0 own Hb H)(k:Kp p H H'):∀a xs,H a=some (.tup xs)->H' a=some (.tup xs):=λa xs h=>k a _ h λz=>by
 obtain⟨o,e,n⟩:=p.is H a A.pen z
 rw[h] at e
 exact n.1 xs (Ý e).symm
def fK(A:At p H0 own Hb H)(k:Kp p H H'){j:Kd}{v:V}{d:D}(r:Rp (okK p H0 own Hb j) H v d):Rp (okK p H0 own Hb j) H' v d :=
 r.mono (λ_ o=>o) (λa o h e=>k a o e (eX A h)) (iM A k)
def aX(A:At p H0 own Hb H)(k:Kp p H H'){j:Kd}{v:List V}{d:List D}(r:Rps (okK p H0 own Hb j) H v d):Rps (okK p H0 own Hb j) H' v d :=
 r.mono (λ_ o=>o) (λa o h e=>k a o e (eX A h)) (iM A k)
def At.go(A:At p H0 own Hb H)(k:Kp p H H')(i:p.PI H'):At p H0 own Hb H':=⟨A.k0,A.kp.trans k,A.penb,i,A.ow⟩
def At.base{H1:Hp}(A:At p H0 own Hb H)(B:At p H0 own H H1):At p H0 own Hb H1:=⟨A.k0,A.kp.trans B.kp,A.penb,B.pen,A.ow⟩
def HB(A:At p H0 own Hb H){k:Kd}{a:Addr}(o:okK p H0 own H k a):okK p H0 own Hb k a:=by
 cases k <;> first
  |exact o
  |exact A.free o
def gn(A:At p H0 own Hb H){k:Kd}{v:V}{d:D}{H2:Hp}(r:Rp (okK p H0 own H k) H2 v d):Rp (okK p H0 own Hb k) H2 v d :=
 r.mono (λa o=>HB A o) (λ_ _ _ e=>e) λ_ _ e=>e
def At.new(A:At p H0 own Hb H){a:Addr}(h:H a=none)(o:HO):Kp p H (upd H a o)/\p.PI (upd H a o)/\okK p H0 own Hb .new a :=
 have s:Same H (upd H a o):=λb u q=>by rw[ak (aF q h)];exact q
 ⟨Kp.of s,p.mono H _ A.pen λb u _ q=>s b u q,A.free h⟩
end
structure RowsH(own:Addr->Option Nat)(r:Nat)(H:Hp)(st:Addr)(as:List Addr)(L:List (List D)):Prop where
 top:H st=some (.lst (as.map V.ref))
 nd:(st::as).Nodup
 ow:∀a∈st::as,own a=some r
 len:as.length=L.length
 row:∀(j:Nat) (a:Addr) (ds:List D),as[j]?=some a->L[j]?=some ds->∃vs,H a=some (.lst vs)/\Rps (λ_=>False) H vs ds
def RowsH.mono{own own':Addr->Option Nat}{r:Nat}{H H':Hp}{st:Addr}{as:List Addr}{L:List (List D)}(h:RowsH own r H st as L)(g:∀a o,own a=some r->H a=some o->own' a=some r/\H' a=some o)(t:∀a xs,H a=some (.tup xs)->H' a=some (.tup xs)):RowsH own' r H' st as L:=by
 have live:∀a∈st::as,∃o,H a=some o:=λa ha=>by
  rcases â.mp ha with rfl|ha
  ·exact⟨_,h.top⟩
  ·obtain⟨j,hj⟩:=List.getElem?_of_mem ha
   have hl:=(Þ.mp hj).1
   obtain⟨vs,e,_⟩:=h.row j a _ hj (È (by rw[←h.len];exact hl))
   exact⟨_,e⟩
 refine⟨(g st _ (h.ow st Ö) h.top).2,h.nd,λa ha=>?_,h.len,λj a ds e1 e2=>?_⟩
 ·obtain⟨o,e⟩:=live a ha
  exact(g a o (h.ow a ha) e).1
 ·obtain⟨vs,e,r'⟩:=h.row j a ds e1 e2
  exact⟨vs,(g a _ (h.ow a (Ô _ (Ó e1))) e).2,r'.mono (λ_ o=>o) (λ_ _ o=>o.elim) t⟩
def mH{ok:Addr->Prop}{H:Hp}:∀(as:List Addr) (L:List (List D)),as.length=L.length->(∀a∈as,ok a)->(∀(j:Nat) (a:Addr) (ds:List D),as[j]?=some a->L[j]?=some ds->∃vs,H a=some (.lst vs)/\Rps (λ_=>False) H vs ds)->Rps ok H (as.map V.ref) (L.map Ċ)
 |[],[],_,_,_=>.nil
 |a::as,d::L,hl,h,r=>by
  obtain⟨vs,e,rs⟩:=r 0 a d rfl rfl
  exact .cons (.lst (h a Ö) e (rs.mono (λ_ o=>o.elim) (λ_ _ o=>o.elim) λ_ _ e=>e)) (mH as L (by simpa using hl) (λb hb=>h b (Ô _ hb)) λj b ds e1 e2=>r (j+1) b ds e1 e2)
 |[],_::_,hl,_,_=>by cases hl
 |_::_,[],hl,_,_=>by cases hl
def RowsH.rp{own:Addr->Option Nat}{r:Nat}{H:Hp}{st:Addr}{as:List Addr}{L:List (List D)}(h:RowsH own r H st as L):Rp (λa=>own a=some r) H (.ref st) (.list (L.map Ċ)) :=
 .lst (h.ow st Ö) h.top (mH as L h.len (λa ha=>h.ow a (Ô _ ha)) h.row)
structure RowsT(own:Addr->Option Nat)(r:Nat)(H:Hp)(st:Addr)(as:List Addr)(L:List (List D)):Prop where
 top:H st=some (.tup (as.map V.ref))
 nd:as.Nodup
 ow:∀a∈as,own a=some r
 len:as.length=L.length
 row:∀(j:Nat) (a:Addr) (ds:List D),as[j]?=some a->L[j]?=some ds->∃vs,H a=some (.lst vs)/\Rps (λ_=>False) H vs ds
def RowsT.mono{own own':Addr->Option Nat}{r:Nat}{H H':Hp}{st:Addr}{as:List Addr}{L:List (List D)}(h:RowsT own r H st as L)(g:∀a o,own a=some r->H a=some o->own' a=some r/\H' a=some o)(t:∀a xs,H a=some (.tup xs)->H' a=some (.tup xs)):RowsT own' r H' st as L:=by
 refine⟨t st _ h.top,h.nd,λa ha=>?_,h.len,λj a ds e1 e2=>?_⟩
 ·obtain⟨j,hj⟩:=List.getElem?_of_mem ha
  have hl:=(Þ.mp hj).1
  obtain⟨vs,e,_⟩:=h.row j a _ hj (È (by rw[←h.len];exact hl))
  exact(g a _ (h.ow a ha) e).1
 ·obtain⟨vs,e,r'⟩:=h.row j a ds e1 e2
  exact⟨vs,(g a _ (h.ow a (Ó e1)) e).2,r'.mono (λ_ o=>o) (λ_ _ o=>o.elim) t⟩
def RowsT.rp{own:Addr->Option Nat}{r:Nat}{H:Hp}{st:Addr}{as:List Addr}{L:List (List D)}(h:RowsT own r H st as L):Rp (λa=>own a=some r) H (.ref st) (.tuple (L.map Ċ)) :=
 .tup h.top (mH as L h.len h.ow h.row)
def okS(p:Pn)(H0:Hp)(own:Addr->Option Nat)(b:Bool)(a:Addr):Prop:=(b=true->H0 a=none)/\¬p.fp a/\own a=none
def gR(p:Pn)(H0:Hp)(own:Addr->Option Nat)(σ:L2.St)(H:Hp)(i:Nat):Sl->Prop
 |.any=>True
 |.im d=>∃v,σ[i]?=some (some v)/\Rp (λ_=>False) H v d
 |.sh d=>∃v,σ[i]?=some (some v)/\Rp (λa=>¬p.fp a/\own a=none) H v d
 |.sn d=>∃v,σ[i]?=some (some v)/\Rp (λa=>H0 a=none/\¬p.fp a/\own a=none) H v d
 |.dw r d=>∃v,σ[i]?=some (some v)/\Rp (λa=>own a=some r) H v d
 |.pen C=>σ[i]?=some (some p.pv)/\C p
 |.rw r L=>∃st as,σ[i]?=some (some (.ref st))/\RowsH own r H st as L
 |.tw r L=>∃st as,σ[i]?=some (some (.ref st))/\RowsT own r H st as L
 |.scr v b=>σ[i]?=some (some v)/\(b=true->p=eF)
 |.sp r b ds=>∃l vs,σ[i]?=some (some (.ref l))/\own l=some r/\H l=some (.lst vs)/\Rps (okS p H0 own b) H vs ds
structure EnvD[Gr](p:Pn)(H0:Hp)(own:Addr->Option Nat)(σ:L2.St)(H:Hp)(ρ:List Sl):Prop where
 k0:∀b o,H0 b=some o->¬p.fp b->H b=some o
 pen:p.PI H
 ow:∀a r,own a=some r->H0 a=none/\¬p.fp a/\H a≠none
 slot:∀i s,ρ[i]?=some s->gR p H0 own σ H i s
 len:ρ.length=σ.length
 gr:Gr.G p H0
variable [Gr]
section
variable {p:Pn}{H0 H H':Hp}{own:Addr->Option Nat}{σ:L2.St}{ρ:List Sl}
def EnvD.at(E:EnvD p H0 own σ H ρ):At p H0 own H H:=⟨E.k0,Kp.refl,E.pen,E.pen,E.ow⟩
def EnvD.go(E:EnvD p H0 own σ H ρ)(k:Kp p H H')(i:p.PI H'):EnvD p H0 own σ H' ρ:=by
 have A:=E.at
 have tp:=iM A k
 refine⟨λb o e n=>k b o (E.k0 b o e n) n,i,λa r e=>?_,λj s e=>?_,E.len,E.gr⟩
 ·obtain⟨h1,h2,h3⟩:=E.ow a r e
  refine⟨h1,h2,λz=>?_⟩
  cases q:H a with
  |none=>exact h3 q
  |some o=>rw[k a o q h2] at z;cases z
 ·have q:=E.slot j s e
  cases s with
  |any=>trivial
  |im d=>exact let ⟨v,a,b⟩:=q;⟨v,a,b.mono (λ_ o=>o) (λ_ _ o=>o.elim) tp⟩
  |sh d=>exact let ⟨v,a,b⟩:=q;⟨v,a,b.mono (λ_ o=>o) (λc u o e=>k c u e o.1) tp⟩
  |sn d=>exact let ⟨v,a,b⟩:=q;⟨v,a,b.mono (λ_ o=>o) (λc u o e=>k c u e o.2.1) tp⟩
  |dw r d=>exact let ⟨v,a,b⟩:=q;⟨v,a,b.mono (λ_ o=>o) (λc u o e=>k c u e (E.ow c r o).2.1) tp⟩
  |pen C=>exact q
  |rw r L=>exact let ⟨st,as,a,b⟩:=q;⟨st,as,a,b.mono (λc u o e=>⟨o,k c u e (E.ow c r o).2.1⟩) tp⟩
  |tw r L=>exact let ⟨st,as,a,b⟩:=q;⟨st,as,a,b.mono (λc u o e=>⟨o,k c u e (E.ow c r o).2.1⟩) tp⟩
  |scr v b=>exact q
  |sp r b ds=>exact let ⟨l,vs,a,o,h,z⟩:=q;⟨l,vs,a,o,k l _ h (E.ow l r o).2.1,z.mono (λ_ o=>o) (λc u o e=>k c u e o.2.1) tp⟩
end
abbrev DK:=Kd->D->Prop
abbrev DE:=List Sl->DK->Prop
def cI(t:DE):TE:=λσ H Q=>∃p H0 own ρ P,EnvD p H0 own σ H ρ/\t ρ P/\∀k d v H',P k d->At p H0 own H H'->Rp (okK p H0 own H k) H' v d->Q v H'
abbrev PD(X:Cx)(e:Expr)(t:DE):Prop:=PE X e (cI t)
abbrev DA:=List Sl->(List (Kd×D)->Prop)->Prop
inductive RpK(p:Pn)(H0:Hp)(own:Addr->Option Nat)(Hb H:Hp):List V->List (Kd×D)->Prop
 |nil:RpK p H0 own Hb H [] []
 |cons {v:V}{kd:Kd×D}{vs:List V}{ks:List (Kd×D)} (h:Rp (okK p H0 own Hb kd.1) H v kd.2) (t:RpK p H0 own Hb H vs ks):RpK p H0 own Hb H (v::vs) (kd::ks)
def sV(t:DA):TA:=λσ H Q=>∃p H0 own ρ P,EnvD p H0 own σ H ρ/\t ρ P/\∀ks vs H',P ks->At p H0 own H H'->RpK p H0 own H H' vs ks->Q vs H'
abbrev PDA(X:Cx)(es:List Expr)(t:DA):Prop:=PA X es (sV t)
abbrev DT:=List Sl->(Bool->Prop)->Prop
def liftT(t:DT):TT:=λσ H Q=>∃p H0 own ρ P,EnvD p H0 own σ H ρ/\t ρ P/\∀b H',P b->At p H0 own H H'->Q b H'
abbrev PDT(X:Cx)(e:Expr)(t:DT):Prop:=PT X e (liftT t)
def PE.wk{X:Cx}{e:Expr}{t t':TE}(h:PE X e t)(w:∀σ H Q,t' σ H Q->t σ H Q):PE X e t':=λpins s σ H Q I q=>h pins s σ H Q I (w σ H Q q)
def PT.wk{X:Cx}{e:Expr}{t t':TT}(h:PT X e t)(w:∀σ H Q,t' σ H Q->t σ H Q):PT X e t':=λpins s σ H Q I q=>h pins s σ H Q I (w σ H Q q)
def PA.wk{X:Cx}{e:List Expr}{t t':TA}(h:PA X e t)(w:∀σ H Q,t' σ H Q->t σ H Q):PA X e t':=λpos pins s σ H Q I q=>h pos pins s σ H Q I (w σ H Q q)
section
variable {X:Cx}{pos:Pos}{a b:Expr}{ta tb:DE}
def RpK.go{p:Pn}{H0 Hb H H':Hp}{own:Addr->Option Nat}(A:At p H0 own Hb H)(k:Kp p H H'):∀{vs:List V}{ks:List (Kd×D)},RpK p H0 own Hb H vs ks->RpK p H0 own Hb H' vs ks
 |_,_,.nil=>.nil
 |_,_,.cons h t=>.cons (fK A k h) (RpK.go A k t)
def RpK.base{p:Pn}{H0 Hb H H':Hp}{own:Addr->Option Nat}(A:At p H0 own Hb H):∀{vs:List V}{ks:List (Kd×D)},RpK p H0 own H H' vs ks->RpK p H0 own Hb H' vs ks
 |_,_,.nil=>.nil
 |_,_,.cons h t=>.cons (gn A h) (RpK.base A t)
def tV(i:Nat):DE:=λρ P=>match ρ[i]? with
 |some (.im d)=>P .imm d
 |some (.sh d)=>P .shr d
 |some (.sn d)=>P .snw d
 |some (.dw r d)=>P (.reg r) d
 |some (.rw r L)=>P (.reg r) (.list (L.map Ċ))
 |some (.tw r L)=>P (.reg r) (.tuple (L.map Ċ))
 |some (.sp r b ds)=>P (if b=true then .n0 else .wk) (.list ds)
 |_=>False
def Qw{i:Nat}{x:Str}{ps:Pos}(h:PE X (.Name x ps) (rF i)):PD X (.Name x ps) (tV i):=PE.wk h (by
 rintro σ H Q ⟨p,H0,own,ρ,P,E,t,q⟩
 unfold tV at t
 split at t
 ·rename_i d e;obtain⟨v,e1,r⟩:=E.slot i _ e;exact⟨v,e1,q _ _ _ _ t E.at r⟩
 ·rename_i d e;obtain⟨v,e1,r⟩:=E.slot i _ e;exact⟨v,e1,q _ _ _ _ t E.at r⟩
 ·rename_i d e;obtain⟨v,e1,r⟩:=E.slot i _ e;exact⟨v,e1,q _ _ _ _ t E.at r⟩
 ·rename_i d e;obtain⟨v,e1,r⟩:=E.slot i _ e;exact⟨v,e1,q _ _ _ _ t E.at r⟩
 ·rename_i r L e;obtain⟨st,as,e1,h⟩:=E.slot i _ e;exact⟨_,e1,q _ _ _ _ t E.at h.rp⟩
 ·rename_i r L e;obtain⟨st,as,e1,h⟩:=E.slot i _ e;exact⟨_,e1,q _ _ _ _ t E.at h.rp⟩
 ·rename_i r b ds e
  obtain⟨l,vs,e1,o,h,z⟩:=E.slot i _ e
  refine⟨_,e1,q _ _ _ _ t E.at ?_⟩
  cases b with
  |true=>exact .lst ⟨(E.ow l r o).1,(E.ow l r o).2.1⟩ h (z.mono (λc n=>⟨n.1 rfl,n.2.1⟩) (λ_ _ _ e=>e) λ_ _ e=>e)
  |false=>exact .lst (E.ow l r o).2.1 h (z.mono (λc n=>n.2.1) (λ_ _ _ e=>e) λ_ _ e=>e)
 ·exact t.elim)
def tK(d:D):DE:=λ_ P=>P .imm d
def iB{e:Expr}{v:V}{d:D}(h:PE X e (tC v))(r:∀H,Rp (λ_=>False) H v d):PD X e (tK d):=PE.wk h (by
 rintro σ H Q ⟨p,H0,own,ρ,P,E,t,q⟩
 exact q _ _ _ _ t E.at (r H))
def bD{i:Int}{j:Nat}:PD X (.Constant (.int i) j pos) (tK (.int i)):=iB G7 λ_=>.int i
def wM{i:Bool}{j:Nat}:PD X (.Constant (.bool i) j pos) (tK (.bool i)):=iB T5 λ_=>.bl i
def gD{j:Nat}:PD X (.Constant .none j pos) (tK .none):=iB Qt λ_=>.non
def uM{x:Str}{j:Nat}:PD X (.Constant (.str x) j pos) (tK (.str x)):=iB Qo λ_=>.str x
abbrev G2:=Kd->D->Kd->D->DK->Prop
def t2(g:G2)(ta tb:DE):DE:=λρ P=>ta ρ λk1 d1=>tb ρ λk2 d2=>g k1 d1 k2 d2 P
def Ok2(g:G2)(r:R2):Prop:=∀p H0 own Hb H x y k1 d1 k2 d2 P Q,At p H0 own Hb H->Rp (okK p H0 own Hb k1) H x d1->Rp (okK p H0 own Hb k2) H y d2->g k1 d1 k2 d2 P ->
 (∀k d v H',P k d->Kp p H H'->p.PI H'->Rp (okK p H0 own Hb k) H' v d->Q v H')->r x y H Q
def lB{g:G2}{r:R2}(ok:Ok2 g r):∀σ H Q,cI (t2 g ta tb) σ H Q->tOp r (cI ta) (cI tb) σ H Q:=by
 rintro σ H Q ⟨p,H0,own,ρ,P,E,t,q⟩
 refine⟨p,H0,own,ρ,_,E,t,λk1 d1 v1 H1 t1 A1 r1=>?_⟩
 have E1:=E.go A1.kp A1.pen
 refine⟨p,H0,own,ρ,_,E1,t1,λk2 d2 v2 H2 t2 A2 r2=>?_⟩
 have A:At p H0 own H H2:=A1.base A2
 exact ok p H0 own H H2 v1 v2 k1 d1 k2 d2 P Q A (fK A1 A2.kp r1) (gn A1 r2) t2 λk d v H' h k3 i3 r3=>q k d v H' h (A.go k3 i3) r3
def qp{op:Operator}{r:R2}{g:G2}(ho:OpR X (binaryOp op) r)(ok:Ok2 g r)(ha:PD X a ta)(hb:PD X b tb):PD X (.BinOp a op b pos) (t2 g ta tb):=PE.wk (aW ho ha hb) (lB ok)
def gH{op:CmpOp}{r:R2}{g:G2}(ho:OpR X (compareOp op) r)(ok:Ok2 g r)(ha:PD X a ta)(hb:PD X b tb)(hm:behindInMarks op b=false):PD X (.Compare a [op] [b] pos) (t2 g ta tb):=PE.wk (KY ho ha hb hm) (lB ok)
def dD(t:DE):DT:=λρ P=>t ρ λ_ d=>match d with
 |.bool b=>P b
 |_=>False
def kY{t:DE}:∀σ H Q,liftT (dD t) σ H Q->(cI t) σ H (λx H'=>∃k,x=.bl k/\Q k H'):=by
 rintro σ H Q ⟨p,H0,own,ρ,P,E,t,q⟩
 refine⟨p,H0,own,ρ,_,E,t,λk d v H' h A r=>?_⟩
 cases d with
 |bool b=>exact⟨b,r.bl',q b H' h A⟩
 |_=>exact h.elim
def eU{op:CmpOp}{r:R2}{g:G2}(ho:OpR X (compareOp op) r)(ok:Ok2 g r)(ha:PD X a ta)(hb:PD X b tb)(hm:behindInMarks op b=false):PDT X (.Compare a [op] [b] pos) (dD (t2 g ta tb)) :=
 PT.wk (eH ho ha hb hm) λσ H Q h=>lB ok σ H _ (kY σ H Q h)
def gA{e:Expr}{t:DE}(h:PD X e t)(he:∀whole,isTrue e X.env whole=(do let v ←whole;standAt e.pos;holding [v] (truthy v)):=by intro _;rfl):PDT X e (dD t) :=
 PT.wk (Qh h he) λσ H Q q=>kY σ H Q q
def U7(t:DT):DT:=λρ P=>t ρ λb=>P (!b)
def jj{t:DT}(ha:PDT X a t):PDT X (.UnaryOp .Not a pos) (U7 t):=PT.wk (Qi ha) (by
 rintro σ H Q ⟨p,H0,own,ρ,P,E,t,q⟩
 exact⟨p,H0,own,ρ,_,E,t,λb H' h A=>q _ H' h A⟩)
abbrev PDW(X:Cx)(e:Expr)(t:DT):Prop:=PW X e (liftT t)
def PW.wk{X:Cx}{e:Expr}{t t':TT}(h:PW X e t)(w:∀σ H Q,t' σ H Q->t σ H Q):PW X e t':=λwh pins s σ H Q I q=>h wh pins s σ H Q I (w σ H Q q)
def JQ(t u:DT):DT:=λρ P=>t ρ λb=>if b=true then u ρ P else P false
def dOr(t u:DT):DT:=λρ P=>t ρ λb=>if b=true then P true else u ρ P
section
variable {rest:List Expr}{t u:DT}
def dH(ha:PDT X a t):PDW X (.BoolOp .And [a] pos) t:=Bs ha
def cB(ha:PDT X a t):PDW X (.BoolOp .Or [a] pos) t:=GP ha
def Ip:∀σ H Q,liftT (JQ t u) σ H Q->Td (liftT t) (liftT u) σ H Q:=by
 rintro σ H Q ⟨p,H0,own,ρ,P,E,t,q⟩
 refine⟨p,H0,own,ρ,_,E,t,λb H' h A=>?_⟩
 cases b with
 |true=>exact aH ⟨p,H0,own,ρ,P,E.go A.kp A.pen,by simpa using h,λc H2 h2 A2=>q c H2 h2 (A.base A2)⟩
 |false=>exact aL (q false H' (by simpa using h) A)
def LQ:∀σ H Q,liftT (dOr t u) σ H Q->tOr (liftT t) (liftT u) σ H Q:=by
 rintro σ H Q ⟨p,H0,own,ρ,P,E,t,q⟩
 refine⟨p,H0,own,ρ,_,E,t,λb H' h A=>?_⟩
 cases b with
 |true=>exact aH (q true H' (by simpa using h) A)
 |false=>exact aL ⟨p,H0,own,ρ,P,E.go A.kp A.pen,by simpa using h,λc H2 h2 A2=>q c H2 h2 (A.base A2)⟩
def eO(ha:PDT X a t)(hb:PDW X (.BoolOp .And (b::rest) pos) u):PDW X (.BoolOp .And (a::b::rest) pos) (JQ t u):=PW.wk (GQ ha hb) Ip
def uF(ha:PDT X a t)(hb:PDW X (.BoolOp .Or (b::rest) pos) u):PDW X (.BoolOp .Or (a::b::rest) pos) (dOr t u):=PW.wk (N6 ha hb) LQ
def PDW.pt{e:Expr}{t:DT}(h:PDW X e t):PDT X e t:=PW.pt h
end
end
variable [Gr]
section
variable {X:Cx}{pos:Pos}{a b e:Expr}{es:List Expr}{ta tb te:DE}{t:DA}
def vU:DA:=λ_ P=>P []
def iZ(te:DE)(t:DA):DA:=λρ P=>te ρ λk d=>t ρ λks=>P ((k,d)::ks)
def aK:PDA X [] vU:=PA.wk jH (by
 rintro σ H Q ⟨p,H0,own,ρ,P,E,t,q⟩
 exact q [] [] H t E.at .nil)
def aA(ha:PD X e te)(hr:PDA X es t)(hs:zS X e es:=by rfl):PDA X (e::es) (iZ te t):=PA.wk (bN ha hr hs) (by
 rintro σ H Q ⟨p,H0,own,ρ,P,E,t,q⟩
 refine⟨p,H0,own,ρ,_,E,t,λk d v H1 h A r=>?_⟩
 refine⟨p,H0,own,ρ,_,E.go A.kp A.pen,h,λks vs H2 h2 A2 r2=>?_⟩
 exact q _ _ H2 h2 (A.base A2) (.cons (fK A A2.kp r) (RpK.base A r2)))
def joins:List (Kd×D)->Kd
 |[]=>.imm
 |kd::ks=>kd.1.join (joins ks)
def RpK.all{p:Pn}{H0 Hb H H2:Hp}{own:Addr->Option Nat}(A:At p H0 own Hb H):∀{vs:List V}{ks:List (Kd×D)}{k:Kd},(joins ks).le k=true->RpK p H0 own Hb H2 vs ks->Rps (okK p H0 own Hb (joins ks)) H2 vs (ks.map (·.2))
 |_,_,_,_,.nil=>.nil
 |_,kd::ks,k,e,.cons h t=>by
  have j:=cQ kd.1 (joins ks)
  exact .cons (iw A j.1 h) ((RpK.all A (k:=joins ks) (by cases joins ks <;> simp[Kd.le]) t).mono (λa o=>bw A j.2 o) (λ_ _ _ e=>e) λ_ _ e=>e)
def Kd.le_refl(k:Kd):k.le k=true:=by cases k <;> simp[Kd.le]
def RpK.length{p:Pn}{H0 Hb H2:Hp}{own:Addr->Option Nat}:∀{vs:List V}{ks:List (Kd×D)},RpK p H0 own Hb H2 vs ks->vs.length=ks.length
 |_,_,.nil=>rfl
 |_,_,.cons _ t=>by rw[ç,ç,RpK.length t]
def Gf(t:DA):DE:=λρ P=>t ρ λks=>ks.length<=1000/\P ((joins ks).join .new) (.list (ks.map (·.2)))
def yE(t:DA):DE:=λρ P=>t ρ λks=>ks.length<=1000/\P (norm (joins ks) (.tuple (ks.map (·.2)))) (.tuple (ks.map (·.2)))
def gG(h:PDA X es t):PD X (.List es pos) (Gf t):=PE.wk (qb h) (by
 rintro σ H Q ⟨p,H0,own,ρ,P,E,t,q⟩
 refine⟨p,H0,own,ρ,_,E,t,λks vs H1 h A r=>?_⟩
 have h24:=ì
 have hl:=r.length
 refine⟨by have:=h.1;omega,λl hl=>?_⟩
 obtain⟨k2,i2,nw⟩:=A.new hl (.lst vs)
 have j:=cQ (joins ks) .new
 refine q _ _ _ _ h.2 (A.go k2 i2) (.lst (bw A j.2 nw) ao ?_)
 exact(aX A k2 (RpK.all A (Kd.le_refl _) r)).mono (λa o=>bw A j.1 o) (λ_ _ _ e=>e) λ_ _ e=>e)
def j4{x1}(h:PDA X es t):PD X (.Tuple es x1 pos) (yE t):=PE.wk (yR h) (by
 rintro σ H Q ⟨p,H0,own,ρ,P,E,t,q⟩
 refine⟨p,H0,own,ρ,_,E,t,λks vs H1 h A r=>?_⟩
 have h24:=ì
 have hl:=r.length
 refine⟨by have:=h.1;omega,λl hl=>?_⟩
 obtain⟨k2,i2,nw⟩:=A.new hl (.tup vs)
 exact q _ _ _ _ h.2 (A.go k2 i2) (aM (.tup ao (aX A k2 (RpK.all A (Kd.le_refl _) r)))))
abbrev GC:=List (Kd×D)->DK->Prop
def tCl(g:GC)(t:DA):DE:=λρ P=>t ρ λks=>g ks P
def OkC(g:GC)(r:List V->Hp->VK->Prop):Prop:=∀p H0 own Hb H vs ks P Q,At p H0 own Hb H->RpK p H0 own Hb H vs ks->g ks P ->
 (∀k d v H',P k d->Kp p H H'->p.PI H'->Rp (okK p H0 own Hb k) H' v d->Q v H')->r vs H Q
def Ol{g:GC}{r:List V->Hp->VK->Prop}(ok:OkC g r):∀σ H Q,cI (tCl g t) σ H Q->tCB r (sV t) σ H Q:=by
 rintro σ H Q ⟨p,H0,own,ρ,P,E,t,q⟩
 refine⟨p,H0,own,ρ,_,E,t,λks vs H1 h A r=>?_⟩
 exact ok p H0 own H H1 vs ks P Q A r h λk d v H' h2 k2 i2 r2=>q k d v H' h2 (A.go k2 i2) r2
def cM{r:List V->Hp->VK->Prop}{id:String}{x:Str}{ps:Pos}{g:GC}(hc:bC X (.builtin id) r)(ok:OkC g r)(hg:Gl X x)(hm:X.mg x=none)(hv:bootBuiltins x=some (.builtin id))(ha:PDA X (e::es) t)(hn:x≠"__name__":=by decide)(hdb:zB x:=by decide)(he:zS X e es:=by rfl)(hpl:zP X pos es:=by rfl):PD X (.Call (.Name x ps) (e::es) [] pos) (tCl g t):=PE.wk (dG hc hg hm hv ha hn hdb he hpl) (Ol ok)
def j8{r:List V->Hp->VK->Prop}{id:String}{x:Str}{ps:Pos}{g:GC}(hc:bC X (.type id) r)(ok:OkC g r)(hg:Gl X x)(hm:X.mg x=none)(hv:bootBuiltins x=some (.type id))(ha:PDA X (e::es) t)(hn:x≠"__name__":=by decide)(hdb:zB x:=by decide)(he:zS X e es:=by rfl)(hpl:zP X pos es:=by rfl):PD X (.Call (.Name x ps) (e::es) [] pos) (tCl g t):=PE.wk (fQ hc hg hm hv ha hn hdb he hpl) (Ol ok)
def spD(t:List D->(D->Prop)->Prop):Sp:=λvs H Q _=>∃ds P,Rps (λ_=>True) H vs ds/\t ds P/\∀d v H',P d->Same H H'->Rp (λa=>H a=none) H' v d->Q v H'
def tFn(f:List D->(D->Prop)->Prop)(t:DA):DE:=λρ P=>t ρ λks=>f (ks.map (·.2)) λd=>P (norm .new d) d
def RpK.rps{p:Pn}{H0 Hb H H2:Hp}{own:Addr->Option Nat}(A:At p H0 own Hb H):∀{vs:List V}{ks:List (Kd×D)},RpK p H0 own Hb H2 vs ks->Rps (λa=>¬p.fp a) H2 vs (ks.map (·.2))
 |_,_,.nil=>.nil
 |_,_,.cons h t=>.cons (h.mono (λa o=>eX A o) (λ_ _ _ e=>e) λ_ _ e=>e) (RpK.rps A t)
def LR{f:List D->(D->Prop)->Prop}:∀σ H Q,cI (tFn f t) σ H Q->rZ (spD f) [] E0 (sV t) σ H Q:=by
 rintro σ H Q ⟨p,H0,own,ρ,P,E,t,q⟩
 refine⟨p,H0,own,ρ,_,E,t,λks vs H1 h A r=>?_⟩
 show spD f (vs++[]) H1 Q E0
 rw[í]
 refine⟨ks.map (·.2),_,(RpK.rps A r).mono (λ_ _=>trivial) (λ_ _ _ e=>e) λ_ _ e=>e,h,λd v H' h2 s r2=>?_⟩
 have k2:Kp p H1 H':=Kp.of s
 refine q _ d v H' h2 (A.go k2 (p.mono H1 H' A.pen λb o _ e=>s b o e)) (aM ?_)
 exact r2.mono (λa o=>A.free o) (λ_ _ _ e=>e) λ_ _ e=>e
def Vt(C:Pn->Prop)(f:List D->(D->Prop)->Prop)(i:Nat)(t:DA):DE:=λρ P=>ρ[i]?=some (.pen C)/\tFn f t ρ P
def gI(C:Int->Int->Prop)(f:Int->Int->D):G2:=λ_ d1 _ d2 P=>match d1,d2 with
 |.int i,.int j=>C i j/\P .imm (f i j)
 |_,_=>False
def gI0(f:Int->Int->D):G2:=λ_ d1 _ d2 P=>match d1,d2 with
 |.int i,.int j=>P .imm (f i j)
 |_,_=>False
def okI{C:Int->Int->Prop}{f:Int->Int->D}{g:Int->Int->V}(h:∀i j H,Rp (λ_=>False) H (g i j) (f i j)):Ok2 (gI C f) (rI C g):=by
 intro p H0 own Hb H x y k1 d1 k2 d2 P Q A r1 r2 t q
 unfold gI at t
 split at t
 ·rename_i i j
  exact⟨i,j,r1.int',r2.int',t.1,q _ _ _ _ t.2 Kp.refl A.pen (h i j H)⟩
 ·exact t.elim
def qG{f:Int->Int->D}{g:Int->Int->V}(h:∀i j H,Rp (λ_=>False) H (g i j) (f i j)):Ok2 (gI0 f) (rI0 g):=by
 intro p H0 own Hb H x y k1 d1 k2 d2 P Q A r1 r2 t q
 unfold gI0 at t
 split at t
 ·rename_i i j
  exact⟨i,j,r1.int',r2.int',q _ _ _ _ t Kp.refl A.pen (h i j H)⟩
 ·exact t.elim
def QB(ha:PD X a ta)(hb:PD X b tb):PD X (.BinOp a .Add b pos) (t2 (gI0 λi j=>.int (i+j)) ta tb):=qp dJ (qG λi j _=>.int _) ha hb
def ql(ha:PD X a ta)(hb:PD X b tb):PD X (.BinOp a .Sub b pos) (t2 (gI0 λi j=>.int (i - j)) ta tb):=qp Hj (qG λi j _=>.int _) ha hb
def zj(ha:PD X a ta)(hb:PD X b tb):PD X (.BinOp a .Mod b pos) (t2 (gI (λ_ j=>0<j) λi j=>.int (i % j)) ta tb):=qp d9 (okI λi j _=>.int _) ha hb
def mL(ha:PD X a ta)(hb:PD X b tb):PD X (.BinOp a .Pow b pos) (t2 (gI Sd λi j=>.int (i ^ j.toNat)) ta tb):=qp Ho (okI λi j _=>.int _) ha hb
def BP(ha:PD X a ta)(hb:PD X b tb):PD X (.Compare a [.Lt] [b] pos) (t2 (gI0 λi j=>.bool (decide (i<j))) ta tb):=gH Cd (qG λi j _=>.bl _) ha hb (bx _)
def Hf(ha:PD X a ta)(hb:PD X b tb):PD X (.Compare a [.LtE] [b] pos) (t2 (gI0 λi j=>.bool (decide (i<=j))) ta tb):=gH Hq (qG λi j _=>.bl _) ha hb (bx _)
def BX(ha:PD X a ta)(hb:PD X b tb):PD X (.Compare a [.Gt] [b] pos) (t2 (gI0 λi j=>.bool (decide (j<i))) ta tb):=gH wN (qG λi j _=>.bl _) ha hb (bx _)
def wL(ha:PD X a ta)(hb:PD X b tb):PD X (.Compare a [.GtE] [b] pos) (t2 (gI0 λi j=>.bool (decide (j<=i))) ta tb):=gH Oa (qG λi j _=>.bl _) ha hb (bx _)
def yV(ha:PD X a ta)(hb:PD X b tb):PDT X (.Compare a [.Lt] [b] pos) (dD (t2 (gI0 λi j=>.bool (decide (i<j))) ta tb)):=eU Cd (qG λi j _=>.bl _) ha hb (bx _)
def uH(ha:PD X a ta)(hb:PD X b tb):PDT X (.Compare a [.LtE] [b] pos) (dD (t2 (gI0 λi j=>.bool (decide (i<=j))) ta tb)):=eU Hq (qG λi j _=>.bl _) ha hb (bx _)
def qg(ha:PD X a ta)(hb:PD X b tb):PDT X (.Compare a [.Gt] [b] pos) (dD (t2 (gI0 λi j=>.bool (decide (j<i))) ta tb)):=eU wN (qG λi j _=>.bl _) ha hb (bx _)
def scD:D->D->Option Bool
 |.int i,.int j=>some (decide (i=j))
 |.bool i,.bool j=>some (decide (i=j))
 |.str i,.str j=>some (decide (i=j))
 |_,_=>none
def gEq(neg:Bool):G2:=λ_ d1 _ d2 P=>match scD d1 d2 with
 |some b=>P .imm (.bool (if neg then !b else b))
 |none=>False
def VN:Ok2 (gEq false) rEq:=by
 intro p H0 own Hb H x y k1 d1 k2 d2 P Q A r1 r2 t q
 unfold gEq scD at t
 split at t
 ·rename_i b e
  split at e <;> first|cases e|skip
  ·rw[r1.int',r2.int']
   refine⟨rfl,?_⟩
   have e2:∀i j:Int,decide (V.int i=V.int j)=decide (i=j):=λi j=>by simp
   rw[e2];exact q _ _ _ _ t Kp.refl A.pen (.bl _)
  ·rw[r1.bl',r2.bl']
   refine⟨rfl,?_⟩
   have e2:∀i j:Bool,decide (V.bl i=V.bl j)=decide (i=j):=λi j=>by simp
   rw[e2];exact q _ _ _ _ t Kp.refl A.pen (.bl _)
  ·rw[r1.str',r2.str']
   refine⟨rfl,?_⟩
   have e2:∀i j:Str,decide (V.str i=V.str j)=decide (i=j):=λi j=>by simp
   rw[e2];exact q _ _ _ _ t Kp.refl A.pen (.bl _)
 ·exact t.elim
def Ue:Ok2 (gEq true) rNe:=by
 intro p H0 own Hb H x y k1 d1 k2 d2 P Q A r1 r2 t q
 unfold gEq scD at t
 split at t
 ·rename_i b e
  split at e <;> first|cases e|skip
  ·rw[r1.int',r2.int']
   refine⟨rfl,?_⟩
   have e2:∀i j:Int,decide (V.int i=V.int j)=decide (i=j):=λi j=>by simp
   rw[e2];exact q _ _ _ _ t Kp.refl A.pen (.bl _)
  ·rw[r1.bl',r2.bl']
   refine⟨rfl,?_⟩
   have e2:∀i j:Bool,decide (V.bl i=V.bl j)=decide (i=j):=λi j=>by simp
   rw[e2];exact q _ _ _ _ t Kp.refl A.pen (.bl _)
  ·rw[r1.str',r2.str']
   refine⟨rfl,?_⟩
   have e2:∀i j:Str,decide (V.str i=V.str j)=decide (i=j):=λi j=>by simp
   rw[e2];exact q _ _ _ _ t Kp.refl A.pen (.bl _)
 ·exact t.elim
def T6(ha:PD X a ta)(hb:PD X b tb):PD X (.Compare a [.NotEq] [b] pos) (t2 (gEq true) ta tb):=gH Ca Ue ha hb (bx _)
def gIx:G2:=λk1 d1 _ d2 P=>match d1,d2 with
 |.list ds,.int i=>∃d,atI ds i=some d/\P (norm k1 d) d
 |.tuple ds,.int i=>∃d,atI ds i=some d/\P (norm k1 d) d
 |_,_=>False
def Rps.atI{ok:Addr->Prop}{H:Hp}{vs:List V}{ds:List D}{i:Int}{d:D}(r:Rps ok H vs ds)(h:L2.atI ds i=some d):∃v,L2.atI vs i=some v/\Rp ok H v d:=by
 unfold L2.atI at h ⊢
 rw[r.length]
 cases e:ixN ds.length i with
 |none=>rw[e] at h;cases h
 |some j =>
  rw[e] at h
  obtain⟨v,h1,h2⟩:=r.getD (i:=j) (d:=d) h
  exact⟨v,h1,h2⟩
def Uy:G2:=λk1 d1 _ d2 P=>match d1,d2 with
 |.tuple ds,.int i=>∃d,atI ds i=some d/\P (norm k1 d) d
 |_,_=>False
def jG(ha:PD X a ta)(hb:PD X b tb)(hs:lY b):PD X (.Subscript a b pos) (t2 Uy ta tb):=PE.wk (eN zX ha hb hs) (lB (by
 intro p H0 own Hb H x y k1 d1 k2 d2 P Q A r1 r2 t q
 unfold Uy at t
 split at t
 ·rename_i ds i
  obtain⟨d,hd,t⟩:=t
  obtain⟨c,vs,rfl,hc,rs⟩:=r1.d7
  obtain⟨v,hv,rv⟩:=rs.atI hd
  exact⟨c,vs,i,v,rfl,r2.int',SqT.of hc,hv,q _ _ _ _ t Kp.refl A.pen (aM rv)⟩
 ·exact t.elim))
def dN{p:Pn}{H0 Hb H:Hp}{own:Addr->Option Nat}{vs:List V}{kd:Kd×D}(r:RpK p H0 own Hb H vs [kd]):∃v,vs=[v]/\Rp (okK p H0 own Hb kd.1) H v kd.2:=by
 cases r with
 |cons h t=>cases t;exact⟨_,rfl,h⟩
def Qd{p:Pn}{H0 Hb H:Hp}{own:Addr->Option Nat}{vs:List V}{kd ke:Kd×D}(r:RpK p H0 own Hb H vs [kd,ke]):∃v w,vs=[v,w]/\Rp (okK p H0 own Hb kd.1) H v kd.2/\Rp (okK p H0 own Hb ke.1) H w ke.2:=by
 cases r with
 |cons h t =>
  cases t with
  |cons h2 t2=>cases t2;exact⟨_,_,rfl,h,h2⟩
def MF:GC:=λks P=>match ks with
 |[(_,.list ds)]=>P .imm (.int ds.length)
 |[(_,.tuple ds)]=>P .imm (.int ds.length)
 |_=>False
def Ug{K:Ñ}:OkC MF (λxs H Q=>∃p ys,xs=[.ref p]/\(SqL K H p ys\/SqT K H p ys)/\Q (.int ys.length) H):=by
 intro p H0 own Hb H vs ks P Q A r t q
 unfold MF at t
 split at t
 ·obtain⟨v,rfl,r'⟩:=dN r
  obtain⟨c,vs,rfl,o,hc,rs⟩:=r'.cj
  exact⟨c,vs,rfl,.inl (SqL.of hc),by rw[rs.length];exact q _ _ _ _ t Kp.refl A.pen (.int _)⟩
 ·obtain⟨v,rfl,r'⟩:=dN r
  obtain⟨c,vs,rfl,hc,rs⟩:=r'.d7
  exact⟨c,vs,rfl,.inr (SqT.of hc),by rw[rs.length];exact q _ _ _ _ t Kp.refl A.pen (.int _)⟩
 ·exact t.elim
def qu{ps:Pos}(hm:X.mg "len"=none)(ha:PDA X [a] t)(hg:Gl X "len":=by rfl)(he:zS X a []:=by rfl)(hpl:zP X pos []:=by rfl):PD X (.Call (.Name "len" ps) [a] [] pos) (tCl MF t) :=
 cM cV Ug hg hm PySem.boot_len ha (by decide) (by decide) he hpl
def Rt:GC:=λks P=>match ks with
 |[(_,.int i)]=>P .imm (.int i)
 |[(_,.bool b)]=>P .imm (.int (if b then 1 else 0))
 |_=>False
def uQ{ps:Pos}(hm:X.mg "int"=none)(hv:bootBuiltins "int"=some (.type "int"))(ha:PDA X [a] t)(hg:Gl X "int":=by rfl)(he:zS X a []:=by rfl)(hpl:zP X pos []:=by rfl):PD X (.Call (.Name "int" ps) [a] [] pos) (tCl Rt t) :=
 j8 Fq (by
  intro p H0 own Hb H vs ks P Q A r t q
  unfold Rt at t
  split at t
  ·rename_i k i
   obtain⟨v,rfl,r'⟩:=dN r
   rw[r'.int']
   exact .inl ⟨i,rfl,q _ _ _ _ t Kp.refl A.pen (.int _)⟩
  ·rename_i k i
   obtain⟨v,rfl,r'⟩:=dN r
   rw[r'.bl']
   exact .inr ⟨i,rfl,q _ _ _ _ t Kp.refl A.pen (.int _)⟩
  ·exact t.elim) hg hm hv ha (by decide) (by decide) he hpl
end
variable [Gr]
section
variable {ok ok':Addr->Prop}{H H':Hp}
mutual
def Rp.cO(f:∀a o,ok a->H a=some o->ok' a/\H' a=some o)(t:∀a xs,H a=some (.tup xs)->H' a=some (.tup xs)):∀{v:V}{d:D},Rp ok H v d->Rp ok' H' v d
 |_,_,.non=>.non
 |_,_,.bl b=>.bl b
 |_,_,.int i=>.int i
 |_,_,.str x=>.str x
 |_,_,.lst o h r=>.lst (f _ _ o h).1 (f _ _ o h).2 (Rps.cO f t r)
 |_,_,.tup h r=>.tup (t _ _ h) (Rps.cO f t r)
 |_,_,.dct o h r=>.dct (f _ _ o h).1 (f _ _ o h).2 (Rkv.cO f t r)
def Rps.cO(f:∀a o,ok a->H a=some o->ok' a/\H' a=some o)(t:∀a xs,H a=some (.tup xs)->H' a=some (.tup xs)):∀{v:List V}{d:List D},Rps ok H v d->Rps ok' H' v d
 |_,_,.nil=>.nil
 |_,_,.cons h r=>.cons (Rp.cO f t h) (Rps.cO f t r)
def Rkv.cO(f:∀a o,ok a->H a=some o->ok' a/\H' a=some o)(t:∀a xs,H a=some (.tup xs)->H' a=some (.tup xs)):∀{v:List (Key×V)}{d:List (D×D)},Rkv ok H v d->Rkv ok' H' v d
 |_,_,.nil=>.nil
 |_,_,.cons h r=>.cons (Rp.cO f t h) (Rkv.cO f t r)
end
end
structure DEnds where
 nx:List Sl->Prop
 rt:D->Prop
 bk:List Sl->Prop:=λ_=>False
 ct:List Sl->Prop:=λ_=>False
abbrev DS:=DEnds->List Sl->Prop
structure FrS(p:Pn)(own:Addr->Option Nat)(H:Hp)(own':Addr->Option Nat)(H':Hp):Prop where
 keep:∀b o,H b=some o->¬p.fp b->own b=none->H' b=some o/\own' b=none
 tup:∀a xs,H a=some (.tup xs)->H' a=some (.tup xs)
def FrS.trans{p:Pn}{o1 o2 o3:Addr->Option Nat}{H1 H2 H3:Hp}(a:FrS p o1 H1 o2 H2)(b:FrS p o2 H2 o3 H3):FrS p o1 H1 o3 H3:=⟨λc o h n e=>let ⟨x,y⟩:=a.keep c o h n e;b.keep c o x n y,λc xs e=>b.tup c xs (a.tup c xs e)⟩
def FrS.refl{p:Pn}{o1:Addr->Option Nat}{H1:Hp}:FrS p o1 H1 o1 H1:=⟨λ_ _ h _ e=>⟨h,e⟩,λ_ _ e=>e⟩
def At.tups{p:Pn}{H0 H H':Hp}{own:Addr->Option Nat}(A:At p H0 own H H'):∀a xs,H a=some (.tup xs)->H' a=some (.tup xs):=iM (⟨A.k0,Kp.refl,A.penb,A.penb,A.ow⟩:At p H0 own H H) A.kp
structure RPost(p:Pn)(H0 H':Hp)(v:V)(d:D):Prop where
 k0:∀b o,H0 b=some o->¬p.fp b->H' b=some o
 pen:p.PI H'
 rp:Rp (λa=>H0 a=none/\¬p.fp a) H' v d
structure Wish(p:Pn)(H0:Hp)(own:Addr->Option Nat)(H:Hp)(P:DEnds)(Q:Ends):Prop where
 nx:∀own' σ' H' ρ',EnvD p H0 own' σ' H' ρ'->FrS p own H own' H'->P.nx ρ'->Q.nx σ' H'
 rt:∀d v H',P.rt d->RPost p H0 H' v d->Q.rt v H'
 bk:∀own' σ' H' ρ',EnvD p H0 own' σ' H' ρ'->FrS p own H own' H'->P.bk ρ'->Q.bk σ' H'
 ct:∀own' σ' H' ρ',EnvD p H0 own' σ' H' ρ'->FrS p own H own' H'->P.ct ρ'->Q.ct σ' H'
def Wish.go{p:Pn}{H0 H H':Hp}{own own':Addr->Option Nat}{P:DEnds}{Q:Ends}(w:Wish p H0 own H P Q)(f:FrS p own H own' H'):Wish p H0 own' H' P Q :=
 ⟨λo s h r e g n=>w.nx o s h r e (f.trans g) n,w.rt,λo s h r e g n=>w.bk o s h r e (f.trans g) n,λo s h r e g n=>w.ct o s h r e (f.trans g) n⟩
def nU(t:DS):TS:=λQ σ H=>∃p H0 own ρ P,EnvD p H0 own σ H ρ/\t P ρ/\Wish p H0 own H P Q
abbrev PDS(X:Cx)(st:Stmt)(t:DS):Prop:=PS X st (nU t)
abbrev lZ(X:Cx)(st:List Stmt)(t:DS):Prop:=PSs X st (nU t)
def PSs.wk'{X:Cx}{ss:List Stmt}{t t':TS}(h:PSs X ss t)(w:∀D σ H,t' D σ H->t D σ H):PSs X ss t':=λpins s σ H D I q=>h pins s σ H D I (w D σ H q)
def PS.wk'{X:Cx}{ss:Stmt}{t t':TS}(h:PS X ss t)(w:∀D σ H,t' D σ H->t D σ H):PS X ss t':=λpins s σ H D I q=>h pins s σ H D I (w D σ H q)
def At.frs{p:Pn}{H0 H H':Hp}{own:Addr->Option Nat}(A:At p H0 own H H'):FrS p own H own H':=⟨λb o h n e=>⟨A.kp b o h n,e⟩,A.tups⟩
section
variable {X:Cx}{pos:Pos}{st:Stmt}{rest:List Stmt}{e:Expr}{te:DE}{t u:DS}
def JN:DS:=λP ρ=>P.nx ρ
def JK(t u:DS):DS:=λP ρ=>t { P with nx:=u P } ρ
def nu:lZ X [] JN:=PSs.wk' jX (by
 rintro Q σ H ⟨p,H0,own,ρ,P,E,t,w⟩
 exact w.nx own σ H ρ E FrS.refl t)
def dU(h1:PDS X st t)(h2:lZ X rest u):lZ X (st::rest) (JK t u):=PSs.wk' (aQ h1 h2) (by
 rintro Q σ H ⟨p,H0,own,ρ,P,E,t,w⟩
 exact⟨p,H0,own,ρ,_,E,t,⟨λo s h r e g n=>⟨p,H0,o,r,P,e,n,w.go g⟩,w.rt,w.bk,w.ct⟩⟩)
def bF(h1:PDS X st t):lZ X [st] t:=bH h1
def JF:PDS X st (λ_ _=>False):=PS.wk' GX (by
 rintro Q σ H ⟨p,H0,own,ρ,P,E,t,w⟩
 exact t)
def JL(te:DE):DS:=λP ρ=>te ρ λk d=>k.le .n0=true/\P.rt d
def bV(he:PD X e te):PDS X (.Return (some e) pos) (JL te):=PS.wk' (gq he) (by
 rintro Q σ H ⟨p,H0,own,ρ,P,E,t,w⟩
 refine⟨p,H0,own,ρ,_,E,t,λk d v H' h A r=>w.rt d v H' h.2 ⟨λb o e n=>A.kp b o (A.k0 b o e n) n,A.pen,?_⟩⟩
 exact iw A h.1 r)
def dIf(c:DT)(t u:DS):DS:=λP ρ=>c ρ λb=>if b=true then t P ρ else u P ρ
def tL{c:Expr}{a b:List Stmt}{tc:DT}(hc:PDT X c tc)(ha:lZ X a t)(hb:lZ X b u):PDS X (.If c a b pos) (dIf tc t u):=PS.wk' (pY hc ha hb) (by
 rintro Q σ H ⟨p,H0,own,ρ,P,E,t,w⟩
 refine⟨p,H0,own,ρ,_,E,t,λb H' h A=>?_⟩
 cases b with
 |true=>exact aH ⟨p,H0,own,ρ,P,E.go A.kp A.pen,by simpa using h,w.go A.frs⟩
 |false=>exact aL ⟨p,H0,own,ρ,P,E.go A.kp A.pen,by simpa using h,w.go A.frs⟩)
def Oz(te:DE):DS:=λP ρ=>te ρ λ_ _=>P.nx ρ
def jr(he:PD X e te)(hs:swapsWith e none pos.line X.env=pure false:=by rfl):PDS X (.Expr e pos) (Oz te):=PS.wk' (dz he hs) (by
 rintro Q σ H ⟨p,H0,own,ρ,P,E,t,w⟩
 exact⟨p,H0,own,ρ,_,E,t,λk d v H' h A r=>w.nx own σ H' ρ (E.go A.kp A.pen) A.frs h⟩)
def Sl.region:Sl->Option Nat
 |.dw r _=>some r
 |.rw r _=>some r
 |.tw r _=>some r
 |.sp r _ _=>some r
 |_=>none
def Jr(r:Nat)(ρ:List Sl)(i:Nat):Bool:=(ρ.set i .any).all λs=>s.region != some r
def stK(rg:Option Nat)(ρ:List Sl)(i:Nat)(k:Kd)(d:D):Option Sl:=match k with
 |.imm=>some (.im d)
 |.new=>match rg with
  |some r=>if Jr r ρ i=true then some (.dw r d) else none
  |none=>some (.sn d)
 |.reg r=>some (.dw r d)
 |.snw=>some (.sn d)
 |.shr=>some (.sh d)
 |_=>none
def vL(i:Nat)(rg:Option Nat)(te:DE):DS:=λP ρ=>te ρ λk d=>match stK rg ρ i (norm k d) d with
 |some s=>P.nx (ρ.set i s)
 |none=>False
section
variable {p:Pn}{H0 H H1:Hp}{own:Addr->Option Nat}{σ:L2.St}{ρ:List Sl}{i:Nat}
def EnvD.set{v:V}{s:Sl}(E:EnvD p H0 own σ H ρ)(hs:i<σ.length->gR p H0 own (σ.set i (some v)) H i s):EnvD p H0 own (σ.set i (some v)) H (ρ.set i s):=by
 refine⟨E.k0,E.pen,E.ow,λj s' e=>?_,by simpa using E.len,E.gr⟩
 by_cases hj:j=i
 ·subst hj
  have hl:j<ρ.length:=by
   have:=(Þ.mp e).1
   simpa using this
  rw[ą hl] at e
  cases e
  exact hs (by rw[←E.len];exact hl)
 ·rw[Ę (ă hj)] at e
  have q:=E.slot j s' e
  have eq:(σ.set i (some v))[j]?=σ[j]?:=Ę (ă hj)
  cases s' <;> simp only[gR,eq] at q ⊢ <;> exact q
def cu(r:Nat)(H H1:Hp)(own:Addr->Option Nat):Addr->Option Nat:=λa=>match H a,H1 a with
 |none,some _=>some r
 |_,_=>own a
def bL{r:Nat}{a:Addr}{o:HO}(h:H a=some o):cu r H H1 own a=own a:=by unfold cu;rw[h]
def ug{r:Nat}{a:Addr}{o:HO}(h:H a=none)(h1:H1 a=some o):cu r H H1 own a=some r:=by unfold cu;rw[h,h1]
def EnvD.adopt(r:Nat)(E:EnvD p H0 own σ H ρ)(A:At p H0 own H H1):EnvD p H0 (cu r H H1 own) σ H1 ρ:=by
 have tp:=iM E.at A.kp
 refine⟨λb o e n=>A.kp b o (E.k0 b o e n) n,A.pen,λa q e=>?_,λj s e=>?_,E.len,E.gr⟩
 ·cases h:H a with
  |some o =>
   rw[bL h] at e
   obtain⟨x,y,z⟩:=E.ow a q e
   refine⟨x,y,by rw[A.kp a o h y];exact λz=>nomatch z⟩
  |none =>
   cases h1:H1 a with
   |none =>
    have e':own a=some q:=by rw[←e];unfold cu;rw[h,h1]
    exact absurd h (E.ow a q e').2.2
   |some o=>exact⟨E.at.h0 h,E.at.nfb h,λz=>nomatch z⟩
 ·have q:=E.slot j s e
  cases s with
  |any=>trivial
  |im d=>exact let ⟨v,a,b⟩:=q;⟨v,a,b.mono (λ_ o=>o) (λ_ _ o=>o.elim) tp⟩
  |sh d=>exact let ⟨v,a,b⟩:=q;⟨v,a,b.cO (λc o n h=>⟨⟨n.1,by rw[bL h];exact n.2⟩,A.kp c o h n.1⟩) tp⟩
  |sn d=>exact let ⟨v,a,b⟩:=q;⟨v,a,b.cO (λc o n h=>⟨⟨n.1,n.2.1,by rw[bL h];exact n.2.2⟩,A.kp c o h n.2.1⟩) tp⟩
  |dw r' d=>exact let ⟨v,a,b⟩:=q;⟨v,a,b.cO (λc o n h=>⟨by rw[bL h];exact n,A.kp c o h (E.ow c r' n).2.1⟩) tp⟩
  |pen C=>exact q
  |rw r' L=>exact let ⟨st,as,a,b⟩:=q;⟨st,as,a,b.mono (λc o n h=>⟨by rw[bL h];exact n,A.kp c o h (E.ow c r' n).2.1⟩) tp⟩
  |tw r' L=>exact let ⟨st,as,a,b⟩:=q;⟨st,as,a,b.mono (λc o n h=>⟨by rw[bL h];exact n,A.kp c o h (E.ow c r' n).2.1⟩) tp⟩
  |scr v b=>exact q
  |sp r' b ds=>exact let ⟨l,vs,a,o,h,z⟩:=q;⟨l,vs,a,by rw[bL h];exact o,A.kp l _ h (E.ow l r' o).2.1,z.cO (λc u n e=>⟨⟨n.1,n.2.1,by rw[bL e];exact n.2.2⟩,A.kp c u e n.2.1⟩) tp⟩
def yq{r:Nat}{k:Kd}{v:V}{d:D}(h:k.le .new=true)(A:At p H0 own H H1)(x:Rp (okK p H0 own H k) H1 v d):Rp (λa=>cu r H H1 own a=some r) H1 v d :=
 (iw A h x).cO (λa o n e=>⟨ug n e,e⟩) λ_ _ e=>e
def nH{r:Nat}(A:At p H0 own H H1):FrS p own H (cu r H H1 own) H1:=⟨λb o h n e=>⟨A.kp b o h n,by rw[bL h];exact e⟩,A.tups⟩
def EnvD.drop(E:EnvD p H0 own σ H ρ):EnvD p H0 own σ H (ρ.set i .any):=by
 refine⟨E.k0,E.pen,E.ow,λj s' e=>?_,by simpa using E.len,E.gr⟩
 by_cases hj:j=i
 ·subst hj
  have hl:j<ρ.length:=by
   have:=(Þ.mp e).1
   simpa using this
  rw[ą hl] at e
  cases e
  trivial
 ·rw[Ę (ă hj)] at e
  exact E.slot j s' e
def bR(r:Nat)(own:Addr->Option Nat):Addr->Option Nat:=λa=>if own a=some r then none else own a
def EnvD.clear{r:Nat}(E:EnvD p H0 own σ H ρ)(h:ρ.all (λs=>s.region != some r)=true):EnvD p H0 (bR r own) σ H ρ:=by
 refine⟨E.k0,E.pen,λa q e=>?_,λj s e=>?_,E.len,E.gr⟩
 ·unfold bR at e
  split at e
  ·cases e
  ·exact E.ow a q e
 ·have q:=E.slot j s e
  have z:=Ą.mp h s (Ó e)
  have c0:∀a,own a=none->bR r own a=none:=λa n=>by unfold bR;rw[n];simp
  cases s with
  |any=>trivial
  |im d=>exact q
  |sh d=>exact let ⟨v,a,b⟩:=q;⟨v,a,b.mono (λc n=>⟨n.1,c0 c n.2⟩) (λ_ _ _ e=>e) λ_ _ e=>e⟩
  |sn d=>exact let ⟨v,a,b⟩:=q;⟨v,a,b.mono (λc n=>⟨n.1,n.2.1,c0 c n.2.2⟩) (λ_ _ _ e=>e) λ_ _ e=>e⟩
  |dw r' d =>
   have hne:r'≠r:=by simpa[Sl.region] using z
   exact let ⟨v,a,b⟩:=q;⟨v,a,b.mono (λc n=>by unfold bR;rw[n,if_neg (by simpa using hne)]) (λ_ _ _ e=>e) λ_ _ e=>e⟩
  |pen C=>exact q
  |rw r' L =>
   have hne:r'≠r:=by simpa[Sl.region] using z
   exact let ⟨st,as,a,b⟩:=q;⟨st,as,a,b.mono (λc o n e=>⟨by unfold bR;rw[n,if_neg (by simpa using hne)],e⟩) λ_ _ e=>e⟩
  |tw r' L =>
   have hne:r'≠r:=by simpa[Sl.region] using z
   exact let ⟨st,as,a,b⟩:=q;⟨st,as,a,b.mono (λc o n e=>⟨by unfold bR;rw[n,if_neg (by simpa using hne)],e⟩) λ_ _ e=>e⟩
  |scr v b=>exact q
  |sp r' b ds =>
   have hne:r'≠r:=by simpa[Sl.region] using z
   exact let ⟨l,vs,a,o,h,y⟩:=q;⟨l,vs,a,by unfold bR;rw[o,if_neg (by simpa using hne)],h,y.mono (λc n=>⟨n.1,n.2.1,c0 c n.2.2⟩) (λ_ _ _ e=>e) λ_ _ e=>e⟩
def tW{r:Nat}:FrS p own H (bR r own) H:=⟨λb o h n e=>⟨h,by unfold bR;rw[e];simp⟩,λ_ _ e=>e⟩
end
def jL{i:Nat}(rg:Option Nat)(h:PS X st (rG (cI te) (iQ i))):PDS X st (vL i rg te):=PS.wk' h (by
 rintro Q σ H ⟨p,H0,own,ρ,P,E,t,w⟩
 refine⟨p,H0,own,ρ,_,E,t,λk d v H1 h A r=>?_⟩
 have r:=aM r
 generalize norm k d=k' at h r
 show Q.nx (σ.set i (some v)) H1
 have E1:=E.go A.kp A.pen
 have fin:∀s,gR p H0 own (σ.set i (some v)) H1 i s\/¬i<σ.length->P.nx (ρ.set i s)->Q.nx (σ.set i (some v)) H1:=λs hs hn =>
  w.nx own _ H1 _ (E1.set λhl=>hs.elim id λz=>absurd hl z) A.frs hn
 have here:i<σ.length->(σ.set i (some v))[i]?=some (some v):=λhl=>ą hl
 by_cases hl:i<σ.length
 ·cases k' with
  |imm=>exact fin (.im d) (.inl ⟨v,here hl,r⟩) h
  |new =>
   cases rg with
   |none=>exact fin (.sn d) (.inl ⟨v,here hl,iw A (k:=.snw) rfl r⟩) h
   |some q =>
    simp only[stK] at h
    by_cases hf:Jr q ρ i=true
    ·rw[if_pos hf] at h
     have E2:EnvD p H0 (bR q own) σ H (ρ.set i .any):=(E.drop (i:=i)).clear hf
     have A2:At p H0 (bR q own) H H1:=⟨A.k0,A.kp,A.penb,A.pen,E2.ow⟩
     have E3:=E2.adopt q A2
     have r2:Rp (okK p H0 (bR q own) H .new) H1 v d:=r
     have E4:EnvD p H0 (cu q H H1 (bR q own)) (σ.set i (some v)) H1 ((ρ.set i .any).set i (.dw q d)):=E3.set λ_=>⟨v,here hl,yq (k:=.new) rfl A2 r2⟩
     rw[List.set_set] at E4
     exact w.nx _ _ H1 _ E4 (tW.trans (nH A2)) h
    ·rw[if_neg hf] at h
     exact h.elim
  |reg q=>exact fin (.dw q d) (.inl ⟨v,here hl,r⟩) h
  |n0=>exact h.elim
  |snw=>exact fin (.sn d) (.inl ⟨v,here hl,r⟩) h
  |shr=>exact fin (.sh d) (.inl ⟨v,here hl,r⟩) h
  |wk=>exact h.elim
 ·cases hs:stK rg ρ i k' d with
  |none=>rw[hs] at h;exact h.elim
  |some s=>rw[hs] at h;exact fin s (.inr hl) h)
end
variable [Gr]
section
variable {ok ok':Addr->Prop}{H:Hp}
mutual
def Rp.inj:∀{v:V}{d d':D},Rp ok H v d->Rp ok' H v d'->d=d'
 |_,_,_,.non,.non=>rfl
 |_,_,_,.bl b,.bl _=>rfl
 |_,_,_,.int i,.int _=>rfl
 |_,_,_,.str x,.str _=>rfl
 |_,_,_,.lst o h r,.lst o' h' r'=>by
  rw[h] at h';cases h'
  rw[Rps.inj r r']
 |_,_,_,.lst o h r,.tup h' r'=>by rw[h] at h';cases h'
 |_,_,_,.lst o h r,.dct o' h' r'=>by rw[h] at h';cases h'
 |_,_,_,.tup h r,.lst o' h' r'=>by rw[h] at h';cases h'
 |_,_,_,.tup h r,.tup h' r'=>by
  rw[h] at h';cases h'
  rw[Rps.inj r r']
 |_,_,_,.tup h r,.dct o' h' r'=>by rw[h] at h';cases h'
 |_,_,_,.dct o h r,.lst o' h' r'=>by rw[h] at h';cases h'
 |_,_,_,.dct o h r,.tup h' r'=>by rw[h] at h';cases h'
 |_,_,_,.dct o h r,.dct o' h' r'=>by
  rw[h] at h';cases h'
  rw[Rkv.inj r r']
def Rps.inj:∀{v:List V}{d d':List D},Rps ok H v d->Rps ok' H v d'->d=d'
 |_,_,_,.nil,.nil=>rfl
 |_,_,_,.cons h t,.cons h' t'=>by rw[Rp.inj h h',Rps.inj t t']
def Rkv.inj:∀{v:List (Key×V)}{d d':List (D×D)},Rkv ok H v d->Rkv ok' H v d'->d=d'
 |_,_,_,.nil,.nil=>rfl
 |_,_,_,.cons h t,.cons h' t'=>by rw[Rp.inj h h',Rkv.inj t t']
end
variable {l:Addr}{T:D}
mutual
def Rp.avoid(h0:Rp ok' H (.ref l) T):∀{v:V}{d:D},Rp ok H v d->sizeOf d<sizeOf T->Rp (λa=>ok a/\a≠l) H v d
 |_,_,.non,_=>.non
 |_,_,.bl b,_=>.bl b
 |_,_,.int i,_=>.int i
 |_,_,.str x,_=>.str x
 |_,_,.lst (ds:=ds) o h r,s=>.lst ⟨o,λz=>by
   subst z
   have e:=Rp.inj (Rp.lst o h r) h0
   rw[e] at s
   exact absurd s (ø _)⟩ h (Rps.avoid h0 r (by simp only[PyData.list.sizeOf_spec] at s;omega))
 |_,_,.tup (ds:=ds) h r,s=>.tup h (Rps.avoid h0 r (by simp only[PyData.tuple.sizeOf_spec] at s;omega))
 |_,_,.dct (ds:=ds) o h r,s=>.dct ⟨o,λz=>by
   subst z
   have e:=Rp.inj (Rp.dct o h r) h0
   rw[e] at s
   exact absurd s (ø _)⟩ h (Rkv.avoid h0 r (by simp only[PyData.dict.sizeOf_spec] at s;omega))
def Rps.avoid(h0:Rp ok' H (.ref l) T):∀{v:List V}{d:List D},Rps ok H v d->sizeOf d<sizeOf T->Rps (λa=>ok a/\a≠l) H v d
 |_,_,.nil,_=>.nil
 |_,_,.cons h t,s=>.cons (Rp.avoid h0 h (by simp only[List.cons.sizeOf_spec] at s;omega)) (Rps.avoid h0 t (by simp only[List.cons.sizeOf_spec] at s;omega))
def Rkv.avoid(h0:Rp ok' H (.ref l) T):∀{v:List (Key×V)}{d:List (D×D)},Rkv ok H v d->sizeOf d<sizeOf T->Rkv (λa=>ok a/\a≠l) H v d
 |_,_,.nil,_=>.nil
 |_,_,.cons h t,s=>.cons (Rp.avoid h0 h (by simp only[List.cons.sizeOf_spec,Prod.mk.sizeOf_spec] at s;omega)) (Rkv.avoid h0 t (by simp only[List.cons.sizeOf_spec] at s;omega))
end
end
def forget(r:Nat)(ρ:List Sl):List Sl:=ρ.map λs=>if s.region=some r then .any else s
section
variable {p:Pn}{H0 H H1:Hp}{own:Addr->Option Nat}{σ:L2.St}{ρ:List Sl}{i:Nat}
def EnvD.write{r:Nat}{l:Addr}{u o':HO}(E:EnvD p H0 own σ H ρ)(hl:own l=some r)(ho:H l=some u)(hu:∀xs,u≠.tup xs)(hc:¬Fxd u:=by rintro⟨_,_,z⟩;cases z):EnvD p H0 own σ (upd H l o') (forget r ρ):=by
 have h0:=E.ow l r hl
 have tp:∀a xs,H a=some (.tup xs)->upd H l o' a=some (.tup xs):=λa xs e=>by
  rw[ak];exact e
  intro z;subst z;rw[ho] at e;exact hu xs (Ý e)
 refine⟨λb o e n=>?_,p.mono H _ E.pen λb o f e=>?_,λa q e=>?_,λj s e=>?_,by unfold forget;rw[Ã];exact E.len,E.gr⟩
 ·rw[ak];exact E.k0 b o e n
  intro z;subst z;rw[h0.1] at e;cases e
 ·rw[ak];exact e
  intro z;subst z;exact f.elim h0.2.1 λc=>hc (by rw[ho] at e;cases e;exact c)
 ·obtain⟨x,y,z⟩:=E.ow a q e
  refine⟨x,y,?_⟩
  by_cases hh:a=l
  ·subst hh;rw[ao];exact λz=>nomatch z
  ·rw[ak hh];exact z
 ·unfold forget at e
  rw[à] at e
  cases hr:ρ[j]? with
  |none=>rw[hr] at e;cases e
  |some s0 =>
   rw[hr] at e
   have e:=Ý e
   have q:=E.slot j s0 hr
   have ne:∀c,own c≠some r->c≠l:=λc n z=>by subst z;exact n hl
   cases s0 with
   |any=>simp only[Sl.region] at e;subst e;trivial
   |im d =>
    have e:Sl.im d=s:=e
    subst e
    exact let ⟨v,a,b⟩:=q;⟨v,a,b.mono (λ_ o=>o) (λ_ _ o=>o.elim) tp⟩
   |sh d =>
    have e:Sl.sh d=s:=e
    subst e
    exact let ⟨v,a,b⟩:=q;⟨v,a,b.mono (λ_ o=>o) (λc o n e=>by rw[ak (ne c (by rw[n.2];exact λz=>nomatch z))];exact e) tp⟩
   |sn d =>
    have e:Sl.sn d=s:=e
    subst e
    exact let ⟨v,a,b⟩:=q;⟨v,a,b.mono (λ_ o=>o) (λc o n e=>by rw[ak (ne c (by rw[n.2.2];exact λz=>nomatch z))];exact e) tp⟩
   |dw r' d =>
    by_cases hrr:r'=r
    ·subst hrr
     have e:(if (some r':Option Nat)=some r' then Sl.any else Sl.dw r' d)=s:=e
     rw[if_pos rfl] at e
     subst e
     trivial
    ·have e:(if (some r':Option Nat)=some r then Sl.any else Sl.dw r' d)=s:=e
     rw[if_neg (by simpa using hrr)] at e
     subst e
     exact let ⟨v,a,b⟩:=q;⟨v,a,b.mono (λ_ o=>o) (λc o n e=>by rw[ak (ne c (by rw[n];simpa using hrr))];exact e) tp⟩
   |pen C =>
    have e:Sl.pen C=s:=e
    subst e
    exact q
   |scr v b =>
    have e:Sl.scr v b=s:=e
    subst e
    exact q
   |sp r' b ds =>
    by_cases hrr:r'=r
    ·subst hrr
     have e:(if (some r':Option Nat)=some r' then Sl.any else Sl.sp r' b ds)=s:=e
     rw[if_pos rfl] at e
     subst e
     trivial
    ·have e:(if (some r':Option Nat)=some r then Sl.any else Sl.sp r' b ds)=s:=e
     rw[if_neg (by simpa using hrr)] at e
     subst e
     exact let ⟨l',vs,a,o,h,y⟩:=q;⟨l',vs,a,o,by rw[ak (ne l' (by rw[o];simpa using hrr))];exact h,y.mono (λ_ o=>o) (λc o n e=>by rw[ak (ne c (by rw[n.2.2];exact λz=>nomatch z))];exact e) tp⟩
   |rw r' L =>
    by_cases hrr:r'=r
    ·subst hrr
     have e:(if (some r':Option Nat)=some r' then Sl.any else Sl.rw r' L)=s:=e
     rw[if_pos rfl] at e
     subst e
     trivial
    ·have e:(if (some r':Option Nat)=some r then Sl.any else Sl.rw r' L)=s:=e
     rw[if_neg (by simpa using hrr)] at e
     subst e
     exact let ⟨st,as,a,b⟩:=q;⟨st,as,a,b.mono (λc o n e=>⟨n,by rw[ak (ne c (by rw[n];simpa using hrr))];exact e⟩) tp⟩
   |tw r' L =>
    by_cases hrr:r'=r
    ·subst hrr
     have e:(if (some r':Option Nat)=some r' then Sl.any else Sl.tw r' L)=s:=e
     rw[if_pos rfl] at e
     subst e
     trivial
    ·have e:(if (some r':Option Nat)=some r then Sl.any else Sl.tw r' L)=s:=e
     rw[if_neg (by simpa using hrr)] at e
     subst e
     exact let ⟨st,as,a,b⟩:=q;⟨st,as,a,b.mono (λc o n e=>⟨n,by rw[ak (ne c (by rw[n];simpa using hrr))];exact e⟩) tp⟩
def Dh{r:Nat}{l:Addr}{u o':HO}(hl:own l=some r)(ho:H l=some u)(hu:∀xs,u≠.tup xs):FrS p own H own (upd H l o'):=by
 refine⟨λb o h n e=>⟨?_,e⟩,λa xs e=>?_⟩
 ·rw[ak];exact h
  intro z;subst z;rw[hl] at e;cases e
 ·rw[ak];exact e
  intro z;subst z;rw[ho] at e;exact hu xs (Ý e)
def EnvD.put{v:V}{s:Sl}(E:EnvD p H0 own σ H ρ)(hs:gR p H0 own σ H i s):EnvD p H0 own σ H (ρ.set i s):=by
 refine⟨E.k0,E.pen,E.ow,λj s' e=>?_,by simpa using E.len,E.gr⟩
 by_cases hj:j=i
 ·subst hj
  have hl:j<ρ.length:=by
   have:=(Þ.mp e).1
   simpa using this
  rw[ą hl] at e
  cases e
  exact hs
 ·rw[Ę (ă hj)] at e
  exact E.slot j s' e
def EnvD.uD{r:Nat}{l:Addr}{vs vs':List V}{ds ds':List D}(E:EnvD p H0 own σ H ρ)(A:At p H0 own H H1)(hv:σ[i]?=some (some (.ref l)))(hl:own l=some r)(ho:H l=some (.lst vs))(rs:Rps (λa=>own a=some r) H vs ds)(hs:∀H2,(∀{w:V}{d:D},Rp (λa=>own a=some r) H w d->sizeOf d<sizeOf (Ċ ds)->Rp (λa=>cu r H H1 own a=some r) H2 w d)->(∀{w:V}{d:D},Rp (okK p H0 own H .new) H1 w d->Rp (λa=>cu r H H1 own a=some r) H2 w d)->Rps (λa=>cu r H H1 own a=some r) H2 vs' ds') :
  EnvD p H0 (cu r H H1 own) σ (upd H1 l (.lst vs')) ((forget r ρ).set i (.dw r (.list ds')))/\FrS p own H (cu r H H1 own) (upd H1 l (.lst vs')):=by
 have h1:H1 l=some (.lst vs):=A.kp l _ ho (E.ow l r hl).2.1
 have hl':cu r H H1 own l=some r:=by rw[bL ho];exact hl
 have E1:=(E.adopt r A).write (o':=.lst vs') hl' h1 (λxs z=>nomatch z)
 have tp:∀a xs,H1 a=some (.tup xs)->upd H1 l (.lst vs') a=some (.tup xs):=λa xs e=>by
  rw[ak];exact e
  intro z;subst z;rw[h1] at e;cases e
 refine⟨E1.put (v:=.ref l) ⟨.ref l,hv,.lst hl' ao (hs _ ?_ ?_)⟩,(nH A).trans (Dh hl' h1 λxs z=>nomatch z)⟩
 ·intro w d x sz
  have x1:=Rp.avoid (Rp.lst (ok:=λa=>own a=some r) hl ho rs) x sz
  exact x1.cO (λa o n e=>⟨by rw[bL e];exact n.1,by rw[ak n.2];exact A.kp a o e (E.ow a r n.1).2.1⟩) λa xs e=>tp a xs (iM E.at A.kp a xs e)
 ·intro w d x
  exact x.cO (λa o n e=>⟨ug n e,by rw[ak (λz=>by subst z;rw[ho] at n;cases n)];exact e⟩) tp
end
section
variable {X:Cx}{pos:Pos}{st:Stmt}{e:Expr}{te:DE}{i:Nat}{ta:DA}
def je{d:D}{ds:List D}(h:d∈ds):sizeOf d<sizeOf (Ċ ds):=by
 have:=List.sizeOf_lt_of_mem h
 simp only[PyData.list.sizeOf_spec]
 omega
def jU{ok ok':Addr->Prop}{H H2:Hp}{T:D}(f:∀{w:V}{d:D},Rp ok H w d->sizeOf d<sizeOf T->Rp ok' H2 w d):∀{vs:List V}{ds:List D},Rps ok H vs ds->(∀d∈ds,sizeOf d<sizeOf T)->Rps ok' H2 vs ds
 |_,_,.nil,_=>.nil
 |_,_,.cons h t,s=>.cons (f h (s _ Ö)) (jU f t λd hd=>s d (Ô _ hd))
def Aj(i:Nat)(te:DE):DS:=λP ρ=>match ρ[i]? with
 |some (.dw r (.list ds))=>te ρ λk d=>(norm k d).le .new=true/\ds.length<1000/\P.nx ((forget r ρ).set i (.dw r (.list (ds++[d]))))
 |_=>False
def fX(h:PS X st (wj (tBM X.K "list" oU (rF i) (sV (iZ te vU))))):PDS X st (Aj i te):=PS.wk' h (by
 rintro Q σ H ⟨p,H0,own,ρ,P,E,t,w⟩
 unfold Aj at t
 split at t
 ·rename_i r ds hr
  obtain⟨v,hv,x⟩:=E.slot i _ hr
  obtain⟨l,vs,rfl,hl,ho,rs⟩:=x.cj
  refine⟨.ref l,hv,.inl ⟨rfl,vs,SqL.of ho⟩,p,H0,own,ρ,λks=>∃k d,ks=[(k,d)]/\(norm k d).le .new=true/\ds.length<1000/\P.nx ((forget r ρ).set i (.dw r (.list (ds++[d])))),E,?_,?_⟩
  ·show te ρ λk d=>∃k' d',[(k,d)]=[(k',d')]/\_
   have e:(λk d=>∃k' d',[((k,d):Kd×D)]=[(k',d')]/\(norm k' d').le .new=true/\ds.length<1000/\P.nx ((forget r ρ).set i (.dw r (.list (ds++[d'])))))=λk d=>(norm k d).le .new=true/\ds.length<1000/\P.nx ((forget r ρ).set i (.dw r (.list (ds++[d])))):=by
    funext k d
    apply propext
    constructor
    ·rintro⟨k',d',e,h⟩
     cases e
     exact h
    ·exact λh=>⟨k,d,rfl,h⟩
   rw[e]
   exact t
  ·rintro ks ws H1 ⟨k,d,rfl,hk,hlen,hn⟩ A rk
   obtain⟨y,rfl,ry⟩:=dN rk
   have ry:=iw A hk (aM ry)
   have h1:H1 l=some (.lst vs):=A.kp l _ ho (E.ow l r hl).2.1
   have h24:=ì
   have hln:=rs.length
   refine⟨l,vs,y,rfl,rfl,h1,by omega,?_⟩
   obtain⟨E2,F2⟩:=E.uD (vs':=vs++[y]) (ds':=ds++[d]) A hv hl ho rs λH2 f g=>(jU f rs λd hd=>je hd).snoc (g ry)
   exact w.nx _ σ _ _ E2 F2 hn
 ·exact t.elim)
end
variable [Gr]
abbrev DG:=Kd->D->List Sl->(List Sl->Prop)->Prop
abbrev DGs:=Kd->List D->List Sl->(List Sl->Prop)->Prop
def Bf(k:Kd)(d:D):Sl:=match k with
 |.imm=>.im d
 |.new=>.sn d
 |.reg r=>.dw r d
 |.snw=>.sn d
 |.shr=>.sh d
 |_=>.any
def okB(p:Pn)(H0:Hp)(own:Addr->Option Nat):Kd->Addr->Prop
 |.imm=>λ_=>False
 |.new=>λa=>H0 a=none/\¬p.fp a/\own a=none
 |.reg r=>λa=>own a=some r
 |.snw=>λa=>H0 a=none/\¬p.fp a/\own a=none
 |.shr=>λa=>¬p.fp a/\own a=none
 |.n0=>λ_=>True
 |.wk=>λ_=>True
def Iw(g:DG):TG:=λv σ H Q=>∃p H0 own ρ k d P,EnvD p H0 own σ H ρ/\Rp (okB p H0 own k) H v d/\g k d ρ P/\∀σ' ρ',EnvD p H0 own σ' H ρ'->P ρ'->Q σ' H
def mW(g:DGs):TGs:=λvs σ H Q=>∃p H0 own ρ k ds P,EnvD p H0 own σ H ρ/\Rps (okB p H0 own k) H vs ds/\g k ds ρ P/\∀σ' ρ',EnvD p H0 own σ' H ρ'->P ρ'->Q σ' H
abbrev PDG(X:Cx)(e:Expr)(g:DG):Prop:=PG X e (Iw g)
def PG.wk{X:Cx}{e:Expr}{t t':TG}(h:PG X e t)(w:∀v σ H Q,t' v σ H Q->t v σ H Q):PG X e t':=λpins s σ H v u Q I r q=>h pins s σ H v u Q I r (w v σ H Q q)
def PGs.wk{X:Cx}{e:List Expr}{t t':TGs}(h:PGs X e t)(w:∀v σ H Q,t' v σ H Q->t v σ H Q):PGs X e t':=λpins s σ H v u Q I r q=>h pins s σ H v u Q I r (w v σ H Q q)
def fM{p:Pn}{H0 H:Hp}{own:Addr->Option Nat}{k:Kd}{v:V}{d:D}(r:Rp (okB p H0 own k) H v d):Rp (okB p H0 own (norm k d)) H v d:=by
 by_cases h:bU d=true
 ·rw[qI h];exact r.imm h
 ·rw[qJ h];exact r
section
variable {X:Cx}{pos:Pos}{e:Expr}{es:List Expr}
def gNm(i:Nat):DG:=λk d ρ P=>P (ρ.set i (Bf (norm k d) d))
def Gk{p:Pn}{H0 H:Hp}{own:Addr->Option Nat}{σ:L2.St}{i:Nat}{k:Kd}{v:V}{d:D}(r:Rp (okB p H0 own k) H v d)(h:σ[i]?=some (some v)):gR p H0 own σ H i (Bf k d):=by
 cases k with
 |imm=>exact⟨v,h,r⟩
 |new=>exact⟨v,h,r⟩
 |reg q=>exact⟨v,h,r⟩
 |n0=>trivial
 |snw=>exact⟨v,h,r⟩
 |shr=>exact⟨v,h,r⟩
 |wk=>trivial
def dW{i:Nat}{x:Str}(h:PG X (.Name x pos) (iQ i)):PDG X (.Name x pos) (gNm i):=PG.wk h (by
 rintro v σ H Q ⟨p,H0,own,ρ,k,d,P,E,r,t,q⟩
 exact q _ _ (E.set λhl=>Gk (fM r) (ą hl)) t)
def Ji:DGs:=λ_ ds ρ P=>match ds with
 |[]=>P ρ
 |_=>False
def vB(g:DG)(gs:DGs):DGs:=λk ds ρ P=>match ds with
 |d::r=>g (norm k d) d ρ λρ'=>gs k r ρ' P
 |[]=>False
def jt:PGs X [] (mW Ji):=PGs.wk KN (by
 rintro v σ H Q ⟨p,H0,own,ρ,k,ds,P,E,r,t,q⟩
 cases ds with
 |nil=>cases r;exact⟨rfl,q _ _ E t⟩
 |cons d ds=>exact t.elim)
def cA{g:DG}{gs:DGs}(h1:PDG X e g)(h2:PGs X es (mW gs))(hs:(assignEach (e::es) X.env).map (·.2)=assign e X.env::(assignEach es X.env).map (·.2):=by rfl):PGs X (e::es) (mW (vB g gs)):=PGs.wk (G4 h1 h2 hs) (by
 rintro v σ H Q ⟨p,H0,own,ρ,k,ds,P,E,r,t,q⟩
 cases r with
 |nil=>exact t.elim
 |cons r rs =>
  exact⟨_,_,rfl,p,H0,own,ρ,_,_,_,E,fM r,t,λσ' ρ' E' t'=>⟨p,H0,own,ρ',k,_,P,E',rs,t',q⟩⟩)
def gTp(n:Nat)(gs:DGs):DG:=λk d ρ P=>match d with
 |.tuple ds=>ds.length=n/\gs k ds ρ P
 |_=>False
def qZ{gs:DGs}{k n:Nat}(hc:X.calm=true)(h:PGs X es (mW gs))(hn:(assignEach es X.env).length=n:=by rfl)(hst:(assignEach es X.env).findIdx? (·.1)=none:=by rfl):PDG X (.Tuple es k pos) (gTp n gs):=PG.wk (Qm hc h hn hst) (by
 rintro v σ H Q ⟨p,H0,own,ρ,k,d,P,E,r,t,q⟩
 cases d with
 |tuple ds =>
  obtain⟨a,vs,rfl,ha,rs⟩:=r.d7
  exact⟨a,vs,rfl,SqT.of ha,by rw[rs.length];exact t.1,p,H0,own,ρ,k,ds,P,E,rs,t.2,q⟩
 |_=>exact t.elim)
end
structure Wlk(Ok:Hp->Prop)(J:It)(ds:List D)(ok:Addr->Prop):Prop where
 go:∀i H,Ok H->i<ds.length->J.go i H
 stop:∀H,Ok H->J.stop ds.length H
 yld:∀i H x H',Ok H->J.yld i H x H'->Same H H'/\∀d,ds[i]?=some d->Rp ok H' x d
 stab:∀H H',Ok H->(∀b o,ok b->H b=some o->H' b=some o)->(∀a xs,H a=some (.tup xs)->H' a=some (.tup xs))->Ok H'
abbrev DI:=List Sl->(Kd->List D->Prop)->Prop
def okA(p:Pn)(H0:Hp)(own:Addr->Option Nat)(Hb:Hp)(k:Kd)(H:Hp)(a:Addr):Prop:=okK p H0 own Hb k a/\∃o,H a=some o
def xH(t:DI):TI:=λσ H R=>∃p H0 own ρ P,EnvD p H0 own σ H ρ/\t ρ P/\∀k ds J H1 Ok,P k ds->At p H0 own H H1->Wlk Ok J ds (okA p H0 own H k H1)->Ok H1->R J H1
abbrev PDI(X:Cx)(tg e:Expr)(t:DI):Prop:=PI X tg e (xH t)
def PI.wk{X:Cx}{tg e:Expr}{t t':TI}(h:PI X tg e t)(w:∀σ H R,t' σ H R->t σ H R):PI X tg e t':=λpins s σ H R I q=>h pins s σ H R I (w σ H R q)
section
variable {X:Cx}{tg l:Expr}{tl:DE}{pos:Pos}{ta:DA}
def vZ{K:Ñ}{ok:Addr->Prop}{a:Addr}{ds:List D}:Wlk (λH=>Rp ok H (.ref a) (.list ds)) (Itl K a) ds ok where
 go:=λi H r hi=>by
  obtain⟨b,vs,e,o,h,rs⟩:=r.cj
  cases e
  have:i<vs.length:=by rw[rs.length];exact hi
  exact⟨vs,vs[i],SqL.of h,by simp[this]⟩
 stop:=λH r=>by
  obtain⟨b,vs,e,o,h,rs⟩:=r.cj
  cases e
  exact⟨vs,SqL.of h,by rw[rs.length];exact Ì _⟩
 yld:=λi H x H' r y=>by
  obtain⟨rfl,y⟩:=y
  obtain⟨b,vs,e,o,h,rs⟩:=r.cj
  cases e
  refine⟨Same.refl _,λd hd=>?_⟩
  obtain⟨v,hv,rv⟩:=rs.getD hd
  have:=y vs (SqL.of h)
  rw[hv] at this
  cases this
  exact rv
 stab:=λH H' r f t=>r.cO (λa o n e=>⟨n,f a o n e⟩) t
def FW{K:Ñ}{ok:Addr->Prop}{a:Addr}{ds:List D}:Wlk (λH=>Rp ok H (.ref a) (.tuple ds)) (Itt K a) ds ok where
 go:=λi H r hi=>by
  obtain⟨b,vs,e,h,rs⟩:=r.d7
  cases e
  have:i<vs.length:=by rw[rs.length];exact hi
  exact⟨vs,vs[i],SqT.of h,by simp[this]⟩
 stop:=λH r=>by
  obtain⟨b,vs,e,h,rs⟩:=r.d7
  cases e
  exact⟨vs,SqT.of h,by rw[rs.length];exact Ì _⟩
 yld:=λi H x H' r y=>by
  obtain⟨rfl,y⟩:=y
  obtain⟨b,vs,e,h,rs⟩:=r.d7
  cases e
  refine⟨Same.refl _,λd hd=>?_⟩
  obtain⟨v,hv,rv⟩:=rs.getD hd
  have:=y vs (SqT.of h)
  rw[hv] at this
  cases this
  exact rv
 stab:=λH H' r f t=>r.cO (λa o n e=>⟨n,f a o n e⟩) t
def pI{ok:Addr->Prop}{lo:Int}{n:Nat}:Wlk (λ_=>True) (Itr lo n) ((á n).map λi=>Í (lo+((i:Nat):Int))) ok where
 go:=λi H r hi=>by
  have h:i<n:=by simpa using hi
  exact h
 stop:=λH r=>by show n<=_;simp
 yld:=λi H x H' r y=>by
  obtain⟨rfl,rfl⟩:=y
  refine⟨Same.refl _,λd hd=>?_⟩
  rw[à] at hd
  cases h:(á n)[i]? with
  |none=>rw[h] at hd;cases hd
  |some j =>
   rw[h] at hd
   have e:=Ý hd
   have hj:j=i:=by
    have:=Þ.mp h
    obtain⟨h1,h2⟩:=this
    simpa using h2.symm
   subst e hj
   exact .int _
 stab:=λ_ _ _ _ _=>trivial
def rpA{p:Pn}{H0 Hb H:Hp}{own:Addr->Option Nat}{k:Kd}{v:V}{d:D}(r:Rp (okK p H0 own Hb k) H v d):Rp (okA p H0 own Hb k H) H v d:=r.cO (λa o n e=>⟨⟨n,o,e⟩,e⟩) λ_ _ e=>e
def iSq(tl:DE):DI:=λρ P=>tl ρ λk d=>match d with
 |.list ds=>P k ds
 |.tuple ds=>P k ds
 |_=>False
def iV(hl:PD X l tl):PDI X tg l (iSq tl):=PI.wk (Ql hl) (by
 rintro σ H R ⟨p,H0,own,ρ,P,E,t,q⟩
 refine⟨p,H0,own,ρ,_,E,t,λk d v H1 h A r=>?_⟩
 cases d with
 |list ds =>
  obtain⟨a,vs,rfl,o,ha,rs⟩:=r.cj
  exact⟨a,rfl,.inl ⟨⟨vs,SqL.of ha⟩,q k ds _ H1 _ h A vZ (rpA r)⟩⟩
 |tuple ds =>
  obtain⟨a,vs,rfl,ha,rs⟩:=r.d7
  exact⟨a,rfl,.inr ⟨⟨vs,SqT.of ha⟩,q k ds _ H1 _ h A FW (rpA r)⟩⟩
 |_=>exact h.elim)
def cR(lo:Int)(n:Nat):List D:=(á n).map λi=>Í (lo+((i:Nat):Int))
def iR1(ta:DA):DI:=λρ P=>ta ρ λks=>match ks with
 |[(_,.int j)]=>(-(2 ^ 62)<=j/\j<2 ^ 62)/\P .imm (cR 0 j.toNat)
 |_=>False
def fY{a:Expr}{ps:Pos}(hm:X.mg "range"=none)(ha:PDA X [a] ta)(hg:Gl X "range":=by rfl)(hs:starEach [a] X.env=[(false,eval a X.env)]:=by rfl):PDI X tg (.Call (.Name "range" ps) [a] [] pos) (iR1 ta):=PI.wk (ji hg hm ha hs) (by
 rintro σ H R ⟨p,H0,own,ρ,P,E,t,q⟩
 refine⟨p,H0,own,ρ,_,E,t,λks vs H1 h A r=>?_⟩
 split at h
 ·rename_i k j
  obtain⟨v,rfl,r'⟩:=dN r
  exact⟨j,by rw[r'.int'],h.1.1,h.1.2,q _ _ _ H1 _ h.2 A pI trivial⟩
 ·exact h.elim)
def iR2(ta:DA):DI:=λρ P=>ta ρ λks=>match ks with
 |[(_,.int i),(_,.int j)]=>(-(2 ^ 62)<=i/\i<2 ^ 62/\-(2 ^ 62)<=j/\j<2 ^ 62)/\P .imm (cR i (j - i).toNat)
 |_=>False
def nC{a b:Expr}{ps:Pos}(hm:X.mg "range"=none)(ha:PDA X [a,b] ta)(hg:Gl X "range":=by rfl)(hs:starEach [a,b] X.env=[(false,eval a X.env),(false,eval b X.env)]:=by rfl)(hs2:starEach [b] X.env=[(false,eval b X.env)]:=by rfl):PDI X tg (.Call (.Name "range" ps) [a,b] [] pos) (iR2 ta):=PI.wk (Dy hg hm ha hs hs2) (by
 rintro σ H R ⟨p,H0,own,ρ,P,E,t,q⟩
 refine⟨p,H0,own,ρ,_,E,t,λks vs H1 h A r=>?_⟩
 split at h
 ·rename_i k i k' j
  obtain⟨v,w,rfl,r',r2⟩:=Qd r
  exact⟨i,j,by rw[r'.int',r2.int'],h.1,q _ _ _ H1 _ h.2 A pI trivial⟩
 ·exact h.elim)
end
variable [Gr]
def elK:Kd->Kd
 |.new=>.snw
 |k=>k
section
variable {X:Cx}{tg iter:Expr}{pos:Pos}{body:List Stmt}{ti:DI}{g:DG}{tb:DS}
def Nj(ti:DI)(g:DG)(tb:DS):DS:=λP ρ=>ti ρ λk ds=>k.le .shr=true/\∃Iv:Nat->List Sl->Prop,Iv 0 ρ /\
 (∀i d ρ',ds[i]?=some d->Iv i ρ'->g (norm (elK k) d) d ρ' λρ2=>tb { nx:=Iv (i+1),ct:=Iv (i+1),bk:=P.nx,rt:=P.rt } ρ2)/\∀ρ',Iv ds.length ρ'->P.nx ρ'
def Og{p:Pn}{H0 Hb H1 H':Hp}{own own':Addr->Option Nat}{k:Kd}(hk:k.le .shr=true)(A:At p H0 own Hb H1)(F:FrS p own H1 own' H'){v:V}{d:D}{H2:Hp}(r:Rp (okA p H0 own Hb k H1) H2 v d):Rp (okB p H0 own' (elK k)) H2 v d:=by
 refine r.mono (λa n=>?_) (λ_ _ _ e=>e) λ_ _ e=>e
 obtain⟨o,u,hu⟩:=n
 have o2:¬p.fp a/\own a=none:=bw A (k:=.shr) hk o
 have f:=(F.keep a u hu o2.1 o2.2).2
 cases k with
 |imm=>exact o
 |new=>exact⟨A.h0 o,o2.1,f⟩
 |reg q=>cases hk
 |n0=>cases hk
 |snw=>exact⟨o.1,o2.1,f⟩
 |shr=>exact⟨o2.1,f⟩
 |wk=>cases hk
def nA(hp:PassesOwn (model X.prog X.w) X.A X.env X.xe)(hc:X.calm=true)(hi:PDI X tg iter ti)(hg:PDG X tg g)(hb:lZ X body tb)(hs:zF X iter:=by intro _;rfl):PDS X (.For tg iter body [] pos) (Nj ti g tb):=PS.wk' (yN hp hc hi hg hb hs) (by
 rintro Q σ H ⟨p,H0,own,ρ,P,E,t,w⟩
 refine⟨p,H0,own,ρ,_,E,t,λk ds J H1 Ok h A W o1=>?_⟩
 obtain⟨hk,Iv,i0,step,done⟩:=h
 have w1:=w.go A.frs
 have okS:∀own' H',FrS p own H1 own' H'->Ok H':=λown' H' F=>W.stab H1 H' o1 (λb o n e=>by
  have o2:¬p.fp b/\own b=none:=bw A (k:=.shr) hk n.1
  exact(F.keep b o e o2.1 o2.2).1) F.tup
 refine⟨λi m σ' H'=>m=ds.length - i/\i<=ds.length/\∃own' ρ',EnvD p H0 own' σ' H' ρ'/\FrS p own H1 own' H'/\Iv i ρ',⟨_,rfl,ä _,own,ρ,E.go A.kp A.pen,FrS.refl,i0⟩,?_⟩
 rintro i m σ' H' ⟨rfl,hi,own',ρ',E',F',iv⟩
 have oH:=okS own' H' F'
 by_cases hlt:i<ds.length
 ·refine .inr ⟨W.go i H' oH hlt,λσ2 H2=>∃own' ρ',EnvD p H0 own' σ2 H2 ρ'/\FrS p own H1 own' H2/\Iv (i+1) ρ',λσ2 H2 h=>⟨_,by omega,rfl,hlt,h⟩,λx H2 y=>?_⟩
  obtain⟨sm,rx⟩:=W.yld i H' x H2 oH y
  have rx:=rx ds[i] (È hlt)
  have E2:EnvD p H0 own' σ' H2 ρ':=E'.go (Kp.of sm) (p.mono H' H2 E'.pen λb o _ e=>sm b o e)
  have F2:FrS p own H1 own' H2:=⟨λb o e n z=>let ⟨x,y⟩:=F'.keep b o e n z;⟨sm b o x,y⟩,λa xs e=>sm a _ (F'.tup a xs e)⟩
  refine⟨p,H0,own',ρ',_,_,_,E2,fM (Og hk A F2 rx),step i ds[i] ρ' (È hlt) iv,λσ3 ρ3 E3 t3=>?_⟩
  have nxt:∀own4 σ4 H4 ρ4,EnvD p H0 own4 σ4 H4 ρ4->FrS p own' H2 own4 H4->Iv (i+1) ρ4->∃own' ρ',EnvD p H0 own' σ4 H4 ρ'/\FrS p own H1 own' H4/\Iv (i+1) ρ':=λown4 σ4 H4 ρ4 E4 F4 v4=>⟨own4,ρ4,E4,F2.trans F4,v4⟩
  exact⟨p,H0,own',ρ3,_,E3,t3,⟨nxt,w.rt,λo s h r e f n=>w1.nx o s h r e (F2.trans f) n,nxt⟩⟩
 ·have e:i=ds.length:=by omega
  subst e
  exact .inl ⟨W.stop H' oH,w1.nx own' σ' H' ρ' E' F' (done ρ' iv)⟩)
end
def EnvD.comp{p:Pn}{H0 H:Hp}{own:Addr->Option Nat}{σ:L2.St}{ρ:List Sl}(n:Nat)(E:EnvD p H0 own σ H ρ):EnvD p H0 own (Ë n none++σ) H (Ë n .any++ρ):=by
 refine⟨E.k0,E.pen,E.ow,λj s e=>?_,by simp[E.len],E.gr⟩
 by_cases hj:j<n
 ·rw[ď (by simpa using hj)] at e
  have:s=.any:=by
   rw[ĺ] at e
   rw[if_pos hj] at e
   exact(Ý e).symm
  subst this
  trivial
 ·have e1:(Ë n Sl.any++ρ)[j]?=ρ[j - n]?:=by rw[ù (by simpa using hj)];simp
  have e2:(Ë n (none:Option V)++σ)[j]?=σ[j - n]?:=by rw[ù (by simpa using hj)];simp
  rw[e1] at e
  have q:=E.slot _ s e
  cases s <;> simp only[gR,e2] at q ⊢ <;> exact q
abbrev FJ(X:Cx)(es:List Expr)(t:DT):Prop:=PTs X es (liftT t)
def cC{X:Cx}:FJ X [] (λ_ P=>P true):=λpins s σ H Q I h=>by
 obtain⟨p,H0,own,ρ,P,E,t,q⟩:=h
 exact Bv pins s σ H Q I (q true H t E.at)
def dR{X:Cx}{c:Expr}{t:DT}(hc:PDT X c t):FJ X [c] t:=Bu hc
def elC(k:Kd):Kd:=elK k
def dLC(n:Nat)(ti:DI)(g:DG)(tt:DT)(te:DE):DE:=λρ P=>ti ρ λk ds=>ds.length<=1000/\∃(ke:Kd) (Iv:Nat->List D->Prop),Iv 0 [] /\
 (∀i d ys,ds[i]?=some d->Iv i ys->g (norm (elC k) d) d (Ë n .any++ρ) λρ'=>tt ρ' λb=>if b=true then te ρ' λk' d'=>(norm k' d').le ke=true/\Iv (i+1) (ys++[d']) else Iv (i+1) ys) /\
 ∀ys,Iv ds.length ys->P (ke.join .new) (.list ys)
def Oe{p:Pn}{H0 Hb H1:Hp}{own:Addr->Option Nat}{k:Kd}(A:At p H0 own Hb H1){v:V}{d:D}{H2:Hp}(r:Rp (okA p H0 own Hb k H1) H2 v d):Rp (okB p H0 own (elC k)) H2 v d:=by
 refine r.mono (λa n=>?_) (λ_ _ _ e=>e) λ_ _ e=>e
 obtain⟨o,u,hu⟩:=n
 cases k with
 |imm=>exact o
 |new=>exact⟨A.h0 o,A.nfb o,A.QC o⟩
 |reg q=>exact o
 |n0=>trivial
 |snw=>exact o
 |shr=>exact o
 |wk=>trivial
section
variable {X:Cx}{own:List Str}{scope:Scope}{tg iter elt:Expr}{ifs:List Expr}{pos:Pos}{ti:DI}{g:DG}{tt:DT}{te:DE}
def kZ{n:Nat}:∀σ H Q,cI (dLC n ti g tt te) σ H Q->tLC n (xH ti) (λ_=>Iw g) (λ_=>liftT tt) (λ_=>cI te) σ H Q:=by
 rintro σ H Q ⟨p,H0,own,ρ,P,E,t,q⟩
 refine⟨p,H0,own,ρ,_,E,t,λk ds J H1 Ok h A W o1=>?_⟩
 obtain⟨hlen,ke,Iv,i0,step,done⟩:=h
 have okS:∀H',Kp p H1 H'->p.PI H'->Ok H':=λH' K i=>W.stab H1 H' o1 (λb o n e=>K b o e (eX A n.1)) (iM A K)
 refine⟨λi m ys H'=>m=ds.length - i/\i<=ds.length/\Kp p H1 H'/\p.PI H'/\∃es,Rps (okK p H0 own H ke) H' ys es/\es.length<=i/\Iv i es,⟨_,rfl,ä _,Kp.refl,A.pen,[],.nil,Ì _,i0⟩,?_⟩
 rintro c i m ys H' ⟨rfl,hi,K',I',es,rs,hl,iv⟩
 have oH:=okS H' K' I'
 have A':=A.go K' I'
 have h24:=ì
 by_cases hlt:i<ds.length
 ·refine .inr ⟨W.go i H' oH hlt,by have:=rs.length;omega,λys' H2=>Kp p H1 H2/\p.PI H2/\∃es,Rps (okK p H0 own H ke) H2 ys' es/\es.length<=i+1/\Iv (i+1) es,λys' H2 h=>⟨_,by omega,rfl,hlt,h⟩,λx H2 y=>?_⟩
  obtain⟨sm,rx⟩:=W.yld i H' x H2 oH y
  have rx:=rx ds[i] (È hlt)
  have I2:p.PI H2:=p.mono H' H2 I' λb o _ e=>sm b o e
  have K2:Kp p H1 H2:=K'.trans (Kp.of sm)
  have A2:=A.go K2 I2
  have E2:EnvD p H0 own σ H2 ρ:=E.go A2.kp A2.pen
  have rs2:=aX A' (Kp.of sm) rs
  refine⟨p,H0,own,_,_,_,_,E2.comp n,fM (Oe A rx),step i ds[i] es (È hlt) iv,λσ3 ρ3 E3 t3=>?_⟩
  refine⟨p,H0,own,ρ3,_,E3,t3,λb H4 h4 A4=>?_⟩
  have A5:At p H0 own H H4:=A2.base A4
  have rs4:=aX A2 A4.kp rs2
  cases b with
  |true =>
   refine aH ⟨p,H0,own,ρ3,_,E3.go A4.kp A4.pen,by simpa using h4,λk' d' v H6 h6 A6 r6=>?_⟩
   refine⟨(K2.trans A4.kp).trans A6.kp,A6.pen,es++[d'],(aX A5 A6.kp rs4).snoc (iw (A5.base A6) h6.1 (aM (gn A5 r6))),by simp;omega,h6.2⟩
  |false=>exact aL ⟨K2.trans A4.kp,A4.pen,es,rs4,by omega,by simpa using h4⟩
 ·have e:i=ds.length:=by omega
  subst e
  refine .inl ⟨W.stop H' oH,λl hl'=>?_⟩
  obtain⟨k7,i7,nw⟩:=A'.new hl' (.lst ys)
  have j:=cQ ke .new
  refine q _ _ _ _ (done es iv) (A'.go k7 i7) (.lst (bw A' j.2 nw) ao ?_)
  exact(aX A' k7 rs).mono (λa o=>bw A' j.1 o) (λ_ _ _ e=>e) λ_ _ e=>e
def eV(own:List Str)(hc:X.calm=true)(hi:PDI X tg iter ti)(hg:∀c,PDG (X.comp own scope c) tg g)(ht:∀c,FJ (X.comp own scope c) ifs tt)(he:∀c,PD (X.comp own scope c) elt te)(hk:dh X.env scope X.N=true:=by rfl)(hs:zF X iter:=by intro _;rfl) :
  PD X (.ListComp elt [⟨tg,iter,ifs,0⟩] scope pos) (dLC own.length ti g tt te):=PE.wk (G6 own hc hi hg ht he hk hs) kZ
end
def aB(d:D):Sl:=if bU d then .im d else .sh d
def nq{p:Pn}{H:Hp}{N:List Str}{vs:List V}{ds:List D}(g:Gr.G p H)(hp:p.PI H)(r:Rps (λa=>¬p.fp a) H vs ds):EnvD p H (λ_=>none) (L2.start N vs) H (ds.map aB++Ë (N.length - vs.length) .any):=by
 refine⟨λ_ _ e _=>e,hp,(λ_ _ e=>nomatch e),λj s e=>?_,by unfold L2.start;simp[r.length],g⟩
 by_cases hj:j<ds.length
 ·rw[ď (by simpa using hj),à] at e
  obtain⟨v,hv,rv⟩:=r.getD (È hj)
  rw[È hj] at e
  have e:=Ý e
  have hs:(L2.start N vs)[j]?=some (some v):=by
   unfold L2.start
   rw[ď (by rw[Ã,r.length];exact hj),à,hv]
   rfl
  subst e
  unfold aB
  by_cases hi:bU ds[j]=true
  ·rw[if_pos hi];exact⟨v,hs,rv.imm hi⟩
  ·rw[if_neg hi];exact⟨v,hs,rv.mono (λ_ o=>⟨o,rfl⟩) (λ_ _ _ e=>e) λ_ _ e=>e⟩
 ·rw[ù (by simpa using hj),ĺ] at e
  split at e
  ·cases e;trivial
  ·cases e
def vH{f:List D->(D->Prop)->Prop}{T:DS}{N:List Str}{vs:List V}{H:Hp}{Q:VK}{E:XK}(h:spD f vs H Q E)(body:∀ds P,f ds P->T { nx:=λ_=>P .none,rt:=P } (ds.map aB++Ë (N.length - ds.length) .any))(g:Gr.G eF H:=by trivial):nU T { nx:=λ_ H'=>Q .non H',rt:=Q } (L2.start N vs) H:=by
 obtain⟨ds,P,r,t,q⟩:=h
 have E:=nq (p:=eF) (N:=N) g trivial (r.mono (ok':=λa=>¬eF.fp a) (λ_ _ z=>z) (λ_ _ _ e=>e) λ_ _ e=>e)
 rw[r.length] at E
 have sm:∀H',(∀b o,H b=some o->¬eF.fp b->H' b=some o)->Same H H':=λH' k b o e=>k b o e λz=>z
 refine⟨eF,H,λ_=>none,_,_,E,body ds P t,⟨λo s h' r' e' _ n=>q _ _ h' n (sm h' e'.k0) .non,λd v h' n w=>q d v h' n (sm h' w.k0) (w.rp.mono (λ_ o=>o.1) (λ_ _ _ e=>e) λ_ _ e=>e),λ_ _ _ _ _ _ n=>n.elim,λ_ _ _ _ _ _ n=>n.elim⟩⟩
end Dl
namespace PySem
open PyProof.Rows
abbrev mq(f0:Value)(q:Bool)(TI TO:Addr):Obj:={ cls:=.type "zip",data:=.fields #[f0,.bool q,.bool false,.ref TI,.ref TO] }
section
variable {prog:Program}{w:World}{A:Around}{E:Value->Shared->Prop}{s:Shared}
def uh{z TI TO i1 i2 l1 l2 T:Addr}{q:Bool}{k:Nat}{xs ys:Array Value}{x y:Value}{oT:Obj}{Q:Value->Shared->Prop}(n1:i1≠z)(n2:i2≠z)(n12:i1≠i2)(m1:l1≠z)(m2:l2≠z)(m3:l2≠i1)(hZ:s.heap.get? z=some (mq (rawInt T) q TI TO))(hI:s.heap.get? TI=some { cls:=.type "tuple",data:=.seq #[.ref i1,.ref i2] })(hT:s.heap.get? T=some oT)(j1:s.heap.IsListIter i1 l1 k)(j2:s.heap.IsListIter i2 l2 k)(e1:s.heap.IsList l1 xs)(e2:s.heap.IsList l2 ys)(hx:xs[k]?=some x)(hy:ys[k]?=some y)(hQ:∀h',h'.get? z=some (mq (rawInt T) true TI TO)->h'.IsListIter i1 l1 (k+1)->h'.IsListIter i2 l2 (k+1)->h'.get? s.heap.objs.size=some { cls:=.type "tuple",data:=.seq #[x,y] } ->
   (∀c o,c≠z->c≠i1->c≠i2->s.heap.get? c=some o->h'.get? c=some o)->Q (.ref s.heap.objs.size) { s with heap:=h' }) :
  wpAny (model prog w) A (Builtin.«zip.__next__» ⟨[.ref z],[]⟩) (λfin s'=>∃v,fin=.done (.ret v)/\Q v s') E s:=by
 have fld:∀{i:Nat}{v:Value}{R:Value->Shared->Prop},(#[rawInt T,ŕ q,.bool false,.ref TI,.ref TO]:Array Value)[i]?=some v->R v s->wpAny (model prog w) A (field (.ref z) i) R E s:=λh r=>Ĳ hZ rfl h r
 show wpAny _ _ (field (.ref z) 2 >>= _) _ _ _
 refine Â (fld (v:=.bool false) rfl ?_)
 show wpAny _ _ (field (.ref z) 3 >>= _) _ _ _
 refine Â (fld (v:=.ref TI) rfl ?_)
 refine Â (wpAny_seqItems hI rfl ?_)
 show wpAny _ _ (İ (.ref z) >>= _) _ _ _
 refine Â ?_
 unfold İ
 refine Â (fld (v:=rawInt T) rfl ?_)
 show wpAny _ _ (loadIfAlive ((T:Int).toNat) >>= _) _ _ _
 rw[Ļ]
 refine Â (W.kdx_alive hT ?_)
 simp only[Option.isNone_some,Ĥ,if_false]
 refine Â (fld (v:=.bool q) rfl ?_)
 refine L2.thn (Q:=λa s'=>a=false/\∃h1,s'={ s with heap:=h1 }/\h1.get? z=some (mq (rawInt T) true TI TO)/\h1.objs.size=s.heap.objs.size/\∀c o,c≠z->s.heap.get? c=some o->h1.get? c=some o) ?_ ?_
 ·cases q with
  |true=>exact Ê ⟨rfl,s.heap,rfl,hZ,rfl,λc o _ e=>e⟩
  |false =>
   rw[if_pos (by decide)]
   refine Â (wpAny_setField_rec hZ (by simp) λh1 z1 b1=>Ê ⟨rfl,h1,rfl,z1,b1.1,λc o n e=>b1.extBut _ _ n e⟩)
 rintro a s' ⟨rfl,h1,rfl,z1,sz1,k1⟩
 simp only[Ĥ,if_false]
 refine Â ?_
 simp only[←Array.forIn_toList,List.forIn_cons,List.forIn_nil]
 have at1:h1.IsListIter i1 l1 k:=j1.at λo e=>k1 i1 o n1 e
 have at2:h1.IsListIter i2 l2 k:=j2.at λo e=>k1 i2 o n2 e
 have f1:h1.IsList l1 xs:=e1.at λo e=>k1 l1 o m1 e
 have f2:h1.IsList l2 ys:=e2.at λo e=>k1 l2 o m2 e
 refine Â (Â (ö ?_))
 show wpAny _ _ (ő (.ref i1) >>= _) _ _ _
 refine Â (wpAny_nextOf_list_item at1 f1 hx λh2 c1 b2=>Ê (Ê ?_))
 refine Â (Â (ö ?_))
 show wpAny _ _ (ő (.ref i2) >>= _) _ _ _
 refine Â (wpAny_nextOf_list_item (at2.extBut b2.extBut n12.symm) (f2.extBut b2.extBut m3) hy λh3 c2 b3=>Ê (Ê (Ê ?_)))
 have sz3:h3.objs.size=s.heap.objs.size:=by rw[b3.1,b2.1,sz1]
 show wpAny _ _ (newTuple [x,y] >>= _) _ _ _
 refine Â (wpAny_newTuple (Ê ⟨_,rfl,?_⟩))
 show Q (.ref h3.objs.size) _
 rw[sz3]
 have up:∀c o,c≠i1->c≠i2->h1.get? c=some o->(h3.push { cls:=.type "tuple",data:=.seq #[x,y] }).get? c=some o:=λc o a b e=>Æ _ (b3.extBut _ _ b (b2.extBut _ _ a e))
 refine hQ _ (up z _ n1.symm n2.symm z1) ((c1.extBut b3.extBut n12).at λo e=>Æ _ e) (c2.at λo e=>Æ _ e) ?_ λc o a b d e=>up c o b d (k1 c o a e)
 rw[←sz3]
 exact Õ _ rfl
def vY{z TI TO i1 i2 l1 l2 T:Addr}{q:Bool}{k:Nat}{xs ys:Array Value}{oT:Obj}{Q:Fin->Shared->Prop}(hh:A.handled=none)(n1:i1≠z)(n2:i2≠z)(n12:i1≠i2)(m1:l1≠z)(m2:l2≠z)(m3:l2≠i1)(hZ:s.heap.get? z=some (mq (rawInt T) q TI TO))(hI:s.heap.get? TI=some { cls:=.type "tuple",data:=.seq #[.ref i1,.ref i2] })(hT:s.heap.get? T=some oT)(j1:s.heap.IsListIter i1 l1 k)(j2:s.heap.IsListIter i2 l2 k)(e1:s.heap.IsList l1 xs)(e2:s.heap.IsList l2 ys)(hend:xs[k]?=none\/ys[k]?=none)(hE:∀h' e,(∀c o,c≠z->c≠i1->c≠i2->s.heap.get? c=some o->h'.get? c=some o)->(∃o,h'.get? e=some o/\o.cls=.type "StopIteration")->E (.ref e) { s with heap:=h' }) :
  wpAny (model prog w) A (Builtin.«zip.__next__» ⟨[.ref z],[]⟩) Q E s:=by
 have fld:∀{i:Nat}{v:Value}{R:Value->Shared->Prop},(#[rawInt T,ŕ q,.bool false,.ref TI,.ref TO]:Array Value)[i]?=some v->R v s->wpAny (model prog w) A (field (.ref z) i) R E s:=λh r=>Ĳ hZ rfl h r
 show wpAny _ _ (field (.ref z) 2 >>= _) _ _ _
 refine Â (fld (v:=.bool false) rfl ?_)
 show wpAny _ _ (field (.ref z) 3 >>= _) _ _ _
 refine Â (fld (v:=.ref TI) rfl ?_)
 refine Â (wpAny_seqItems hI rfl ?_)
 show wpAny _ _ (İ (.ref z) >>= _) _ _ _
 refine Â ?_
 unfold İ
 refine Â (fld (v:=rawInt T) rfl ?_)
 show wpAny _ _ (loadIfAlive ((T:Int).toNat) >>= _) _ _ _
 rw[Ļ]
 refine Â (W.kdx_alive hT ?_)
 simp only[Option.isNone_some,Ĥ,if_false]
 refine Â (fld (v:=.bool q) rfl ?_)
 refine L2.thn (Q:=λa s'=>a=false/\∃h1,s'={ s with heap:=h1 }/\h1.get? z=some (mq (rawInt T) true TI TO)/\h1.objs.size=s.heap.objs.size/\∀c o,c≠z->s.heap.get? c=some o->h1.get? c=some o) ?_ ?_
 ·cases q with
  |true=>exact Ê ⟨rfl,s.heap,rfl,hZ,rfl,λc o _ e=>e⟩
  |false =>
   rw[if_pos (by decide)]
   refine Â (wpAny_setField_rec hZ (by simp) λh1 z1 b1=>Ê ⟨rfl,h1,rfl,z1,b1.1,λc o n e=>b1.extBut _ _ n e⟩)
 rintro a s' ⟨rfl,h1,rfl,z1,sz1,k1⟩
 simp only[Ĥ,if_false]
 refine Â ?_
 simp only[←Array.forIn_toList,List.forIn_cons,List.forIn_nil]
 have at1:h1.IsListIter i1 l1 k:=j1.at λo e=>k1 i1 o n1 e
 have at2:h1.IsListIter i2 l2 k:=j2.at λo e=>k1 i2 o n2 e
 have f1:h1.IsList l1 xs:=e1.at λo e=>k1 l1 o m1 e
 have f2:h1.IsList l2 ys:=e2.at λo e=>k1 l2 o m2 e
 refine Â (Â (ö ?_))
 show wpAny _ _ (ő (.ref i1) >>= _) _ _ _
 cases hx:xs[k]? with
 |none=>exact Â (wpAny_nextOf_list_end hh at1 f1 hx λh2 e b2 he=>hE h2 e (λc o a b _ x=>b2 c o b (k1 c o a x)) he)
 |some x =>
  have hy:ys[k]?=none:=hend.elim (λz=>by rw[hx] at z;cases z) id
  refine Â (wpAny_nextOf_list_item at1 f1 hx λh2 c1 b2=>Ê (Ê ?_))
  refine Â (Â (ö ?_))
  show wpAny _ _ (ő (.ref i2) >>= _) _ _ _
  exact Â (wpAny_nextOf_list_end hh (at2.extBut b2.extBut n12.symm) (f2.extBut b2.extBut m3) hy λh3 e b3 he=>hE h3 e (λc o a b d x=>b3 c o d (b2.extBut _ _ b (k1 c o a x))) he)
structure ZSt(z TI TO i1 i2 l1 l2:Addr)(xs ys:Array Value)(i:Nat)(h:Heap):Prop where
 zip:(i=0/\h.get? z=some (mq .none false TI TO))\/∃(T:Addr) (q:Bool) (oT:Obj),h.get? z=some (mq (rawInt T) q TI TO)/\h.get? T=some oT/\T≠z/\T≠i1/\T≠i2
 ti:h.get? TI=some { cls:=.type "tuple",data:=.seq #[.ref i1,.ref i2] }
 to:∃a b,h.get? TO=some { cls:=.type "tuple",data:=.seq #[a,b] }
 j1:h.IsListIter i1 l1 i
 j2:h.IsListIter i2 l2 i
 e1:h.IsList l1 xs
 e2:h.IsList l2 ys
variable {z TI TO i1 i2 l1 l2:Addr}{xs ys:Array Value}
def ZSt.keeps{i:Nat}{h h':Heap}(Z:ZSt z TI TO i1 i2 l1 l2 xs ys i h){S:Addr}{oS:Obj}(hS:h.get? S=some oS)(hc:oS.cls=.type "list")(n1:S≠l1)(n2:S≠l2)(nT:∀(T:Addr) (q:Bool),h.get? z=some (mq (rawInt T) q TI TO)->S≠T)(k:∀b o,b≠S->h.get? b=some o->h'.get? b=some o):ZSt z TI TO i1 i2 l1 l2 xs ys i h':=by
 have ne:∀{b:Addr}{o:Obj},h.get? b=some o->o.cls≠.type "list"->b≠S:=λe n z=>by subst z;rw[hS] at e;cases e;exact n hc
 obtain⟨o1,a1,c1,d1⟩:=Z.j1
 obtain⟨o2,a2,c2,d2⟩:=Z.j2
 obtain⟨a,b,ab⟩:=Z.to
 have k1:=k i1 o1 (ne a1 (by rw[c1];decide)) a1
 have k2:=k i2 o2 (ne a2 (by rw[c2];decide)) a2
 refine⟨?_,k _ _ (ne Z.ti (show ć "tuple"≠_ by decide)) Z.ti,⟨a,b,k _ _ (ne ab (show ć "tuple"≠_ by decide)) ab⟩,⟨o1,k1,c1,d1⟩,⟨o2,k2,c2,d2⟩,Z.e1.at λo e=>k _ o n1.symm e,Z.e2.at λo e=>k _ o n2.symm e⟩
 rcases Z.zip with ⟨h0,hz⟩|⟨T,q,oT,hz,hT,r⟩
 ·exact .inl ⟨h0,k _ _ (ne hz (show ć "zip"≠_ by decide)) hz⟩
 ·exact .inr ⟨T,q,oT,k _ _ (ne hz (show ć "zip"≠_ by decide)) hz,k _ _ (nT T q hz).symm hT,r⟩
def FT{i:Nat}{x y:Value}{Q:Option Value->Shared->Prop}(D:ZipApart z TI TO i1 i2 l1 l2)(Z:ZSt z TI TO i1 i2 l1 l2 xs ys i s.heap)(hx:xs[i]?=some x)(hy:ys[i]?=some y)(hQ:∀h',ZSt z TI TO i1 i2 l1 l2 xs ys (i+1) h'->h'.get? s.heap.objs.size=some { cls:=.type "tuple",data:=.seq #[x,y] }->(∀(T:Addr) (q:Bool),h'.get? z=some (mq (rawInt T) q TI TO)->T=s.heap.objs.size\/∃q',s.heap.get? z=some (mq (rawInt T) q' TI TO)) ->
   (∀c o,c≠z->c≠TO->c≠i1->c≠i2->s.heap.get? c=some o->h'.get? c=some o)->Q (some (.ref s.heap.objs.size)) { s with heap:=h' }):wpAny (model prog w) A (pyNext (.ref z)) Q E s:=by
 obtain⟨a,b,ab⟩:=Z.to
 have lt:∀{c:Addr}{o:Obj},s.heap.get? c=some o->s.heap.objs.size≠c:=λe=>ł (Ç e)
 obtain⟨o1,a1,_⟩:=id Z.j1
 obtain⟨o2,a2,_⟩:=id Z.j2
 rcases Z.zip with ⟨rfl,hz⟩|⟨T,q,oT,hz,hT,t1,t2,t3⟩
 ·refine wpAny_pyNext_zip_item D hz Z.ti ab Z.j1 Z.j2 Z.e1 Z.e2 hx hy λh' b1 b2 b3 b4 b5 b6 b7=>hQ h' ⟨.inr ⟨_,false,_,b1,b5,lt hz,lt a1,lt a2⟩,b7 _ _ D.TIz D.TITO D.TIi1 D.TIi2 Z.ti,⟨_,_,b2⟩,b3,b4,Z.e1.at λo e=>b7 _ o D.l1z D.l1TO D.l1i1 D.l1i2 e,Z.e2.at λo e=>b7 _ o D.l2z D.l2TO D.l2i1 D.l2i2 e⟩ b5 (λT q e=>?_) b7
  rw[b1] at e
  cases e
  exact .inl rfl
 ·have hTy:s.TypeIs (.ref z) "zip":=⟨_,hz,rfl⟩
  unfold pyNext
  refine Â (wpAny_attempt (ŀ (name:=ð "__next__") hTy F.slot_zip_next (Ŗ F.slot_zip_next hTy F.entry_zip_next ?_ (F.args_zip_next_1 _))))
  refine uh D.i1z D.i2z D.i12 D.l1z D.l2z D.l2i1 hz Z.ti hT Z.j1 Z.j2 Z.e1 Z.e2 hx hy λh' b1 b3 b4 b5 b7=>Ê (hQ h' ⟨.inr ⟨T,true,oT,b1,b7 _ _ t1 t2 t3 hT,t1,t2,t3⟩,b7 _ _ D.TIz D.TIi1 D.TIi2 Z.ti,⟨a,b,b7 _ _ D.TOz D.TOi1 D.TOi2 ab⟩,b3,b4,Z.e1.at λo e=>b7 _ o D.l1z D.l1i1 D.l1i2 e,Z.e2.at λo e=>b7 _ o D.l2z D.l2i1 D.l2i2 e⟩ b5 (λT' q' e=>?_) λc o n1 _ n3 n4 e=>b7 c o n1 n3 n4 e)
  rw[b1] at e
  cases e
  exact .inr ⟨_,hz⟩
def J6{i:Nat}{Q:Option Value->Shared->Prop}(hh:A.handled=none)(D:ZipApart z TI TO i1 i2 l1 l2)(Z:ZSt z TI TO i1 i2 l1 l2 xs ys i s.heap)(hend:xs[i]?=none\/ys[i]?=none)(hQ:∀h',(∀c o,c≠z->c≠TO->c≠i1->c≠i2->s.heap.get? c=some o->h'.get? c=some o)->Q none { s with heap:=h' }):wpAny (model prog w) A (pyNext (.ref z)) Q E s:=by
 obtain⟨a,b,ab⟩:=Z.to
 rcases Z.zip with ⟨rfl,hz⟩|⟨T,q,oT,hz,hT,t1,t2,t3⟩
 ·exact wpAny_pyNext_zip_end hh D hz Z.ti ab Z.j1 Z.j2 Z.e1 Z.e2 hend hQ
 ·have hTy:s.TypeIs (.ref z) "zip":=⟨_,hz,rfl⟩
  unfold pyNext
  refine Â (wpAny_attempt (ŀ (name:=ð "__next__") hTy F.slot_zip_next (Ŗ F.slot_zip_next hTy F.entry_zip_next ?_ (F.args_zip_next_1 _))))
  refine vY hh D.i1z D.i2z D.i12 D.l1z D.l2z D.l2i1 hz Z.ti hT Z.j1 Z.j2 Z.e1 Z.e2 hend λh' e k2 he=>?_
  obtain⟨o,ho,hc⟩:=he
  refine Â (wpAny_isInstance (T:="StopIteration") (b:=true) ⟨o,ho,hc⟩ isSubtype_stop ?_)
  exact Ê (hQ _ λc o n1 _ n3 n4 e=>k2 c o n1 n3 n4 e)
def ItP(h:Heap):List Value->List (Value×Value)->Prop:=Paired λv p=>∃T,v=.ref T/\h.get? T=some { cls:=.type "tuple",data:=.seq #[p.1,p.2] }
def ItP.snoc{h:Heap}:∀{vs:List Value}{ps:List (Value×Value)}{v:Value}{p:Value×Value},ItP h vs ps->(∃T,v=.ref T/\h.get? T=some { cls:=.type "tuple",data:=.seq #[p.1,p.2] })->ItP h (vs++[v]) (ps++[p])
 |_,_,_,_,.nil,r=>.cons r .nil
 |_,_,_,_,.cons a t,r=>.cons a (ItP.snoc t r)
def ItP.keeps{h h':Heap}{vs:List Value}{ps:List (Value×Value)}(H:ItP h vs ps)(k:∀T o,h.get? T=some o->o.cls=.type "tuple"->(∃v∈vs,v=.ref T)->h'.get? T=some o):ItP h' vs ps:=by
 induction H with
 |nil=>exact .nil
 |cons a t ih =>
  obtain⟨T,e,hT⟩:=a
  exact .cons ⟨T,e,k T _ hT rfl ⟨_,Ö,e⟩⟩ (ih λT o h c ⟨v,hv,e⟩=>k T o h c ⟨v,Ô _ hv,e⟩)
end
section
variable {prog:Program}{w:World}{A:Around}{z TI TO i1 i2 l1 l2:Addr}{xs ys:Array Value}{R:Result->Shared->Prop}
abbrev Lz(acc:Array Value)(c:Nat):Obj:={ cls:=.type "list",dict:=none,data:=.seq acc c,slots:=#[] }
def FP(hh:A.in1.handled=none)(D:ZipApart z TI TO i1 i2 l1 l2)(hn:min xs.size ys.size<=1000)(S:Addr)(nS:S≠z/\S≠TO/\S≠i1/\S≠i2/\S≠l1/\S≠l2)(res:Value):∀(m i:Nat) (s:Shared) (acc:Array Value) (c:Nat),min xs.size ys.size - i=m->i<=min xs.size ys.size ->
  ZSt z TI TO i1 i2 l1 l2 xs ys i s.heap->(∀(T:Addr) (q:Bool),s.heap.get? z=some (mq (rawInt T) q TI TO)->S≠T)->s.heap.get? S=some (Lz acc c)->ItP s.heap acc.toList ((xs.toList.zip ys.toList).take i)->(∀v∈acc.toList,∀T,v=.ref T->T≠z/\T≠TO/\T≠i1/\T≠i2/\T≠S) ->
  (∀h' acc' c',(∀b o,b≠S->b≠z->b≠TO->b≠i1->b≠i2->s.heap.get? b=some o->h'.get? b=some o)->h'.get? S=some (Lz acc' c')->ItP h' acc'.toList (xs.toList.zip ys.toList)->(∀v∈acc'.toList,v∈acc.toList\/∃T,v=.ref T/\s.heap.objs.size<=T)->R (.ok (.ret res)) { s with heap:=h' }) ->
  codeAny (model prog w) A (.builtin "list.extend.loop" ⟨[.ref S,.ref z,res],[]⟩) R s:=by
 obtain⟨s1,s2,s3,s4,s5,s6⟩:=nS
 intro m
 induction m with
 |zero =>
  intro i s acc c hm hi Z nT hS hP hv hR
  have e:i=min xs.size ys.size:=by omega
  refine codeAny_builtin F.entry_extend_loop ?_
  rw[Around.under_plainId F.plain_extend_loop _]
  show wpAny _ A.in1 (pyNext (.ref z) >>= _) _ _ s
  refine Â (J6 hh D Z ?_ λh' k=>?_)
  ·rcases Nat.le_total xs.size ys.size with h|h
   ·exact .inl (Array.getElem?_eq_none (by omega))
   ·exact .inr (Array.getElem?_eq_none (by omega))
  ·have el:(xs.toList.zip ys.toList).take i=xs.toList.zip ys.toList:=Ł (by simp;omega)
   rw[el] at hP
   exact Ê (hR h' acc c (λb o n1 n2 n3 n4 n5 e=>k b o n2 n3 n4 n5 e) (k S _ s1 s2 s3 s4 hS) (hP.keeps λT o h _ ⟨v,hv',e⟩=>let ⟨a1,a2,a3,a4,_⟩:=hv v hv' T e;k T o a1 a2 a3 a4 h) λv hv=>.inl hv)
 |succ m ih =>
  intro i s acc c hm hi Z nT hS hP hv hR
  have hx:i<xs.size:=by omega
  have hy:i<ys.size:=by omega
  refine codeAny_builtin F.entry_extend_loop ?_
  rw[Around.under_plainId F.plain_extend_loop _]
  show wpAny _ A.in1 (pyNext (.ref z) >>= _) _ _ s
  refine Â (FT D Z (Array.getElem?_eq_getElem hx) (Array.getElem?_eq_getElem hy) λh1 Z1 hT hz1 k1=>?_)
  have hS1:=k1 S _ s1 s2 s3 s4 hS
  have lt:∀{b:Addr}{o:Obj},s.heap.get? b=some o->s.heap.objs.size≠b:=λe=>ł (Ç e)
  have hsz:=hP.length
  have hsz2:acc.size=i:=by
   have:acc.toList.length=i:=by rw[hsz,Ě,Ÿ];simp;omega
   simpa using this
  show wpAny _ A.in1 (updateSeq S (·.push (.ref s.heap.objs.size)) >>= _) _ _ _
  refine Â ?_
  have h24:=ì
  have nT1:∀(T:Addr) (q:Bool),h1.get? z=some (mq (rawInt T) q TI TO)->S≠T:=λT q e=>by
   rcases hz1 T q e with z'|⟨q',e'⟩
   ·rw[z'];exact(lt hS).symm
   ·exact nT T q' e'
  have oth:∀b o,b≠S->h1.get? b=some o->(h1.update S (Ù (·.push (ü s.heap.objs.size)))).get? b=some o:=λb o n e=>(æ _ _ (ă n)).trans e
  obtain⟨o1,a1,_⟩:=Z.j1
  obtain⟨o2,a2,_⟩:=Z.j2
  have az:∃o,s.heap.get? z=some o:=by
   rcases Z.zip with ⟨_,hz⟩|⟨_,_,_,hz,_⟩
   ·exact⟨_,hz⟩
   ·exact⟨_,hz⟩
  obtain⟨oz,az⟩:=az
  obtain⟨ta,tb,at'⟩:=Z.to
  have newT:s.heap.objs.size≠z/\s.heap.objs.size≠TO/\s.heap.objs.size≠i1/\s.heap.objs.size≠i2/\s.heap.objs.size≠S:=⟨lt az,lt at',lt a1,lt a2,lt hS⟩
  obtain⟨c2,hS2⟩:∃c2,(h1.update S (Ù (·.push (ü s.heap.objs.size)))).get? S=some (Lz (acc.push (.ref s.heap.objs.size)) c2):=⟨_,ğ _ hS1 rfl⟩
  have tk:(xs.toList.zip ys.toList).take (i+1)=(xs.toList.zip ys.toList).take i++[(xs[i],ys[i])]:=by
   rw[Ğ]
   congr 1
   have:(xs.toList.zip ys.toList)[i]?=some (xs[i],ys[i]):=by
    rw[List.getElem?_zip_eq_some]
    simp[hx,hy]
   rw[this]
   rfl
  refine wpAny_updateSeq hS1 rfl (Ê ⟨plainId_quiet F.plain_extend_loop _,ih (i+1) { s with heap:=h1.update S (Ù (·.push (ü s.heap.objs.size))) } (acc.push (.ref s.heap.objs.size)) c2 (by omega) (by omega) (Z1.keeps hS1 rfl s5 s6 nT1 oth) (λT q e=>nT1 T q ?_) hS2 ?_ ?_ ?_⟩) (by rw[hsz2];omega) (by show(acc.push _).size<=sizeLine+1;rw[Array.size_push,hsz2];omega)
  ·have zz:z≠S:=ă s1
   rw[show(h1.update S (Ù (·.push (ü s.heap.objs.size)))).get? z=h1.get? z from æ _ _ (ă zz)] at e
   exact e
  ·rw[tk,Array.toList_push]
   refine ItP.snoc (hP.keeps λT o h _ ⟨v,hv',e⟩=>?_) ⟨_,rfl,oth _ _ newT.2.2.2.2 hT⟩
   obtain⟨b1,b2,b3,b4,b5⟩:=hv v hv' T e
   exact oth _ _ b5 (k1 T o b1 b2 b3 b4 h)
  ·intro v hv' T e
   rw[Array.toList_push] at hv'
   rcases Ø.mp hv' with q|q
   ·exact hv v q T e
   ·have q':v=.ref s.heap.objs.size:=by simpa using q
    rw[q'] at e
    cases e
    exact newT
  ·intro h' acc' c' kk hS' hP' hn'
   refine hR h' acc' c' (λb o n1 n2 n3 n4 n5 e=>kk b o n1 n2 n3 n4 n5 (oth b o n1 (k1 b o n2 n3 n4 n5 e))) hS' hP' λv hv'=>?_
   rcases hn' v hv' with q|⟨T,e,hT'⟩
   ·rw[Array.toList_push] at q
    rcases Ø.mp q with q|q
    ·exact .inl q
    ·have q':v=.ref s.heap.objs.size:=by simpa using q
     exact .inr ⟨_,q',Ì _⟩
   ·exact .inr ⟨T,e,î (Nat.le_of_lt (Ç (oth _ _ newT.2.2.2.2 hT))) hT'⟩
def yw:typeLookup (.type "zip") "__len__"=pure none:=by rw[typeLookup_type,builtinLookup_eq_fast];kernel_rfl
def vW:typeLookup (.type "zip") "__length_hint__"=pure none:=by rw[typeLookup_type,builtinLookup_eq_fast];kernel_rfl
def FQ{s:Shared}{E:Value->Shared->Prop}{Q:Value->Shared->Prop}(hh:A.handled=none)(D:ZipApart z TI TO i1 i2 l1 l2)(hn:min xs.size ys.size<=1000)(hz:s.heap.get? z=some (mq .none false TI TO))(Z:ZSt z TI TO i1 i2 l1 l2 xs ys 0 s.heap)(hQ:∀h' acc' c',(∀b o,b≠z->b≠TO->b≠i1->b≠i2->s.heap.get? b=some o->h'.get? b=some o)->h'.get? s.heap.objs.size=some (Lz acc' c')->ItP h' acc'.toList (xs.toList.zip ys.toList)->(∀v∈acc'.toList,∃T,v=.ref T/\s.heap.objs.size<T)->Q (.ref s.heap.objs.size) { s with heap:=h' }) :
  wpAny (model prog w) A (call (.type "list") [.ref z]) Q E s:=by
 have lt:∀{b:Addr}{o:Obj},s.heap.get? b=some o->s.heap.objs.size≠b:=λe=>ł (Ç e)
 obtain⟨o1,a1,_⟩:=id Z.j1
 obtain⟨o2,a2,_⟩:=id Z.j2
 obtain⟨p1,b1,_⟩:=id Z.e1
 obtain⟨p2,b2,_⟩:=id Z.e2
 obtain⟨ta,tb,at'⟩:=id Z.to
 refine callType_codes (Q₁:=λobj s₁=>obj=.ref s.heap.objs.size/\s₁={ s with heap:=s.heap.push { cls:=.type "list",data:=.seq #[] } }) F.called_list (F.typeCall_list_1 _) F.entry_list_init (code_list_new _ ⟨rfl,rfl⟩) λobj sx hx=>?_
 obtain⟨rfl,rfl⟩:=hx
 have hS:(s.heap.push { cls:=.type "list",data:=.seq #[] }).get? s.heap.objs.size=some { cls:=.type "list",data:=.seq #[] }:=Õ _ rfl
 refine⟨⟨_,hS,rfl⟩,F.args_list_init_2 _ _,?_⟩
 show wpAny _ _ (Builtin.List.listItems (.ref s.heap.objs.size) >>= λold=>Builtin.List.listUpdate (.ref s.heap.objs.size) (λ_=>#[]) >>= λ_=>letGo old.toList.reverse >>= λ_=>Œ (.ref s.heap.objs.size) (.ref z) .none) _ _ _
 have old:∀b o,s.heap.get? b=some o->(s.heap.push { cls:=.type "list",data:=.seq #[] }).get? b=some o:=λb o e=>Æ _ e
 refine Â ?_
 unfold Builtin.List.listItems
 refine Â (wpAny_seqItems hS rfl (Ê ?_))
 refine Â (m:=updateSeq s.heap.objs.size (λ_=>#[])) (wpAny_updateSeq hS rfl ?_)
 have hS2:=ğ (Ù (λ_=>(#[]:Array Value))) hS rfl
 refine Â (wpAny_letGo ?_)
 generalize hg:(s.heap.push { cls:=.type "list",data:=.seq #[] }).update s.heap.objs.size (Ù λ_=>(#[]:Array Value))=g at hS2
 have kg:∀b o,s.heap.get? b=some o->g.get? b=some o:=λb o e=>by rw[←hg];exact(æ _ _ (lt e)).trans (old b o e)
 have sg:g.objs.size=s.heap.objs.size+1:=by rw[←hg,ħ,Ĵ]
 have Zg:∀{h:Heap},(∀b o,s.heap.get? b=some o->h.get? b=some o)->ZSt z TI TO i1 i2 l1 l2 xs ys 0 h:=λ{h} k=>⟨.inl ⟨rfl,k _ _ hz⟩,k _ _ Z.ti,⟨ta,tb,k _ _ at'⟩,Z.j1.at λo e=>k _ o e,Z.j2.at λo e=>k _ o e,Z.e1.at λo e=>k _ o e,Z.e2.at λo e=>k _ o e⟩
 have hT:∀{h:Heap},(∀b o,s.heap.get? b=some o->h.get? b=some o)->({ s with heap:=h }:Shared).TypeIs (.ref z) "zip":=λk=>⟨_,k _ _ hz,rfl⟩
 unfold Œ
 refine Â (wpAny_typeOf (hT kg) ?_)
 have q1:Builtin.List.listSameRef (.ref s.heap.objs.size) (.ref z)=false:=by simp[Builtin.List.listSameRef,lt hz]
 have q2:(ć "zip" == ć "list")=false:=by decide
 have q3:(ć "zip" == ć "tuple")=false:=by decide
 simp only[q1,q2,q3,Bool.or_false,Ĥ,if_false]
 refine Â (wpAny_pyIter_zip (kg _ _ hz) ?_)
 refine Â (ö ?_)
 unfold Builtin.List.listLengthHint
 refine Â (wpAny_specialOf (hT kg) yw ?_)
 show wpAny _ _ (specialOf (ü z) (ð "__length_hint__") >>= _) _ _ _
 refine Â (wpAny_specialOf (hT kg) vW ?_)
 refine Ê ?_
 show wpAny _ _ (rule "list.extend.makes-room" >>= λ_=>Builtin.List.listTouch (.ref s.heap.objs.size) >>= λ_=>again (.builtin "list.extend.loop" ⟨[.ref s.heap.objs.size,.ref z,.none],[]⟩)) _ _ _
 refine Â (wpAny_rule (Â ?_))
 show wpAny _ _ (updateSeq s.heap.objs.size (·.push .none) >>= λ_=>updateSeq s.heap.objs.size (·.pop)) _ _ _
 refine Â (wpAny_updateSeq hS2 rfl ?_)
 have hS3:=ğ (Ù (·.push ý)) hS2 rfl
 refine wpAny_updateSeq hS3 rfl ?_
 have hS4:=ğ (Ù (·.pop)) hS3 rfl
 generalize hk:(g.update s.heap.objs.size (Ù (·.push ý))).update s.heap.objs.size (Ù (·.pop))=g' at hS4
 have kk:∀b o,b≠s.heap.objs.size->g.get? b=some o->g'.get? b=some o:=λb o n e=>by rw[←hk];exact(æ _ _ (ă n)).trans ((æ _ _ (ă n)).trans e)
 have kk2:∀b o,s.heap.get? b=some o->g'.get? b=some o:=λb o e=>kk b o (ă (lt e)) (kg b o e)
 have sk:g'.objs.size=s.heap.objs.size+1:=by rw[←hk,ħ,ħ,sg]
 refine Ê ⟨plainId_quiet F.plain_extend_loop _,FP (A:=A.in1) (xs:=xs) (ys:=ys) hh D hn s.heap.objs.size ⟨lt hz,lt at',lt a1,lt a2,lt b1,lt b2⟩ _ _ 0 { s with heap:=g' } #[] _ rfl (ä _) (Zg kk2) (λT q e=>?_) hS4 .nil (λv hv=>nomatch hv) λh' acc' c' k' hS' hP' hn'=>?_⟩
 ·have e':=kk2 _ _ hz
  rw[e] at e'
  cases e'
 ·refine⟨rfl,hQ h' acc' c' (λb o n1 n2 n3 n4 e=>k' b o (ă (lt e)) n1 n2 n3 n4 (kk2 b o e)) hS' hP' λv hv=>?_⟩
  rcases hn' v hv with q|⟨T,e,hT'⟩
  ·exact nomatch q
  ·refine⟨T,e,?_⟩
   have:g'.objs.size<=T:=hT'
   omega
end
end PySem
namespace L2
open PySem PySem.Spec PyProof.Rows
section
variable {X:Cx}{pins:List (Addr×Obj)}{σ:L2.St}{H:Hp}{s:Shared}
def Inv.Gb{a:Addr}{o:HO}{H0:Hp}{s0:Shared}{σ0:L2.St}(I:Inv X pins σ H s)(I0:Inv X pins σ0 H0 s0)(hle:s0.heap.objs.size<=a)(hn:H a=none)(new:aU X.prog X.w (upd H a o) s.heap a o):Inv X pins σ (upd H a o) s:=by
 have lt:∀{b:Addr}{u:Obj},s0.heap.get? b=some u->b≠a:=λe z=>absurd (Û (Ç e) hle) (by rw[z];exact ø _)
 refine I.track hn (λob e=>?_) (ă (ß (Û I0.lt hle))) (λx c e=>?_) (λp hp=>lt (I0.pin p hp).1) new
 ·exact absurd (Û (Ç e) (î I0.sz hle)) (ø _)
 ·obtain⟨v,u,hu,_⟩:=I0.cell x c e
  exact lt hu
def Inv.tuples{H0:Hp}{s0:Shared}{σ0:L2.St}(I0:Inv X pins σ0 H0 s0):∀(vs:List Value) (ps:List (Value×Value)) (qs:List (V×V)) (H:Hp),Inv X pins σ H s->ItP s.heap vs ps->Paired (λ(q:V×V) (p:Value×Value)=>RelV q.1 p.1/\RelV q.2 p.2) qs ps->(∀v∈vs,∃T,v=.ref T/\s0.heap.objs.size<=T)->(∀T,s0.heap.objs.size<=T->H T=none\/∃xs,H T=some (.tup xs)) ->
  ∃(H':Hp) (ws:List V),Inv X pins σ H' s/\Same H H'/\Vals ws vs/\Paired (λw (q:V×V)=>∃t,w=.ref t/\H' t=some (.tup [q.1,q.2])) ws qs/\(∀T,s0.heap.objs.size<=T->H' T=none\/∃xs,H' T=some (.tup xs))/\(∀T,(∀v∈vs,v≠.ref T)->H' T=H T)
 |_,_,_,H,I,.nil,.nil,_,hN=>⟨H,[],I,Same.refl _,.nil,.nil,hN,λ_ _=>rfl⟩
 |_,_,_,H,I,.cons (a:=v) (l₁:=vs) (b:=p) (l₂:=ps) r t,.cons (a:=q) (l₁:=qs) rq tq,hv,hN=>by
  obtain⟨T,e,hT⟩:=r
  subst e
  obtain⟨T',e',hle⟩:=hv _ Ö
  cases e'
  have vq:Vals [q.1,q.2] [p.1,p.2]:=.cons rq.1 (.cons rq.2 .nil)
  have okT:∀H2:Hp,aU X.prog X.w H2 s.heap T (.tup [q.1,q.2]):=λH2=>⟨by show 2<=sizeLine;decide,[p.1,p.2],vq,⟨_,hT,rfl,0,rfl⟩⟩
  have key:∃H1,Inv X pins σ H1 s/\Same H H1/\H1 T=some (.tup [q.1,q.2])/\(∀U,s0.heap.objs.size<=U->H1 U=none\/∃xs,H1 U=some (.tup xs))/\∀U,U≠T->H1 U=H U:=by
   rcases hN T hle with hn|⟨xs,hx⟩
   ·refine⟨upd H T (.tup [q.1,q.2]),I.Gb I0 hle hn (okT _),λb u e=>by rw[ak (aF e hn)];exact e,ao,λU hU=>?_,λU hU=>ak hU⟩
    by_cases z:U=T
    ·subst z;exact .inr ⟨_,ao⟩
    ·rw[ak z];exact hN U hU
   ·refine⟨H,I,Same.refl _,?_,hN,λ_ _=>rfl⟩
    obtain⟨_,its,rv,o,ho,hc,n,hd⟩:=I.hok T _ hx
    rw[hT] at ho
    cases ho
    cases hd
    have:xs=[q.1,q.2]:=Vals.inj (by simpa using rv) vq
    rw[hx,this]
  obtain⟨H1,I1,s1,h1,N1,u1⟩:=key
  obtain⟨H2,ws,I2,s2,v2,p2,N2,u2⟩:=Inv.tuples I0 vs ps qs H1 I1 t tq (λv hv'=>hv v (Ô _ hv')) N1
  refine⟨H2,.ref T::ws,I2,s1.trans s2,.cons rfl v2,.cons ⟨T,rfl,s2 _ _ h1⟩ p2,N2,λU hU=>?_⟩
  rw[u2 U λv hv'=>hU v (Ô _ hv'),u1 U λz=>hU _ Ö (by rw[z])]
def tLZ(K:Ñ)(ta:TA):TE:=λσ H Q=>ta σ H λvs H1=>∃p q xs ys,vs=[.ref p,.ref q]/\SqL K H1 p xs/\SqL K H1 q ys/\xs.length<=1000 /\
 ∀l ws H',Same H1 H'->H1 l=none->H' l=some (.lst ws)->Paired (λw (q:V×V)=>∃t,w=.ref t/\H' t=some (.tup [q.1,q.2])) ws (xs.zip ys)->Q (.ref l) H'
def v7:∀{xs ys:List V}{us vs:List Value},Vals xs us->Vals ys vs->Paired (λ(q:V×V) (p:Value×Value)=>RelV q.1 p.1/\RelV q.2 p.2) (xs.zip ys) (us.zip vs)
 |_,_,_,_,.nil,_=>.nil
 |_,_,_,_,.cons _ _,.nil=>.nil
 |_,_,_,_,.cons a b,.cons c d=>.cons ⟨a,c⟩ (v7 b d)
def yU{a b:Expr}{ta:TA}{p1 p2 pos1 pos2:Pos}(hc:X.calm=true)(hgl:Gl X "list")(hml:X.mg "list"=none)(hgz:Gl X "zip")(hmz:X.mg "zip"=none)(ha:PA X [a,b] ta)(e1:starEach [.Call (.Name "zip" p2) [a,b] [] pos2] X.env=[(false,eval (.Call (.Name "zip" p2) [a,b] [] pos2) X.env)]:=by rfl)(e2:starEach [a,b] X.env=(false,eval a X.env)::starEach [b] X.env:=by rfl)(e3:(backTo pos2 (starEach [b] X.env)).any (·.1)=false:=by rfl) :
  PE X (.Call (.Name "list" p1) [.Call (.Name "zip" p2) [a,b] [] pos2] [] pos1) (tLZ X.K ta):=by
 intro pins s σ H Q I h
 refine ĸ (iK I hgl hml boot_list ?_)
 refine ĵ ?_ e1 rfl
 rw[e1]
 refine Calls.spliced_cons ?_
 refine ĸ (iK I hgz hmz PyProof.Rows.boot_zip ?_)
 refine ĵ (thn (ha pos2 pins s σ H _ I h) λus s1 ⟨vs,H1,I1,r1,q1⟩=>?_) e2 e3
 obtain⟨p,q,xs,ys,rfl,hp,hq,hlen,k⟩:=q1
 obtain⟨u,u2,rfl,rx,ry⟩:=vals2 r1
 cases rx
 cases ry
 obtain⟨its,rv,pl,_⟩:=I1.list hp
 obtain⟨its2,rv2,pl2,_⟩:=I1.list hq
 refine call_zip_2 pl.isList pl2.isList λh' hz hTI hTO hi1 hi2 hsz hk=>?_
 refine Calls.spliced_nil ?_
 have lp:p<s1.heap.objs.size:=by obtain⟨o,e,_⟩:=pl.isList;exact Ç e
 have lq:q<s1.heap.objs.size:=by obtain⟨o,e,_⟩:=pl2.isList;exact Ç e
 have D:=zipApart_new lp lq
 have Z:ZSt (s1.heap.objs.size+4) (s1.heap.objs.size+2) (s1.heap.objs.size+3) s1.heap.objs.size (s1.heap.objs.size+1) p q its.toArray its2.toArray 0 h' :=
  ⟨.inl ⟨rfl,hz⟩,hTI,⟨_,_,hTO⟩,hi1,hi2,pl.isList.at λo e=>hk _ o e,pl2.isList.at λo e=>hk _ o e⟩
 have hl1:=rv.length
 refine FQ (s:={ s1 with heap:=h' }) (I1.ok.hd hc) D (by simp;omega) hz Z λh2 acc c2 k2 hS hP hT=>?_
 have lt:∀{b:Addr}{o:Obj},s1.heap.get? b=some o->b<s1.heap.objs.size:=λe=>Ç e
 have kept:∀b o,s1.heap.get? b=some o->h2.get? b=some o:=λb o e=>by
  have l0:=lt e
  have l1:∀j,b≠s1.heap.objs.size+j:=λj=>ß (Û l0 (Nat.le_add_right _ _))
  exact k2 b o (l1 4) (l1 3) (l1 0) (l1 1) (hk b o e)
 have I2:Inv X pins σ H1 { s1 with heap:=h2 }:=I1.kept (t':=s1.toks) kept
 have hsz':h'.objs.size=s1.heap.objs.size+5:=hsz
 obtain⟨H3,ws,I3,s3,v3,p3,N3,u3⟩:=Inv.tuples I1 acc.toList _ _ H1 I2 hP (v7 rv rv2) (λv hv=>by
  obtain⟨T,e,hT'⟩:=hT v hv
  have hT'':h'.objs.size<T:=hT'
  exact⟨T,e,by omega⟩) λT hT=>.inl (I1.hok.fresh hT)
 have hSn:H3 h'.objs.size=none:=by
  rw[u3 _ λv hv z=>?_]
  ·exact I1.hok.fresh (by omega)
  ·obtain⟨T,e,hT'⟩:=hT v hv
   rw[z] at e
   cases e
   exact absurd hT' (ø _)
 have hwl:ws.length<=sizeLine:=by
  have:=v3.length
  have h24:=ì
  have l3:=p3.length
  rw[l3,Ÿ]
  omega
 have I4:Inv X pins σ (upd H3 h'.objs.size (.lst ws)) { s1 with heap:=h2 }:=I3.Gb I1 (by omega) hSn ⟨hwl,acc.toList,c2,v3,hS⟩
 refine⟨.ref h'.objs.size,_,I4,rfl,k h'.objs.size ws _ (s3.trans λb u e=>by rw[ak (aF e hSn)];exact e) (I1.hok.fresh (by omega)) ao (Paired.Ii p3 λw q ⟨t,e,ht⟩=>⟨t,e,by rw[ak (aF ht hSn)];exact ht⟩)⟩
end
end L2
namespace Dl
open PySem L2 PyProof.Rows
variable [Gr]
section
variable {X:Cx}{pos:Pos}{a b c e:Expr}{es:List Expr}{ta tb tc te:DE}{t:DA}
def newP(k:Kd)(ds:List D)(P:Kd->Prop):Prop:=(cX ds=true/\P .new)\/P (k.join .new)
def gJ{p:Pn}{H0 Hb H H2:Hp}{own:Addr->Option Nat}(A:At p H0 own Hb H){k:Kd}{vs:List V}{ds:List D}{P:Kd->Prop}{l:Addr}(r:Rps (okK p H0 own Hb k) H2 vs ds)(nw:okK p H0 own Hb .new l)(hl:H2 l=some (.lst vs))(h:newP k ds P):∃k',P k'/\Rp (okK p H0 own Hb k') H2 (.ref l) (.list ds):=by
 rcases h with ⟨i,h⟩|h
 ·exact⟨_,h,.lst nw hl ((Rps.imm r i).mono (λ_ o=>o.elim) (λ_ _ _ e=>e) λ_ _ e=>e)⟩
 ·exact⟨_,h,.lst (bw A (cQ k .new).2 nw) hl (r.mono (λa o=>bw A (cQ k .new).1 o) (λ_ _ _ e=>e) λ_ _ e=>e)⟩
def lG:∀l:List Int,cX (l.map Í)=true
 |[]=>rfl
 |x::l=>by
  show(bU (.int x)&&cX (l.map Í))=true
  rw[lG l]
  rfl
def mX:∀l:List Tie,cX (l.map pD)=true
 |[]=>rfl
 |x::l=>by
  show(bU (pD x)&&cX (l.map pD))=true
  rw[mX l]
  rfl
def prD(p:D×D):D:=.tuple [p.1,p.2]
def Uv:GC:=λks P=>match ks with
 |[(k1,.list ds),(k2,.list es)]=>ds.length<=1000/\newP (k1.join k2) ((ds.zip es).map prD) λk=>P k (.list ((ds.zip es).map prD))
 |_=>False
def Rps.zip{ok:Addr->Prop}{H H':Hp}(m:∀{v:V}{d:D},Rp ok H v d->Rp ok H' v d):∀{xs ys:List V}{ds es:List D}{ws:List V},Rps ok H xs ds->Rps ok H ys es->Paired (λw (q:V×V)=>∃t,w=.ref t/\H' t=some (.tup [q.1,q.2])) ws (xs.zip ys)->Rps ok H' ws ((ds.zip es).map prD)
 |_,_,_,_,_,.nil,_,p=>by cases p;exact .nil
 |_,_,_,_,_,.cons _ _,.nil,p=>by cases p;exact .nil
 |_,_,_,_,_,.cons h t,.cons h2 t2,p=>by
  cases p with
  |cons r q =>
   obtain⟨t',rfl,ht⟩:=r
   exact .cons (.tup ht (.cons (m h) (.cons (m h2) .nil))) (Rps.zip m t t2 q)
def zp{p1 p2 pos1 pos2:Pos}(hc:X.calm=true)(hml:X.mg "list"=none)(hmz:X.mg "zip"=none)(ha:PDA X [a,b] t)(hgl:Gl X "list":=by rfl)(hgz:Gl X "zip":=by rfl)(e1:starEach [.Call (.Name "zip" p2) [a,b] [] pos2] X.env=[(false,eval (.Call (.Name "zip" p2) [a,b] [] pos2) X.env)]:=by rfl)(e2:starEach [a,b] X.env=(false,eval a X.env)::starEach [b] X.env:=by rfl)(e3:(backTo pos2 (starEach [b] X.env)).any (·.1)=false:=by rfl) :
  PD X (.Call (.Name "list" p1) [.Call (.Name "zip" p2) [a,b] [] pos2] [] pos1) (tCl Uv t):=PE.wk (yU hc hgl hml hgz hmz ha e1 e2 e3) (by
 rintro σ H Q ⟨p,H0,own,ρ,P,E,t,q⟩
 refine⟨p,H0,own,ρ,_,E,t,λks vs H1 h A r=>?_⟩
 unfold Uv at h
 split at h
 ·rename_i k1 ds k2 es'
  obtain⟨v,w,rfl,r1,r2⟩:=Qd r
  obtain⟨x,xs,e1,o1,h1,rs1⟩:=Rp.cj r1
  obtain⟨y,ys,e2,o2,h2,rs2⟩:=Rp.cj r2
  subst e1 e2
  refine⟨x,y,xs,ys,rfl,SqL.of h1,SqL.of h2,by rw[rs1.length];exact h.1,λl ws H' sm hl hl' hp=>?_⟩
  have K:Kp p H1 H':=Kp.of sm
  have i2:p.PI H':=p.mono H1 H' A.pen λb o _ e=>sm b o e
  have j2:=cQ k1 k2
  have m1:∀{k:Kd},k.le (k1.join k2)=true->∀{vs ds},Rps (okK p H0 own H k) H1 vs ds->Rps (okK p H0 own H (k1.join k2)) H1 vs ds:=λhk _ _ z=>z.mono (λa o=>bw A hk o) (λ_ _ _ e=>e) λ_ _ e=>e
  obtain⟨k',hk',rk'⟩:=gJ A (Rps.zip (λz=>fK A K z) (m1 j2.1 rs1) (m1 j2.2 rs2) hp) (A.free hl) hl' h.2
  exact q _ _ _ _ hk' (A.go K i2) rk'
 ·exact h.elim)
def tCh(f g:Int->Int->Bool)(ta tb tc:DE):DE:=λρ P=>ta ρ λ_ d1=>tb ρ λ_ d2=>match d1,d2 with
 |.int i,.int j=>if f i j=true then tc ρ λ_ d3=>(match d3 with
   |.int l=>P .imm (.bool (g j l))
   |_=>False) else P .imm (.bool false)
 |_,_=>False
def Ma{f g:Int->Int->Bool}:∀σ H Q,cI (tCh f g ta tb tc) σ H Q->Gh (rI0 λi j=>.bl (f i j)) (rI0 λi j=>.bl (g i j)) (cI ta) (cI tb) (cI tc) σ H Q:=by
 rintro σ H Q ⟨p,H0,own,ρ,P,E,t,q⟩
 refine⟨p,H0,own,ρ,_,E,t,λk1 d1 v1 H1 t1 A1 r1=>?_⟩
 refine⟨p,H0,own,ρ,_,E.go A1.kp A1.pen,t1,λk2 d2 v2 H2 t2 A2 r2=>?_⟩
 have A:=A1.base A2
 split at t2
 ·rename_i i j
  refine⟨i,j,r1.int',r2.int',_,rfl,?_⟩
  cases hf:f i j with
  |true =>
   rw[hf,if_pos rfl] at t2
   refine aH ⟨p,H0,own,ρ,_,(E.go A1.kp A1.pen).go A2.kp A2.pen,t2,λk3 d3 v3 H3 t3 A3 r3=>?_⟩
   cases d3 with
   |int l=>exact⟨j,l,r2.int',r3.int',q _ _ _ _ t3 (A.base A3) (.bl _)⟩
   |_=>exact t3.elim
  |false =>
   rw[hf,if_neg É] at t2
   exact aL (q _ _ _ _ t2 A (.bl _))
 ·exact t2.elim
def BZ(ha:PD X a ta)(hb:PD X b tb)(hc:PD X c tc)(hm:lastMarks [.LtE,.Lt] [b,c]=false:=by with_unfolding_all rfl):PD X (.Compare a [.LtE,.Lt] [b,c] pos) (tCh (λi j=>decide (i<=j)) (λi j=>decide (i<j)) ta tb tc):=PE.wk (G9 Hq Cd ha hb hc hm) Ma
def SX(ta:DE):DE:=λρ P=>ta ρ λ_ d=>match d with
 |.bool b=>P .imm (.bool (!b))
 |_=>False
def Qx(ha:PD X a ta):PD X (.UnaryOp .Not a pos) (SX ta):=PE.wk (Qs ha) (by
 rintro σ H Q ⟨p,H0,own,ρ,P,E,t,q⟩
 refine⟨p,H0,own,ρ,_,E,t,λk d v H' h A r=>?_⟩
 cases d with
 |bool b=>exact⟨b,r.bl',q _ _ _ _ h A (.bl _)⟩
 |_=>exact h.elim)
def Ay(ta tb:DE):DE:=λρ P=>ta ρ λ_ d=>match d with
 |.bool b=>if b=true then tb ρ P else P .imm (.bool false)
 |_=>False
def cF{op}(h:PD X a ta):PD X (.BoolOp op [a] pos) ta:=Qq h
def mO{rest:List Expr}(ha:PD X a ta)(hb:PD X (.BoolOp .And (b::rest) pos) tb):PD X (.BoolOp .And (a::b::rest) pos) (Ay ta tb):=PE.wk (Qv ha hb) (by
 rintro σ H Q ⟨p,H0,own,ρ,P,E,t,q⟩
 refine⟨p,H0,own,ρ,_,E,t,λk d v H' h A r=>?_⟩
 cases d with
 |bool b =>
  refine⟨b,r.bl',?_⟩
  cases b with
  |true=>exact aH ⟨p,H0,own,ρ,P,E.go A.kp A.pen,by simpa using h,λk d v H2 h2 A2 r2=>q k d v H2 h2 (A.base A2) (gn A r2)⟩
  |false=>exact aL (q _ _ _ _ (by simpa using h) A (.bl _))
 |_=>exact h.elim)
def tyD:D->String
 |.none=>"NoneType"
 |.bool _=>"bool"
 |.int _=>"int"
 |.str _=>"str"
 |.list _=>"list"
 |.tuple _=>"tuple"
 |.dict _=>"dict"
def isT(c:String)(d:D):Bool:=tyD d == c || (c == "int"&&tyD d == "bool")
def tIs(c:String)(te:DE):DE:=λρ P=>te ρ λ_ d=>P .imm (.bool (isT c d))
def bI{T:String}{x:Str}{ps pt:Pos}(hk:∀t:Value,(t=.type "NoneType"\/t=.type "bool"\/t=.type "int"\/t=.type "str"\/t=.type "list"\/t=.type "tuple"\/t=.type "dict")->∃n,t=.type n/\Ŕ X.K t (.type T)=some (n == T || (T == "int"&&n == "bool")))(hm:X.mg "isinstance"=none)(he:PD X e te)(hT:PE X (.Name x pt) (tC (.ty T)))(hg:Gl X "isinstance":=by rfl)(h1:starEach [e,.Name x pt] X.env=(false,eval e X.env)::starEach [.Name x pt] X.env:=by rfl)(h2:starEach [.Name x pt] X.env=(false,eval (.Name x pt) X.env)::starEach [] X.env:=by rfl)(hpl:(backTo pos (starEach [.Name x pt] X.env)).any (·.1)=false:=by rfl) :
  PD X (.Call (.Name "isinstance" ps) [e,.Name x pt] [] pos) (tIs T te):=PE.wk (dG vQ hg hm boot_isinstance (bN he (bN hT jH h2) h1) (by decide) (by decide) h1 hpl) (by
 rintro σ H Q ⟨p,H0,own,ρ,P,E,t,q⟩
 refine⟨p,H0,own,ρ,_,E,t,λk d v H' h A r=>?_⟩
 have fin:∀n,TyOf X.K H' v (.type n)->n=tyD d->∃x' c' t' b,[v,V.ty T]=[x',.ty c']/\TyOf X.K H' x' t'/\Ŕ X.K t' (.type c')=some b/\Q (.bl b) H':=λn ty en=>by
  obtain⟨n',e,hk'⟩:=hk (.type n) (by rw[en];cases d <;> simp[tyD])
  cases e
  refine⟨v,T,.type n,_,rfl,ty,hk',?_⟩
  rw[en]
  exact q _ _ _ _ h A (.bl _)
 show ∃x' c' t' b,_/\_
 cases r with
 |non=>exact fin _ .non rfl
 |bl b=>exact fin _ (.bl b) rfl
 |int i=>exact fin _ (.int i) rfl
 |str x=>exact fin _ (.str x) rfl
 |lst o hh rr=>exact fin _ (.lst hh) rfl
 |tup hh rr=>exact fin _ (.tup hh) rfl
 |dct o hh rr=>exact fin _ (.dK hh) rfl)
def Mq{K:Ñ}:∀t:Value,(t=.type "NoneType"\/t=.type "bool"\/t=.type "int"\/t=.type "str"\/t=.type "list"\/t=.type "tuple"\/t=.type "dict")->∃n,t=.type n/\Ŕ K t (.type "int")=some (n == "int" || ("int" == "int"&&n == "bool")):=by
 rintro t (rfl|rfl|rfl|rfl|rfl|rfl|rfl) <;> exact⟨_,rfl,rfl⟩
def Jc{K:Ñ}:∀t:Value,(t=.type "NoneType"\/t=.type "bool"\/t=.type "int"\/t=.type "str"\/t=.type "list"\/t=.type "tuple"\/t=.type "dict")->∃n,t=.type n/\Ŕ K t (.type "bool")=some (n == "bool" || ("bool" == "int"&&n == "bool")):=by
 rintro t (rfl|rfl|rfl|rfl|rfl|rfl|rfl) <;> exact⟨_,rfl,rfl⟩
def xJ{K:Ñ}:∀t:Value,(t=.type "NoneType"\/t=.type "bool"\/t=.type "int"\/t=.type "str"\/t=.type "list"\/t=.type "tuple"\/t=.type "dict")->∃n,t=.type n/\Ŕ K t (.type "list")=some (n == "list" || ("list" == "int"&&n == "bool")):=by
 rintro t (rfl|rfl|rfl|rfl|rfl|rfl|rfl) <;> exact⟨_,rfl,rfl⟩
def kit_tuple{K:Ñ}:∀t:Value,(t=.type "NoneType"\/t=.type "bool"\/t=.type "int"\/t=.type "str"\/t=.type "list"\/t=.type "tuple"\/t=.type "dict")->∃n,t=.type n/\Ŕ K t (.type "tuple")=some (n == "tuple" || ("tuple" == "int"&&n == "bool")):=by
 rintro t (rfl|rfl|rfl|rfl|rfl|rfl|rfl) <;> exact⟨_,rfl,rfl⟩
def Mp{K:Ñ}:∀t:Value,(t=.type "NoneType"\/t=.type "bool"\/t=.type "int"\/t=.type "str"\/t=.type "list"\/t=.type "tuple"\/t=.type "dict")->∃n,t=.type n/\Ŕ K t (.type "str")=some (n == "str" || ("str" == "int"&&n == "bool")):=by
 rintro t (rfl|rfl|rfl|rfl|rfl|rfl|rfl) <;> exact⟨_,rfl,rfl⟩
def Rv:GC:=λks P=>match ks with
 |[(_,.list ds)]=>∃bs:List Bool,ds=bs.map PyData.bool/\P .imm (.bool (bs.all id))
 |_=>False
def Rps.bools{ok:Addr->Prop}{H:Hp}:∀{vs:List V}{bs:List Bool},Rps ok H vs (bs.map PyData.bool)->vs=bs.map V.bl
 |[],[],_=>rfl
 |_,b::bs,.cons h t=>by
  have e:=h.bl'
  subst e
  rw[Rps.bools t]
  rfl
def mQ{ps:Pos}(hc:X.calm=true)(hm:X.mg "all"=none)(hv:bootBuiltins "all"=some (.builtin "all"))(ha:PDA X [a] t)(hg:Gl X "all":=by rfl)(he:zS X a []:=by rfl)(hpl:zP X pos []:=by rfl):PD X (.Call (.Name "all" ps) [a] [] pos) (tCl Rv t) :=
 cM (Fv hc) (by
  intro p H0 own Hb H vs ks P Q A r t q
  unfold Rv at t
  split at t
  ·obtain⟨bs,rfl,t⟩:=t
   obtain⟨v,rfl,r'⟩:=dN r
   obtain⟨x,xs,e1,o1,h1,rs1⟩:=Rp.cj r'
   subst e1
   have e2:=Rps.bools rs1
   subst e2
   exact⟨x,bs,rfl,SqL.of h1,q _ _ _ _ t Kp.refl A.pen (.bl _)⟩
  ·exact t.elim) hg hm hv ha (by decide) (by decide) he hpl
def gMM(f:Int->Int->Int):GC:=λks P=>match ks with
 |[(_,.int i),(_,.int j)]=>P .imm (.int (f i j))
 |_=>False
def KZ{ps:Pos}(hc:X.calm=true)(hm:X.mg "max"=none)(ha:PDA X [a,b] t)(hg:Gl X "max":=by rfl)(he:starEach [a,b] X.env=(false,eval a X.env)::starEach [b] X.env:=by rfl)(hpl:(backTo pos (starEach [b] X.env)).any (·.1)=false:=by rfl):PD X (.Call (.Name "max" ps) [a,b] [] pos) (tCl (gMM λi j=>if j > i then j else i) t) :=
 cM (Fp hc) (by
  intro p H0 own Hb H vs ks P Q A r t q
  unfold gMM at t
  split at t
  ·rename_i k i k' j
   obtain⟨v,w,rfl,r1,r2⟩:=Qd r
   rw[Rp.int' r1,Rp.int' r2]
   exact⟨i,j,rfl,q _ _ _ _ t Kp.refl A.pen (.int _)⟩
  ·exact t.elim) hg hm boot_max ha (by decide) (by decide) he hpl
def Mz:GC:=λks P=>match ks with
 |[(k,.list ds)]=>newP k ds λk'=>P k' (.list ds)
 |[(k,.tuple ds)]=>newP k ds λk'=>P k' (.list ds)
 |_=>False
def oZ{ps:Pos}(hm:X.mg "list"=none)(ha:PDA X [a] t)(hg:Gl X "list":=by rfl)(he:zS X a []:=by rfl)(hpl:zP X pos []:=by rfl):PD X (.Call (.Name "list" ps) [a] [] pos) (tCl Mz t) :=
 j8 vO (by
  intro p H0 own Hb H vs ks P Q A r t q
  have fin:∀{k ds xs},Rps (okK p H0 own Hb k) H xs ds->newP k ds (λk'=>P k' (.list ds))->∀l,H l=none->Q (.ref l) (upd H l (.lst xs)):=λ{k ds xs} rs t l hl=>by
   obtain⟨k2,i2,nw⟩:=A.new hl (.lst xs)
   obtain⟨k',hk',rk'⟩:=gJ A (aX A k2 rs) nw ao t
   exact q _ _ _ _ hk' k2 i2 rk'
  unfold Mz at t
  split at t
  ·obtain⟨v,rfl,r'⟩:=dN r
   obtain⟨x,xs,e1,o1,h1,rs1⟩:=Rp.cj r'
   subst e1
   exact⟨x,xs,rfl,.inl (SqL.of h1),fin rs1 t⟩
  ·obtain⟨v,rfl,r'⟩:=dN r
   obtain⟨x,xs,e1,h1,rs1⟩:=Rp.d7 r'
   subst e1
   exact⟨x,xs,rfl,.inr (SqT.of h1),fin rs1 t⟩
  ·exact t.elim) hg hm boot_list ha (by decide) (by decide) he hpl
def Jj:GC:=λks P=>match ks with
 |[(k,.list ds)]=>P (norm k (.tuple ds)) (.tuple ds)
 |[(k,.tuple ds)]=>P (norm k (.tuple ds)) (.tuple ds)
 |_=>False
def gC{ps:Pos}(hm:X.mg "tuple"=none)(ha:PDA X [a] t)(hg:Gl X "tuple":=by rfl)(he:zS X a []:=by rfl)(hpl:zP X pos []:=by rfl):PD X (.Call (.Name "tuple" ps) [a] [] pos) (tCl Jj t) :=
 j8 rQ (by
  intro p H0 own Hb H vs ks P Q A r t q
  unfold Jj at t
  split at t
  ·rename_i k ds
   obtain⟨v,rfl,r'⟩:=dN r
   obtain⟨x,xs,e1,o1,h1,rs1⟩:=Rp.cj r'
   subst e1
   refine⟨x,xs,rfl,.inl ⟨SqL.of h1,λl hl=>?_⟩⟩
   obtain⟨k2,i2,nw⟩:=A.new hl (.tup xs)
   exact q _ _ _ _ t k2 i2 (aM (.tup ao (aX A k2 rs1)))
  ·rename_i k ds
   obtain⟨v,rfl,r'⟩:=dN r
   obtain⟨x,xs,e1,h1,rs1⟩:=Rp.d7 r'
   subst e1
   exact⟨x,xs,rfl,.inr ⟨SqT.of h1,q _ _ _ _ t Kp.refl A.pen (aM r')⟩⟩
  ·exact t.elim) hg hm boot_tuple ha (by decide) (by decide) he hpl
def Af:GC:=λks P=>match ks with
 |[(_,d)]=>∃ts:List Tie,(d=.list (ts.map pD)\/d=.tuple (ts.map pD))/\ts.length<64/\(∀t∈ts,yt t)/\∀us:List Tie,us.Perm ts->us.Pairwise (λa b=>aV a<=aV b)->P .new (.list (us.map pD))
 |_=>False
def Rps.prs{ok:Addr->Prop}{H:Hp}:∀{vs:List V}{ts:List Tie},Rps ok H vs (ts.map pD)->Prs H vs ts
 |[],[],_=>.nil
 |_,t::ts,.cons h r=>by
  obtain⟨x,xs,e,hx,rs⟩:=Rp.d7 h
  obtain⟨v1,v2,e2,q1,q2⟩:=Rps.two rs
  subst e e2
  rw[q1.int',q2.int'] at hx
  exact .cons ⟨x,rfl,hx⟩ (Rps.prs r)
def Prs.rps{ok:Addr->Prop}{H:Hp}:∀{vs:List V}{ts:List Tie},Prs H vs ts->Rps ok H vs (ts.map pD)
 |_,_,.nil=>.nil
 |_,_,.cons r t=>by
  obtain⟨x,e,hx⟩:=r
  subst e
  exact .cons (.tup hx (.cons (.int _) (.cons (.int _) .nil))) (Prs.rps t)
def j6{ps:Pos}(hm:X.mg "sorted"=none)(ha:PDA X [a] t)(hg:Gl X "sorted":=by rfl)(he:zS X a []:=by rfl)(hpl:zP X pos []:=by rfl):PD X (.Call (.Name "sorted" ps) [a] [] pos) (tCl Af t) :=
 cM vN (by
  intro p H0 own Hb H vs ks P Q A r t q
  unfold Af at t
  split at t
  ·obtain⟨ts,hd,hl,hn,t⟩:=t
   obtain⟨v,rfl,r'⟩:=dN r
   have fin:∀l ws us,H l=none->Prs H ws us->us.Perm ts->us.Pairwise (λa b=>aV a<=aV b)->Q (.ref l) (upd H l (.lst ws)):=λl ws us hl' pr hp hs=>by
    obtain⟨k2,i2,nw⟩:=A.new hl' (.lst ws)
    exact q _ _ _ _ (t us hp hs) k2 i2 (.lst nw ao (aX A k2 (Prs.rps pr)))
   rcases hd with rfl|rfl
   ·obtain⟨x,xs,e1,o1,h1,rs1⟩:=Rp.cj r'
    subst e1
    exact⟨x,xs,ts,rfl,.inl (SqL.of h1),Rps.prs rs1,hn,.inl hl,fin⟩
   ·obtain⟨x,xs,e1,h1,rs1⟩:=Rp.d7 r'
    subst e1
    exact⟨x,xs,ts,rfl,.inr (SqT.of h1),Rps.prs rs1,hn,.inl hl,fin⟩
  ·exact t.elim) hg hm boot_sorted ha (by decide) (by decide) he hpl
end
variable [Gr]
section
variable {X:Cx}{pins:List (Addr×Obj)}{σ:L2.St}{H:Hp}{s:Shared}{ok:Addr->Prop}
mutual
def Rp.reads(I:Inv X pins σ H s):∀{v:V}{d:D}{u:Value},Rp ok H v d->RelV v u->d.canLay0=true->∃as,Reads s.heap u d as
 |_,_,_,.non,r,_=>by cases r;exact⟨_,.none⟩
 |_,_,_,.bl b,r,_=>by cases r;exact⟨_,.bool b⟩
 |_,_,_,.int i,r,_=>by obtain⟨t,rfl⟩:=r;exact⟨_,.int i t⟩
 |_,_,_,.str x,r,_=>by obtain⟨t,rfl⟩:=r;exact⟨_,.str x t⟩
 |_,_,_,.lst o h rs,r,c=>by
  cases r
  obtain⟨its,rv,pl,_⟩:=I.list (SqL.of h)
  obtain⟨as,ra⟩:=Rps.reads I rs rv (by simpa[PyData.canLay0] using c)
  obtain⟨ob,ho,hc,n,hd⟩:=pl.isList
  exact⟨_,.list ho hc hd (by simpa using ra)⟩
 |_,_,_,.tup h rs,r,c=>by
  cases r
  obtain⟨its,rv,pl,_⟩:=I.tuple (SqT.of h)
  obtain⟨as,ra⟩:=Rps.reads I rs rv (by simpa[PyData.canLay0] using c)
  obtain⟨ob,ho,hc,n,hd⟩:=pl
  exact⟨_,.tuple ho hc hd (by simpa using ra)⟩
 |_,_,_,.dct o h rs,r,c=>by simp[PyData.canLay0] at c
def Rps.reads(I:Inv X pins σ H s):∀{v:List V}{d:List D}{u:List Value},Rps ok H v d->Vals v u->Ī d=true->∃as,ReadsAll s.heap u d as
 |_,_,_,.nil,r,_=>by cases r;exact⟨[],.nil⟩
 |_,_,_,.cons h t,r,c=>by
  cases r with
  |cons a b =>
   simp only[Ī,Î] at c
   obtain⟨as,ra⟩:=Rp.reads I h a c.1
   obtain⟨bs,rb⟩:=Rps.reads I t b c.2
   exact⟨_,.cons ra rb⟩
end
end
def okD(d:D):Bool:=d.canLay0&&decide (d.depth<=60)
section
variable {X:Cx}{pos:Pos}{a b e:Expr}{ta tb te:DE}
def GK(K:Ñ)(neg:Bool):R2:=λx y H Q=>∃ok ok' d e,Rp ok H x d/\Rp ok' H y e/\okD d=true/\okD e=true/\Q (.bl (if neg then !(Ē d e) else Ē d e)) H
def zy(hu:X.A.units+64<cLine):OpR X (compareOp .Eq) (GK X.K false):=by
 intro pins s σ H x y v u Q I rx ry h
 obtain⟨ok,ok',d,e,hd,he,cd,ce,q⟩:=h
 simp only[okD,Î,decide_eq_true_eq] at cd ce
 obtain⟨as,ra⟩:=hd.reads I rx cd.1
 obtain⟨bs,rb⟩:=he.reads I ry ce.1
 exact SeqAt.compareEq_reads ra rb cd.1 ce.1 (by omega) ⟨.bl _,H,I,rfl,q⟩
def zx(hu:X.A.units+64<cLine):OpR X (compareOp .NotEq) (GK X.K true):=by
 intro pins s σ H x y v u Q I rx ry h
 obtain⟨ok,ok',d,e,hd,he,cd,ce,q⟩:=h
 simp only[okD,Î,decide_eq_true_eq] at cd ce
 obtain⟨as,ra⟩:=hd.reads I rx cd.1
 obtain⟨bs,rb⟩:=he.reads I ry ce.1
 exact SeqAt.compareNe_reads ra rb cd.1 ce.1 (by omega) ⟨.bl _,H,I,rfl,q⟩
def Uz(neg:Bool):G2:=λ_ d1 _ d2 P=>okD d1=true/\okD d2=true/\P .imm (.bool (if neg then !(Ē d1 d2) else Ē d1 d2))
def Od{K:Ñ}(neg:Bool):Ok2 (Uz neg) (GK K neg):=by
 intro p H0 own Hb H x y k1 d1 k2 d2 P Q A r1 r2 t q
 exact⟨_,_,d1,d2,r1,r2,t.1,t.2.1,q _ _ _ _ t.2.2 Kp.refl A.pen (.bl _)⟩
def eqP(x:D)(h:Heap)(u:Value):Bool:=by
 classical
 exact decide (∃d as,Reads h u d as/\Ē d x=true)
def Qg(neg:Bool):R2:=λx y H Q=>∃ok ok' d es,Rp ok H x d/\(Rp ok' H y (.list es)\/Rp ok' H y (.tuple es))/\okD d=true/\(es.all okD)=true/\Q (.bl (if neg then !(es.any λe=>Ē e d) else es.any λe=>Ē e d)) H
def JB{x:D}{h:Heap}{u:Value}{d:D}{as:List Addr}(r:Reads h u d as):eqP x h u=Ē d x:=by
 classical
 unfold eqP
 rw[ę,decide_eq_true_eq]
 constructor
 ·rintro⟨d',as',r',e⟩
  rw[(r.unique d' as' r').1]
  exact e
 ·exact λe=>⟨d,as,r,e⟩
def lX{x:D}{h:Heap}:∀{us:List Value}{ds:List D}{as:List Addr},ReadsAll h us ds as->us.any (eqP x h)=ds.any λe=>Ē e x
 |_,_,_,.nil=>rfl
 |_,_,_,.cons a b=>by
  rw[List.any_cons,List.any_cons,JB a,lX b]
def kI{A:Around}{s:Shared}{x:D}{v:Value}{bs:List Addr}(rx:Reads s.heap v x bs)(cx:okD x=true)(hu:A.units+60<cLine):∀{us:List Value}{ds:List D}{as:List Addr},ReadsAll s.heap us ds as->ds.all okD=true->∀u∈us,SeqAt.EqAt A s u v (eqP x s.heap u)
 |_,_,_,.nil,_,u,hu'=>nomatch hu'
 |_,d::ds,_,.cons a b,c,u,hu'=>by
  simp only[ŷ,Î] at c
  rcases â.mp hu' with rfl|hu'
  ·rw[JB a]
   have c1:=c.1
   simp only[okD,Î,decide_eq_true_eq] at c1 cx
   exact SeqAt.eqAt_reads _ _ A s _ _ _ _ a rx c1.1 cx.1 (by omega)
  ·exact kI rx cx hu b c.2 u hu'
def lE{A:Around}(hu:A.units+64<cLine):A.in1.units+60<cLine:=by
 have:A.in1.units<=A.units+1:=by first|exact Ì _|exact Į _|(unfold Around.in1;simp)
 omega
def lC:∀{es:List D},es.all okD=true->Ī es=true
 |[],_=>rfl
 |e::es,h=>by
  simp only[ŷ,Î,okD] at h
  simp only[Ī,Î]
  exact⟨h.1.1,lC h.2⟩
def Hs(hu:X.A.units+64<cLine):OpR X (compareOp .In) (Qg false):=by
 intro pins s σ H x y v u Q I rx ry h
 obtain⟨ok,ok',d,es,hd,hs,cd,ce,q⟩:=h
 have cd':=cd
 simp only[okD,Î,decide_eq_true_eq] at cd'
 obtain⟨bs,rb⟩:=hd.reads I rx cd'.1
 rcases hs with hs|hs
 ·obtain⟨c,vs,rfl,o,hc,rs⟩:=hs.cj
  cases ry
  obtain⟨its,r,pl,hz⟩:=I.list (SqL.of hc)
  obtain⟨as,ra⟩:=rs.reads I r (lC ce)
  refine SeqAt.in_listAt (eqP d s.heap) pl.isList (λw hw=>kI rb cd (lE hu) ra ce w (by simpa using hw)) ⟨.bl _,H,I,rfl,?_⟩
  rw[show its.toArray.any (eqP d s.heap)=its.any (eqP d s.heap) by simp,lX ra]
  exact q
 ·obtain⟨c,vs,rfl,hc,rs⟩:=hs.d7
  cases ry
  obtain⟨its,r,pl,hz⟩:=I.tuple (SqT.of hc)
  obtain⟨as,ra⟩:=rs.reads I r (lC ce)
  refine SeqAt.in_tupleAt (eqP d s.heap) pl (λw hw=>kI rb cd (lE hu) ra ce w (by simpa using hw)) ⟨.bl _,H,I,rfl,?_⟩
  rw[show its.toArray.any (eqP d s.heap)=its.any (eqP d s.heap) by simp,lX ra]
  exact q
def DN(hu:X.A.units+64<cLine):OpR X (compareOp .NotIn) (Qg true):=by
 intro pins s σ H x y v u Q I rx ry h
 obtain⟨ok,ok',d,es,hd,hs,cd,ce,q⟩:=h
 have cd':=cd
 simp only[okD,Î,decide_eq_true_eq] at cd'
 obtain⟨bs,rb⟩:=hd.reads I rx cd'.1
 rcases hs with hs|hs
 ·obtain⟨c,vs,rfl,o,hc,rs⟩:=hs.cj
  cases ry
  obtain⟨its,r,pl,hz⟩:=I.list (SqL.of hc)
  obtain⟨as,ra⟩:=rs.reads I r (lC ce)
  refine SeqAt.notIn_listAt (eqP d s.heap) pl.isList (λw hw=>kI rb cd (lE hu) ra ce w (by simpa using hw)) ⟨.bl _,H,I,rfl,?_⟩
  rw[show its.toArray.any (eqP d s.heap)=its.any (eqP d s.heap) by simp,lX ra]
  exact q
 ·obtain⟨c,vs,rfl,hc,rs⟩:=hs.d7
  cases ry
  obtain⟨its,r,pl,hz⟩:=I.tuple (SqT.of hc)
  obtain⟨as,ra⟩:=rs.reads I r (lC ce)
  refine SeqAt.notIn_tupleAt (eqP d s.heap) pl (λw hw=>kI rb cd (lE hu) ra ce w (by simpa using hw)) ⟨.bl _,H,I,rfl,?_⟩
  rw[show its.toArray.any (eqP d s.heap)=its.any (eqP d s.heap) by simp,lX ra]
  exact q
def gIn(neg:Bool):G2:=λ_ d1 _ d2 P=>match d2 with
 |.list es=>okD d1=true/\es.all okD=true/\P .imm (.bool (if neg then !(es.any λe=>Ē e d1) else es.any λe=>Ē e d1))
 |.tuple es=>okD d1=true/\es.all okD=true/\P .imm (.bool (if neg then !(es.any λe=>Ē e d1) else es.any λe=>Ē e d1))
 |_=>False
def okIn(neg:Bool):Ok2 (gIn neg) (Qg neg):=by
 intro p H0 own Hb H x y k1 d1 k2 d2 P Q A r1 r2 t q
 cases d2 with
 |list es=>exact⟨_,_,d1,es,r1,.inl r2,t.1,t.2.1,q _ _ _ _ t.2.2 Kp.refl A.pen (.bl _)⟩
 |tuple es=>exact⟨_,_,d1,es,r1,.inr r2,t.1,t.2.1,q _ _ _ _ t.2.2 Kp.refl A.pen (.bl _)⟩
 |_=>exact t.elim
def N7(hu:X.A.units+64<cLine)(ha:PD X a ta)(hb:PD X b tb)(hm:behindInMarks .In b=false:=by rfl):PD X (.Compare a [.In] [b] pos) (t2 (gIn false) ta tb):=gH (Hs hu) (okIn false) ha hb hm
def uJ(hu:X.A.units+64<cLine)(ha:PD X a ta)(hb:PD X b tb)(hm:behindInMarks .In b=false:=by rfl):PDT X (.Compare a [.In] [b] pos) (dD (t2 (gIn false) ta tb)):=eU (Hs hu) (okIn false) ha hb hm
def mK(hu:X.A.units+64<cLine)(ha:PD X a ta)(hb:PD X b tb)(hm:behindInMarks .NotIn b=false:=by rfl):PDT X (.Compare a [.NotIn] [b] pos) (dD (t2 (gIn true) ta tb)):=eU (DN hu) (okIn true) ha hb hm
end
variable [Gr]
section
variable {X:Cx}{pos p2:Pos}{a b c e:Expr}{es:List Expr}{ta tb tc te:DE}{t:DA}{st:Stmt}
abbrev DO:=List Sl->(Option Int->Prop)->Prop
def lA(t:DO):TO:=λσ H Q=>∃p H0 own ρ P,EnvD p H0 own σ H ρ/\t ρ P/\∀o H',P o->At p H0 own H H'->Q o H'
def PO.wk{e:Option Expr}{t t':TO}(h:PO X e t)(w:∀σ H Q,t' σ H Q->t σ H Q):PO X e t':=λpins s σ H Q I q=>h pins s σ H Q I (w σ H Q q)
def Oi:DO:=λ_ P=>P none
def Oh(te:DE):DO:=λρ P=>te ρ λ_ d=>match d with
 |.int i=>P (some i)
 |_=>False
def cU:PO X none (lA Oi):=PO.wk KH (by
 rintro σ H Q ⟨p,H0,own,ρ,P,E,t,q⟩
 exact q _ _ t E.at)
def cT(h:PD X e te):PO X (some e) (lA (Oh te)):=PO.wk (KC h) (by
 rintro σ H Q ⟨p,H0,own,ρ,P,E,t,q⟩
 refine⟨p,H0,own,ρ,_,E,t,λk d v H' h A r=>?_⟩
 cases d with
 |int i=>exact⟨i,r.int',q _ _ h A⟩
 |_=>exact h.elim)
def bG{α:Type}(ds:List α)(lo hi:Option Int):List α:=(ds.drop (HT.sIx ds.length 0 lo)).take (HT.sIx ds.length ds.length hi - HT.sIx ds.length 0 lo)
def Rps.cut{ok:Addr->Prop}{H:Hp}{vs:List V}{ds:List D}(r:Rps ok H vs ds)(lo hi:Option Int):Rps ok H (nF vs lo hi) (bG ds lo hi):=by
 unfold nF bG
 rw[r.length]
 exact(r.drop _).take _
def Vl(te:DE)(tl th:DO):DE:=λρ P=>te ρ λk d=>tl ρ λlo=>th ρ λhi=>match d with
 |.list ds=>newP k (bG ds lo hi) λk'=>P k' (.list (bG ds lo hi))
 |_=>False
def yW{lo hi:Option Expr}{tl th:DO}(he:PD X e te)(hl:PO X lo (lA tl))(hh:PO X hi (lA th)):PD X (.Subscript e (.Slice lo hi none p2) pos) (Vl te tl th):=PE.wk (p8 uy he hl hh) (by
 rintro σ H Q ⟨p,H0,own,ρ,P,E,t,q⟩
 refine⟨p,H0,own,ρ,_,E,t,λk d v H1 h A r=>?_⟩
 refine⟨p,H0,own,ρ,_,E.go A.kp A.pen,h,λo1 H2 h2 A2=>?_⟩
 refine⟨p,H0,own,ρ,_,(E.go A.kp A.pen).go A2.kp A2.pen,h2,λo2 H3 h3 A3=>?_⟩
 have A4:=(A.base A2).base A3
 have r3:=fK (A.base A2) A3.kp (fK A A2.kp r)
 cases d with
 |list ds =>
  obtain⟨x,xs,e1,o,h1,rs⟩:=Rp.cj r3
  subst e1
  refine⟨x,xs,rfl,SqL.of h1,λl hl=>?_⟩
  obtain⟨k2,i2,nw⟩:=A4.new hl (.lst (nF xs o1 o2))
  obtain⟨k',hk',rk'⟩:=gJ A4 (aX A4 k2 (rs.cut o1 o2)) nw ao h3
  exact q _ _ _ _ hk' (A4.go k2 i2) rk'
 |_=>exact h3.elim)
def MJ:G2:=λk1 d1 k2 d2 P=>match d1,d2 with
 |.list ds,.list es=>ds.length+es.length<=1000/\newP (k1.join k2) (ds++es) λk=>P k (.list (ds++es))
 |_,_=>False
def HN:Ok2 MJ TQ:=by
 intro p H0 own Hb H x y k1 d1 k2 d2 P Q A r1 r2 t q
 unfold MJ at t
 split at t
 ·obtain⟨c1,xs,e1,o1,h1,rs1⟩:=r1.cj
  obtain⟨c2,ys,e2,o2,h2,rs2⟩:=r2.cj
  subst e1 e2
  have h24:=ì
  refine⟨c1,c2,xs,ys,rfl,rfl,h1,h2,by rw[rs1.length,rs2.length];omega,λl hl=>?_⟩
  obtain⟨k3,i3,nw⟩:=A.new hl (.lst (xs++ys))
  have j:=cQ k1 k2
  have m:∀{k vs ds},k.le (k1.join k2)=true->Rps (okK p H0 own Hb k) H vs ds->Rps (okK p H0 own Hb (k1.join k2)) H vs ds:=λhk z=>z.mono (λa o=>bw A hk o) (λ_ _ _ e=>e) λ_ _ e=>e
  obtain⟨k',hk',rk'⟩:=gJ A (aX A k3 ((m j.1 rs1).app (m j.2 rs2))) nw ao t.2
  exact q _ _ _ _ hk' k3 i3 rk'
 ·exact t.elim
def Hh(ha:PD X a ta)(hb:PD X b tb):PD X (.BinOp a .Add b pos) (t2 MJ ta tb):=qp zA HN ha hb
def Jq:G2:=λk1 d1 k2 d2 P=>match d1,d2 with
 |.tuple ds,.tuple es=>ds.length+es.length<=1000/\P (norm (k1.join k2) (.tuple (ds++es))) (.tuple (ds++es))
 |_,_=>False
def HJ:Ok2 Jq N5:=by
 intro p H0 own Hb H x y k1 d1 k2 d2 P Q A r1 r2 t q
 unfold Jq at t
 split at t
 ·obtain⟨c1,xs,e1,h1,rs1⟩:=r1.d7
  obtain⟨c2,ys,e2,h2,rs2⟩:=r2.d7
  subst e1 e2
  have h24:=ì
  refine⟨c1,c2,xs,ys,rfl,rfl,h1,h2,by rw[rs1.length,rs2.length];omega,λl H' sm hl=>?_⟩
  have K:Kp p H H':=Kp.of sm
  have j:=cQ k1 k2
  have m:∀{k vs ds},k.le (k1.join k2)=true->Rps (okK p H0 own Hb k) H vs ds->Rps (okK p H0 own Hb (k1.join k2)) H vs ds:=λhk z=>z.mono (λa o=>bw A hk o) (λ_ _ _ e=>e) λ_ _ e=>e
  exact q _ _ _ _ t.2 K (p.mono H H' A.pen λb o _ e=>sm b o e) (aM (.tup hl (aX A K ((m j.1 rs1).app (m j.2 rs2)))))
 ·exact t.elim
def S6(ta:DE):DE:=λρ P=>ta ρ λ_ d=>match d with
 |.int i=>P .imm (.int (-i))
 |_=>False
def qt(ha:PD X a ta):PD X (.UnaryOp .USub a pos) (S6 ta):=PE.wk (T4 O1 ha) (by
 rintro σ H Q ⟨p,H0,own,ρ,P,E,t,q⟩
 refine⟨p,H0,own,ρ,_,E,t,λk d v H' h A r=>?_⟩
 cases d with
 |int i=>exact⟨i,r.int',q _ _ _ _ h A (.int _)⟩
 |_=>exact h.elim)
def RN(i:Nat)(te:DE):DS:=λP ρ=>match ρ[i]? with
 |some (.dw r (.list ds))=>te ρ λk d=>match d with
  |.list es=>(k.le .new || cX es)=true/\ds.length+es.length<=1000/\P.nx ((forget r ρ).set i (.dw r (.list (ds++es))))
  |_=>False
 |_=>False
def Cg{te:DE}{ρ:List Sl}{R:Kd->D->Prop}(t:te ρ R):iZ te vU ρ (λks=>∃k d,ks=[(k,d)]/\R k d):=by
 show te ρ λk d=>∃k' d',[((k,d):Kd×D)]=[(k',d')]/\R k' d'
 have e:(λk d=>∃k' d',[((k,d):Kd×D)]=[(k',d')]/\R k' d')=R:=by
  funext k d
  apply propext
  constructor
  ·rintro⟨k',d',e,h⟩
   cases e
   exact h
  ·exact λh=>⟨k,d,rfl,h⟩
 rw[e]
 exact t
def wD{ok ok':Addr->Prop}{H H2:Hp}(f:∀{w:V}{d:D},Rp ok H w d->Rp ok' H2 w d):∀{vs:List V}{ds:List D},Rps ok H vs ds->Rps ok' H2 vs ds
 |_,_,.nil=>.nil
 |_,_,.cons h t=>.cons (f h) (wD f t)
end
variable [Gr]
structure Cal(P:Program)(w:World)(K:Ñ)(mg:Str->Option Value)(base:Heap)(k:Nat)(x:Str)(ps:List Str)(sp:Sp):Prop where
 ex:∃f fd,FnOk P w K mg base CX0 k f fd ps sp/\Binds K fd ps []/\W.keepIn K (.ref f)=true/\mg x=some (.ref f)
section
variable {X:Cx}{k j:Nat}{x:Str}{ps:List Str}{e:Expr}{es:List Expr}{t:DA}{p pos pq:Pos}
def pcS{sp:Sp}{ta:TA}(C:Cal X.prog X.w X.K X.mg X.base k x ps sp)(hr:Room j X.A)(ha:PA X (e::es) ta)(hk:k<=j)(hg:Gl X x)(hdb:zB x)(he:zS X e es)(hpl:zP X pos es) :
  PE X (.Call (.Name x p) (e::es) [] pos) (rZ sp [] E0 ta):=by
 obtain⟨f,fd,F,b,kp,m⟩:=C.ex
 exact BL F (hr.mono hk) hg m kp b .nil T8 ha hdb he hpl
def dc{f:List D->(D->Prop)->Prop}(C:Cal X.prog X.w X.K X.mg X.base k x ps (spD f))(hr:Room j X.A)(ha:PDA X (e::es) t)(hk:k<=j:=by decide)(hg:Gl X x:=by rfl)(hdb:zB x:=by decide)(he:zS X e es:=by rfl)(hpl:zP X pos es:=by rfl) :
  PD X (.Call (.Name x p) (e::es) [] pos) (tFn f t):=PE.wk (pcS C hr ha hk hg hdb he hpl) LR
def dv(i:Nat){x:Str}{pos:Pos}(hN:X.N[i]?=some x:=by rfl)(hv:Vis X.env.scope x:=by first|exact Ń rfl|exact Or.inr (Ń rfl)|exact Or.inr (Or.inr rfl))(hd:zB x:=by decide)(hcd:(x == ("__classdict__":Str))=false:=by decide):PD X (.Name x pos) (tV i):=Qw (pv i hN hv hd hcd)
end
structure Bn(mg:Str->Option Value):Prop where
 isinstance:mg "isinstance"=none
 int:mg "int"=none
 bool:mg "bool"=none
 tuple:mg "tuple"=none
 list:mg "list"=none
 len:mg "len"=none
 all:mg "all"=none
 min:mg "min"=none
 max:mg "max"=none
 sorted:mg "sorted"=none
 range:mg "range"=none
 abs:mg "abs"=none
def boot_all:bootBuiltins "all"=some (.builtin "all"):=by decide +kernel
def Ge{i:Nat}{ρ:List Sl}{d:D}{P:DK}(h:ρ[i]?=some (aB d))(q:∀k,P k d):tV i ρ P:=by
 unfold tV
 rw[h]
 unfold aB
 by_cases hi:bU d=true
 ·rw[if_pos hi];exact q _
 ·rw[if_neg hi];exact q _
def Mg{f:List D->(D->Prop)->Prop}{n:Nat}(hn:∀ds P,f ds P->ds.length=n:=by intro _ _ h;repeat (first|(obtain⟨rfl,_⟩:=h;rfl)|obtain⟨_,h⟩:=h)):∀vs H Q E,spD f vs H Q E->vs.length=n:=λvs H Q E h=>by
 obtain⟨ds,P,r,t,_⟩:=h
 rw[r.length]
 exact hn ds P t
def aR{f:List D->(D->Prop)->Prop}{T:DS}{N:List Str}{vs:List V}{H:Hp}{Q:VK}{E:XK}(h:spD f vs H Q E)(body:∀ds P,f ds P->∃ρ,ds.map aB++Ë (N.length - ds.length) .any=ρ/\T { nx:=λ_=>P .none,rt:=P } ρ)(g:Gr.G eF H:=by trivial):nU T { nx:=λ_ H'=>Q .non H',rt:=Q } (L2.start N vs) H :=
 vH h (λds P t=>by
  obtain⟨ρ,e,q⟩:=body ds P t
  rw[e]
  exact q) g
def au(n:Int)(us:List Tie):D:=.tuple [.int n,.tuple (us.map pD)]
def jo(n:Int)(us:List Tie):bU (au n us)=true:=by
 show(bU (.int n)&&(cX (us.map pD)&&true))=true
 rw[mX]
 rfl
def Nv(n:Int)(us:List Tie):aB (au n us)=.im (au n us):=if_pos (jo n us)
def isW:D->Bool
 |.int _=>true
 |_=>false
def jK(ds:List D)(P:D->Prop):Prop:=∃d,ds=[d]/\P (.bool (isW d))
def aJ(m:Int):D->Bool
 |.int i=>decide (0<=i/\i<m)
 |_=>false
def Ag(ds:List D)(P:D->Prop):Prop:=∃m d,ds=[.int m,d]/\P (.bool (aJ m d))
variable [Gr]
def M4{α β:Type}{ds:List α}{i:Nat}{d:α}(p:α->Bool)(f:α->β)(h:ds[i]?=some d):((ds.take (i+1)).filter p).map f=((ds.take i).filter p).map f++(if p d=true then [f d] else []):=by
 rw[Ğ,h,ź,ó]
 congr 1
 by_cases hp:p d=true
 ·simp[hp]
 ·simp[hp]
def u6{α β:Type}{ds:List α}{i:Nat}{d:α}(f:α->β)(h:ds[i]?=some d):(ds.take (i+1)).map f=(ds.take i).map f++[f d]:=by
 rw[Ğ,h,ó]
 rfl
def kJ{α β:Type}{l:List α}{g:α->β}{i:Nat}{d:β}(h:(l.map g)[i]?=some d):∃x,l[i]?=some x/\g x=d:=by
 rw[à] at h
 cases e:l[i]? with
 |none=>rw[e] at h;cases h
 |some x=>rw[e] at h;exact⟨x,rfl,Ý h⟩
def take_all{α:Type}(l:List α){n:Nat}(h:l.length<=n):l.take n=l:=Ł h
def o8:∀l:List Int,(l.map Í).all okD=true
 |[]=>rfl
 |x::l=>by
  rw[û,ŷ,o8 l]
  rfl
def any_ints(x:Int):∀l:List Int,((l.map Í).any λe=>Ē e (.int x))=decide (x∈l)
 |[]=>rfl
 |y::l=>by
  rw[û,List.any_cons,any_ints x l]
  have e:Ē (.int y) (.int x)=(y == x):=rfl
  rw[e,ę,Bool.or_eq_true,beq_iff_eq,decide_eq_true_eq,decide_eq_true_eq,â]
  constructor
  ·rintro(h|h)
   ·exact .inl h.symm
   ·exact .inr h
  ·rintro(h|h)
   ·exact .inl h.symm
   ·exact .inr h
def bW(lo:Int)(n:Nat):(cR lo n).length=n:=by unfold cR;simp
def dY{lo:Int}{n i:Nat}{d:D}(h:(cR lo n)[i]?=some d):i<n/\d=.int (lo+((i:Nat):Int)):=by
 unfold cR at h
 obtain⟨x,hx,e⟩:=kJ h
 obtain⟨h1,h2⟩:=Þ.mp hx
 have h3:i<n:=by simpa using h1
 have h4:x=i:=by simpa using h2.symm
 subst h4
 exact⟨h3,e.symm⟩
variable [Gr]
section
variable {X:Cx}{pos p2:Pos}{a b e:Expr}{ta tb te:DE}
def Rps.rep{ok:Addr->Prop}{H:Hp}{vs:List V}{ds:List D}(r:Rps ok H vs ds):∀k:Nat,Rps ok H (Ë k vs).flatten (Ë k ds).flatten
 |0=>.nil
 |k+1=>by
  rw[ľ,ľ,Š,Š]
  exact r.app (Rps.rep r k)
def Rq:G2:=λk1 d1 _ d2 P=>match d1,d2 with
 |.list ds,.int k=>0<=k/\k<1000/\ds.length * k.toNat<=1000/\newP k1 (Ë k.toNat ds).flatten λk'=>P k' (.list (Ë k.toNat ds).flatten)
 |_,_=>False
def Ob:Ok2 Rq Tw:=by
 intro p H0 own Hb H x y k1 d1 k2 d2 P Q A r1 r2 t q
 unfold Rq at t
 split at t
 ·rename_i ds k
  obtain⟨c1,xs,e1,o1,h1,rs1⟩:=r1.cj
  subst e1
  have h24:=ì
  refine⟨c1,k,xs,rfl,r2.int',h1,by omega,by omega,by rw[rs1.length];omega,λl hl=>?_⟩
  obtain⟨k3,i3,nw⟩:=A.new hl (.lst (Ë k.toNat xs).flatten)
  obtain⟨k',hk',rk'⟩:=gJ A (aX A k3 (rs1.rep k.toNat)) nw ao t.2.2.2
  exact q _ _ _ _ hk' k3 i3 rk'
 ·exact t.elim
end
def Bx(ns:List Int):∀k,k<=ns.length->PySem.preSum (λi=>ns.getD i 0) k=(ns.take k).sum
 |0,_=>rfl
 |k+1,h=>by
  show PySem.preSum _ k+ns.getD k 0=_
  have hk:k<ns.length:=by omega
  have e:ns.take (k+1)=ns.take k++[ns[k]]:=by rw[Ğ,È hk];rfl
  have e2:ns.getD k 0=ns[k]:=by rw[ò,È hk];rfl
  rw[Bx ns k (by omega),e,e2,List.sum_append,Ŷ,List.sum_nil,Int.add_zero]
section
variable {X:Cx}{pos:Pos}{a:Expr}{t:DA}
variable [Gr]
def boot_sum:bootBuiltins "sum"=some (.builtin "sum"):=by decide +kernel
end
variable [Gr]
section
variable {X:Cx}{pos:Pos}{a b e:Expr}{ta tb te:DE}
def qw{x:Str}{i:Int}{u:Value}{ps:Pos}(hg:Gl X x)(hm:X.mg x=some u)(r:RelV (.int i) u)(hd:zB x:=by decide):PD X (.Name x ps) (tK (.int i)):=iB (cL hg hm r hd) λ_=>.int i
def S8(te:DE):DE:=λρ P=>te ρ λ_ d=>P .imm (.bool (tyD d == "list" || tyD d == "tuple"))
def Rh{K:Ñ}(d:D):W.kitAny K (.type (tyD d)) [.type "list",.type "tuple"]=some (tyD d == "list" || tyD d == "tuple"):=by
 cases d <;> rfl
def uO{x y:Str}{ps pt pt' pp:Pos}{kk:Nat}(hm:X.mg "isinstance"=none)(he:PD X e te)(hT:PE X (.Name x pt) (tC (.ty "list")))(hT':PE X (.Name y pt') (tC (.ty "tuple")))(hg:Gl X "isinstance":=by rfl)(h1:starEach [e,.Tuple [.Name x pt,.Name y pt'] kk pp] X.env=(false,eval e X.env)::starEach [.Tuple [.Name x pt,.Name y pt'] kk pp] X.env:=by rfl)(h2:starEach [.Tuple [.Name x pt,.Name y pt'] kk pp] X.env=(false,eval (.Tuple [.Name x pt,.Name y pt'] kk pp) X.env)::starEach [] X.env:=by rfl)(h3:starEach [.Name x pt,.Name y pt'] X.env=(false,eval (.Name x pt) X.env)::starEach [.Name y pt'] X.env:=by rfl)(h4:starEach [.Name y pt'] X.env=(false,eval (.Name y pt') X.env)::starEach [] X.env:=by rfl)(hpl:(backTo pos (starEach [.Tuple [.Name x pt,.Name y pt'] kk pp] X.env)).any (·.1)=false:=by rfl) :
  PD X (.Call (.Name "isinstance" ps) [e,.Tuple [.Name x pt,.Name y pt'] kk pp] [] pos) (S8 te):=PE.wk (dG vP hg hm boot_isinstance (bN he (bN (yR (bN hT (bN hT' jH h4) h3)) jH h2) h1) (by decide) (by decide) h1 hpl) (by
 rintro σ H Q ⟨p,H0,own,ρ,P,E,t,q⟩
 refine⟨p,H0,own,ρ,_,E,t,λk d v H' h A r=>?_⟩
 refine⟨by show 2<=sizeLine;decide,λl hl=>?_⟩
 obtain⟨k2,i2,nw⟩:=A.new hl (.tup [.ty "list",.ty "tuple"])
 have r2:=fK A k2 r
 have fin:TyOf X.K (upd H' l (.tup [.ty "list",.ty "tuple"])) v (.type (tyD d))->∃x p c1 c2 t b,[v,V.ref l]=[x,.ref p]/\TyOf X.K (upd H' l (.tup [.ty "list",.ty "tuple"])) x t/\SqT X.K (upd H' l (.tup [.ty "list",.ty "tuple"])) p [.ty c1,.ty c2]/\W.kitAny X.K t [.type c1,.type c2]=some b/\Q (.bl b) (upd H' l (.tup [.ty "list",.ty "tuple"])):=λty =>
  ⟨v,l,"list","tuple",_,_,rfl,ty,SqT.of ao,Rh d,q _ _ _ _ h (A.go k2 i2) (.bl _)⟩
 show ∃x p c1 c2 t b,_/\_
 cases r2 with
 |non=>exact fin .non
 |bl b=>exact fin (.bl b)
 |int i=>exact fin (.int i)
 |str x=>exact fin (.str x)
 |lst o hh rr=>exact fin (.lst hh)
 |tup hh rr=>exact fin (.tup hh)
 |dct o hh rr=>exact fin (.dK hh))
end
variable [Gr]
section
variable {X:Cx}{pos:Pos}{a b e:Expr}{ta tb te:DE}
def QX:D->Bool
 |.none=>true
 |_=>false
def Jp:G2:=λ_ d1 _ d2 P=>match d2 with
 |.none=>P .imm (.bool (QX d1))
 |_=>False
def Kw{ok:Addr->Prop}{H:Hp}{v:V}{d:D}(r:Rp ok H v d):decide (v=.non)=QX d:=by
 cases r <;> simp[QX]
def Oc:Ok2 Jp (λx y H Q=>y=.non/\Q (.bl (decide (x=.non))) H):=by
 intro p H0 own Hb H x y k1 d1 k2 d2 P Q A r1 r2 t q
 unfold Jp at t
 split at t
 ·cases r2
  rw[Kw r1]
  exact⟨rfl,q _ _ _ _ t Kp.refl A.pen (.bl _)⟩
 ·exact t.elim
def Qy(ha:PD X a ta)(hb:PD X b tb):PD X (.Compare a [.Is] [b] pos) (t2 Jp ta tb):=gH Hr Oc ha hb (bx _)
def uI(ha:PD X a ta)(hb:PD X b tb):PDT X (.Compare a [.Is] [b] pos) (dD (t2 Jp ta tb)):=eU Hr Oc ha hb (bx _)
end
variable [Gr]
section
variable {X:Cx}{pos:Pos}{st:Stmt}
end
@[reducible] def grX(H:Hp):Gr:=⟨λp H0=>p=eF/\H0=H⟩
abbrev FX:=List D->(D->Prop)->(Value->Prop)->Prop
def spX(f:FX):Sp:=λvs H Q E=>∃ds P R,Rps (λ_=>True) H vs ds/\f ds P R/\(∀d v H',P d->Same H H'->Rp (λa=>H a=none) H' v d->Q v H')/\∀c H',R c->Same H H'->E c none H'
def Rz(E:XK)(H:Hp):Value->Prop:=λc=>∀H',Same H H'->E c none H'
structure Cal1(P:Program)(w:World)(K:Ñ)(mg:Str->Option Value)(base:Heap)(k:Nat)(x:Str)(ps:List Str)(sp:Sp):Prop where
 ex:∃f fd,FnOk P w K mg base (CX1 P w) k f fd ps sp/\Binds K fd ps []/\W.keepIn K (.ref f)=true/\mg x=some (.ref f)
def Mf{f:FX}{n:Nat}(hn:∀ds P R,f ds P R->ds.length=n:=by intro _ _ _ h;repeat (first|(obtain⟨rfl,_⟩:=h;rfl)|obtain⟨_,h⟩:=h)):∀vs H Q E,spX f vs H Q E->vs.length=n:=λvs H Q E h=>by
 obtain⟨ds,P,R,r,t,_⟩:=h
 rw[r.length]
 exact hn ds P R t
def EF:XK:=λ_ _ _=>False
def T7{X:Cx}:Passes (CX1 X.prog X.w) X EF:=λpins σ H s e s' I h=>by
 obtain⟨_,_,_,_,_,_,_,_,_,_,_,_,_,z⟩:=h
 exact z.elim
section
variable {X:Cx}{E:XK}{k j:Nat}{x:Str}{ps:List Str}{e:Expr}{es:List Expr}{p pos:Pos}
def pcX{sp:Sp}{ta:TA}(C:Cal1 X.prog X.w X.K X.mg X.base k x ps sp)(hr:Room j X.A)(hx:Passes (CX1 X.prog X.w) X E)(ha:PA X (e::es) ta)(hk:k<=j)(hg:Gl X x)(hdb:zB x)(he:zS X e es)(hpl:zP X pos es) :
  PE X (.Call (.Name x p) (e::es) [] pos) (rZ sp [] E ta):=by
 obtain⟨f,fd,F,b,kp,m⟩:=C.ex
 exact BL F (hr.mono hk) hg m kp b .nil hx ha hdb he hpl
def Pg(f:FX)(R:Value->Prop)(t:DA):DE:=λρ P=>t ρ λks=>f (ks.map (·.2)) (λd=>P (norm .new d) d) R
def Io[Gr]{f:FX}{t:DA}:∀σ H Q,cI (Pg f (λ_=>False) t) σ H Q->rZ (spX f) [] EF (sV t) σ H Q:=by
 rintro σ H Q ⟨p,H0,own,ρ,P,En,t,q⟩
 refine⟨p,H0,own,ρ,_,En,t,λks vs H1 h A r=>?_⟩
 show spX f (vs++[]) H1 Q EF
 rw[í]
 refine⟨ks.map (·.2),_,_,(RpK.rps A r).mono (λ_ _=>trivial) (λ_ _ _ e=>e) λ_ _ e=>e,h,λd v H' h2 s r2=>?_,λc H' hc s=>hc⟩
 have k2:Kp p H1 H':=Kp.of s
 refine q _ d v H' h2 (A.go k2 (p.mono H1 H' A.pen λb o _ e=>s b o e)) (aM ?_)
 exact r2.mono (λa o=>A.free o) (λ_ _ _ e=>e) λ_ _ e=>e
def dcF[Gr]{f:FX}{t:DA}(C:Cal1 X.prog X.w X.K X.mg X.base k x ps (spX f))(hr:Room j X.A)(ha:PDA X (e::es) t)(hk:k<=j:=by decide)(hg:Gl X x:=by rfl)(hdb:zB x:=by decide)(he:zS X e es:=by rfl)(hpl:zP X pos es:=by rfl) :
  PD X (.Call (.Name x p) (e::es) [] pos) (Pg f (λ_=>False) t):=PE.wk (pcX C hr T7 ha hk hg hdb he hpl) Io
def JM(R:Value->Prop)(C:Addr)(t:DA):DS:=λ_ ρ=>t ρ λks=>ks.length<=1000/\R (.ref C)
def qY{Hb:Hp}{t:DA}{C:Addr}{newId Bn initId:String}{bmB:List Value}{np cpos:Pos}(L:Lets X E)(hc:X.calm=true)(hg:Gl X x)(hm:X.mg x=some (.ref C))(hx:ExcCls X.K C newId bmB)(B:ExcBaseFacts Bn newId initId bmB)(ha:@PDA (grX Hb) X (e::es) t)(hdb:zB x:=by decide)(he:zS X e es:=by rfl)(hpl:(backTo cpos (starEach (e::es) X.env)).any (·.1)=false:=by rfl)(hcons:backTo cpos (starEach (e::es) X.env)=(false,eval e X.env)::backTo cpos (starEach es X.env):=by rfl) :
  @PDS (grX Hb) X (.Raise (some (.Call (.Name x np) (e::es) [] cpos)) none pos) (JM (Rz E Hb) C t):=PS.wk' (GR L hc hg hm hx B ha hdb he hpl hcons) (by
 letI:=grX Hb
 rintro Q σ H ⟨p,H0,own,ρ,P,En,t,w⟩
 obtain⟨rfl,rfl⟩:=En.gr
 refine⟨eF,H0,own,ρ,_,En,t,λks vs H1 h A r=>?_⟩
 have h24:=ì
 have hl:vs.length=ks.length:=by
  have:=RpK.rps A r
  rw[this.length,Ã]
 exact⟨by have:=h.1;omega,h.2 H1 λb o e=>A.kp b o (A.k0 b o e λz=>z) λz=>z⟩)
end
def enterX{f:FX}{T:DS}{N:List Str}{vs:List V}{H:Hp}{Q:VK}{E:XK}(h:spX f vs H Q E)(body:∀ds P,f ds P (Rz E H)->∃ρ,ds.map aB++Ë (N.length - ds.length) .any=ρ/\T { nx:=λ_=>P .none,rt:=P } ρ)(mono:∀ds P R R',(∀c,R c->R' c)->f ds P R->f ds P R'):@nU (grX H) T { nx:=λ_ H'=>Q .non H',rt:=Q } (L2.start N vs) H:=by
 letI:=grX H
 obtain⟨ds,P,R,r,t,q,qE⟩:=h
 have h:spD (λds' P'=>ds'=ds/\P'=P) vs H Q E:=⟨ds,P,r,⟨rfl,rfl⟩,q⟩
 refine aR h (λds' P' ⟨e1,e2⟩=>?_) ⟨rfl,rfl⟩
 subst e1 e2
 exact body _ _ (mono _ _ R _ (λc hc H' s=>qE c H' hc s) t)
variable [Gr]
def boot_repr:bootBuiltins "repr"=some (.builtin "repr"):=by decide +kernel
section
variable {X:Cx}{pos:Pos}{a b e:Expr}{ta tb te:DE}{t:DA}
end
end Dl
namespace L2
open PySem PyProof.Rows
def once(ns:List Int):List Int:=ns.foldl step_dedup []
section
variable {X:Cx}
end
end L2
namespace Dl
open PySem L2 PyProof.Rows
variable [Gr]
section
variable {X:Cx}{pos pos':Pos}{a:Expr}{t:DA}
end
variable [Gr]
section
variable {X:Cx}{pos p2:Pos}{a b c e:Expr}{es:List Expr}{ta tb tc te:DE}{t:DA}{st:Stmt}
def OpR.or{f:Value->Value->Sem Value}{r r':R2}(h:OpR X f r)(h':OpR X f r'):OpR X f (λx y H Q=>r x y H Q\/r' x y H Q):=by
 intro pins s σ H x y v u Q I rx ry q
 rcases q with q|q
 ·exact h pins s σ H x y v u Q I rx ry q
 ·exact h' pins s σ H x y v u Q I rx ry q
def bC.or{f:Value}{r r':List V->Hp->VK->Prop}(h:bC X f r)(h':bC X f r'):bC X f (λx H Q=>r x H Q\/r' x H Q):=by
 intro pins s σ H x v Q I rx q
 rcases q with q|q
 ·exact h pins s σ H x v Q I rx q
 ·exact h' pins s σ H x v Q I rx q
def Hg(ha:PD X a ta)(hb:PD X b tb)(hs:lY b:=by exact λ_ _=>rfl):PD X (.Subscript a b pos) (t2 gIx ta tb):=PE.wk (eN (IxR.or bZ zX) ha hb hs) (lB (by
 intro p H0 own Hb H x y k1 d1 k2 d2 P Q A r1 r2 t q
 unfold gIx at t
 split at t
 ·rename_i ds i
  obtain⟨d,hd,t⟩:=t
  obtain⟨c,vs,rfl,o,hc,rs⟩:=r1.cj
  obtain⟨v,hv,rv⟩:=rs.atI hd
  exact .inl ⟨c,vs,i,v,rfl,r2.int',SqL.of hc,hv,q _ _ _ _ t Kp.refl A.pen (aM rv)⟩
 ·rename_i ds i
  obtain⟨d,hd,t⟩:=t
  obtain⟨c,vs,rfl,hc,rs⟩:=r1.d7
  obtain⟨v,hv,rv⟩:=rs.atI hd
  exact .inr ⟨c,vs,i,v,rfl,r2.int',SqT.of hc,hv,q _ _ _ _ t Kp.refl A.pen (aM rv)⟩
 ·exact t.elim))
def Jo:G2:=λk1 d1 k2 d2 P=>match d1 with
 |.int i=>(match d2 with
  |.int j=>P .imm (.int (i+j))
  |_=>False)
 |.list ds=>MJ k1 (.list ds) k2 d2 P
 |.tuple ds=>Jq k1 (.tuple ds) k2 d2 P
 |_=>False
def uN(ha:PD X a ta)(hb:PD X b tb):PD X (.BinOp a .Add b pos) (t2 Jo ta tb):=qp (OpR.or dJ (OpR.or zA Ce)) (by
 intro p H0 own Hb H x y k1 d1 k2 d2 P Q A r1 r2 t q
 cases d1 with
 |int i =>
  cases d2 with
  |int j=>exact .inl ⟨i,j,r1.int',r2.int',q _ _ _ _ t Kp.refl A.pen (.int _)⟩
  |_=>exact t.elim
 |list ds=>exact .inr (.inl (HN p H0 own Hb H x y k1 _ k2 d2 P Q A r1 r2 t q))
 |tuple ds=>exact .inr (.inr (HJ p H0 own Hb H x y k1 _ k2 d2 P Q A r1 r2 t q))
 |_=>exact t.elim) ha hb
def Ae:G2:=λk1 d1 k2 d2 P=>match d1 with
 |.int i=>(match d2 with
  |.int j=>Nz i j/\P .imm (.int (i * j))
  |_=>False)
 |.list ds=>Rq k1 (.list ds) k2 d2 P
 |_=>False
def qj(ha:PD X a ta)(hb:PD X b tb):PD X (.BinOp a .Mult b pos) (t2 Ae ta tb):=qp (OpR.or cN Hl) (by
 intro p H0 own Hb H x y k1 d1 k2 d2 P Q A r1 r2 t q
 cases d1 with
 |int i =>
  cases d2 with
  |int j=>exact .inl ⟨i,j,r1.int',r2.int',t.1,q _ _ _ _ t.2 Kp.refl A.pen (.int _)⟩
  |_=>exact t.elim
 |list ds=>exact .inr (Ob p H0 own Hb H x y k1 _ k2 d2 P Q A r1 r2 t q)
 |_=>exact t.elim) ha hb
def iR(neg:Bool):G2:=λk1 d1 k2 d2 P=>match scD d1 d2 with
 |some b=>P .imm (.bool (if neg then !b else b))
 |none=>Uz neg k1 d1 k2 d2 P
def HD{K:Ñ}:Ok2 (iR false) (λx y H Q=>rEq x y H Q\/GK K false x y H Q):=by
 intro p H0 own Hb H x y k1 d1 k2 d2 P Q A r1 r2 t q
 cases e:scD d1 d2 with
 |some b =>
  have t':gEq false k1 d1 k2 d2 P:=by
   unfold iR at t
   unfold gEq
   rw[e] at t ⊢
   exact t
  exact .inl (VN p H0 own Hb H x y k1 d1 k2 d2 P Q A r1 r2 t' q)
 |none =>
  unfold iR at t
  rw[e] at t
  exact .inr (Od false p H0 own Hb H x y k1 d1 k2 d2 P Q A r1 r2 t q)
def Hy{K:Ñ}:Ok2 (iR true) (λx y H Q=>rNe x y H Q\/GK K true x y H Q):=by
 intro p H0 own Hb H x y k1 d1 k2 d2 P Q A r1 r2 t q
 cases e:scD d1 d2 with
 |some b =>
  have t':gEq true k1 d1 k2 d2 P:=by
   unfold iR at t
   unfold gEq
   rw[e] at t ⊢
   exact t
  exact .inl (Ue p H0 own Hb H x y k1 d1 k2 d2 P Q A r1 r2 t' q)
 |none =>
  unfold iR at t
  rw[e] at t
  exact .inr (Od true p H0 own Hb H x y k1 d1 k2 d2 P Q A r1 r2 t q)
def zq(hu:X.A.units+64<cLine)(ha:PD X a ta)(hb:PD X b tb):PD X (.Compare a [.Eq] [b] pos) (t2 (iR false) ta tb):=gH (OpR.or wO (zy hu)) HD ha hb (bx _)
def yZ(hu:X.A.units+64<cLine)(ha:PD X a ta)(hb:PD X b tb):PD X (.Compare a [.NotEq] [b] pos) (t2 (iR true) ta tb):=gH (OpR.or Ca (zx hu)) Hy ha hb (bx _)
def uK(hu:X.A.units+64<cLine)(ha:PD X a ta)(hb:PD X b tb):PDT X (.Compare a [.Eq] [b] pos) (dD (t2 (iR false) ta tb)):=eU (OpR.or wO (zy hu)) HD ha hb (bx _)
def uG(hu:X.A.units+64<cLine)(ha:PD X a ta)(hb:PD X b tb):PDT X (.Compare a [.NotEq] [b] pos) (dD (t2 (iR true) ta tb)):=eU (OpR.or Ca (zx hu)) Hy ha hb (bx _)
end
section
variable {n:Nat}{g:DG}{tt:DT}{te:DE}{ρ:List Sl}{k:Kd}{ds:List D}{R:Kd->List D->Prop}
def Lx{α β:Type}(f:α->β){l:List α}{i:Nat}{x:α}(h:l[i]?=some x):(l.take (i+1)).map f=(l.take i).map f++[f x]:=by
 rw[Ğ,h]
 simp
def vf{α:Type}(xs:List α)(e f:α->D)(ke:Kd)(hd:ds=xs.map e)(hl:xs.length<=1000)(step:∀x∈xs,∀(A:D->Prop) (B:Prop),A (f x)->g (norm (elC k) (e x)) (e x) (Ë n .any++ρ) λρ'=>if true=true then te ρ' λk' d'=>(norm k' d').le ke=true/\A d' else B)(q:R ke (xs.map f)) :
  ds.length<=1000/\∃(ke:Kd) (Iv:Nat->List D->Prop),Iv 0 [] /\
   (∀i d ys,ds[i]?=some d->Iv i ys->g (norm (elC k) d) d (Ë n .any++ρ) λρ'=>if true=true then te ρ' λk' d'=>(norm k' d').le ke=true/\Iv (i+1) (ys++[d']) else Iv (i+1) ys) /\
   ∀ys,Iv ds.length ys->R ke ys:=by
 subst hd
 refine⟨by rw[Ã];exact hl,ke,λi ys=>ys=(xs.take i).map f,rfl,?_,?_⟩
 ·rintro i d ys hd rfl
  rw[à] at hd
  cases hx:xs[i]? with
  |none=>rw[hx] at hd;cases hd
  |some x =>
   rw[hx] at hd
   have hd:=Ý hd
   subst hd
   exact step x (Ó hx) (λd'=>(xs.take i).map f++[d']=(xs.take (i+1)).map f) _ (Lx f hx).symm
 ·rintro ys rfl
  rw[Ã,Ĩ]
  exact q
def sX{α:Type}(xs:List α)(e:α->D)(p:α->Bool)(f:α->D)(ke:Kd)(hd:ds=xs.map e)(hl:xs.length<=1000)(step:∀x∈xs,∀(A:D->Prop) (B:Prop),(p x=true->A (f x))->(p x=false->B)->g (norm (elC k) (e x)) (e x) (Ë n .any++ρ) λρ'=>tt ρ' λb=>if b=true then te ρ' λk' d'=>(norm k' d').le ke=true/\A d' else B)(q:R ke ((xs.filter p).map f)) :
  ds.length<=1000/\∃(ke:Kd) (Iv:Nat->List D->Prop),Iv 0 [] /\
   (∀i d ys,ds[i]?=some d->Iv i ys->g (norm (elC k) d) d (Ë n .any++ρ) λρ'=>tt ρ' λb=>if b=true then te ρ' λk' d'=>(norm k' d').le ke=true/\Iv (i+1) (ys++[d']) else Iv (i+1) ys) /\
   ∀ys,Iv ds.length ys->R ke ys:=by
 subst hd
 refine⟨by rw[Ã];exact hl,ke,λi ys=>ys=((xs.take i).filter p).map f,rfl,?_,?_⟩
 ·rintro i d ys hd rfl
  rw[à] at hd
  cases hx:xs[i]? with
  |none=>rw[hx] at hd;cases hd
  |some x =>
   rw[hx] at hd
   have hd:=Ý hd
   subst hd
   have sn:((xs.take (i+1)).filter p).map f=((xs.take i).filter p).map f++if p x=true then [f x] else []:=by
    rw[Ğ,hx,ź,ó]
    cases hp:p x <;> simp[hp]
   refine step x (Ó hx) (λd'=>((xs.take i).filter p).map f++[d']=((xs.take (i+1)).filter p).map f) _ (λh=>?_) (λh=>?_)
   ·rw[sn,if_pos h]
   ·show _=_
    rw[sn,h,if_neg É,í]
 ·rintro ys rfl
  rw[Ã,Ĩ]
  exact q
end
section
variable {g:DG}{tb:DS}{k:Kd}{ds:List D}{ρ:List Sl}{P:DEnds}
end
variable [Gr]
section
variable {X:Cx}{scope:Scope}{tg iter elt:Expr}{ifs:List Expr}{pos:Pos}{ti:DI}{g:DG}{tt:DT}{te:DE}
def Qk(own:List Str){i:Nat}{y:Str}{py spos:Pos}(hc:X.calm=true)(hN:X.N.Nodup)(hiN:X.N[i]?=some y)(hx:Loc X.env.scope y)(hi:PDI X tg iter ti)(hg:∀c,PDG (X.comp own scope c) tg g)(ht:∀c,FJ (X.comp own scope c) ifs tt)(he:∀c,PD (X.comp own scope c) elt te)(hsw:swapsWith (.ListComp elt [⟨tg,iter,ifs,0⟩] scope pos) (some (.Name y py)) spos.line X.env=pure true:=by rfl)(hk:dh X.env scope X.N=true:=by rfl)(hs:zF X iter:=by intro _;rfl)(hf:zL X y:=by first|exact .inl rfl|exact .inr rfl|assumption) :
  PS X (.Assign [.Name y py] (.ListComp elt [⟨tg,iter,ifs,0⟩] scope pos) spos) (rG (cI (dLC own.length ti g tt te)) (iQ i)):=PS.wk' (TV own hc hN hiN hx hi hg ht he hsw hk hs hf) λD σ H q=>kZ σ H _ q
end
section
variable {n:Nat}{g:DG}{tt:DT}{te:DE}{ρ:List Sl}{k:Kd}{ds:List D}{R:Kd->List D->Prop}
end
variable [Gr]
section
variable {X:Cx}{pos:Pos}{st:Stmt}{rest:List Stmt}{te tj:DE}{ti:DI}{t:DS}
def Ai(js:List Nat)(t:DS):DS:=λP ρ=>t P (js.foldl (λρ j=>ρ.set j .any) ρ)
def EnvD.drops{p:Pn}{H0 H:Hp}{own:Addr->Option Nat}{σ:L2.St}:∀(js:List Nat) {ρ:List Sl},EnvD p H0 own σ H ρ->EnvD p H0 own σ H (js.foldl (λρ j=>ρ.set j .any) ρ)
 |[],_,E=>E
 |_::js,_,E=>EnvD.drops js E.drop
def lO(js:List Nat)(h:lZ X rest t):lZ X rest (Ai js t):=PSs.wk' h (by
 rintro Q σ H ⟨p,H0,own,ρ,P,E,q,w⟩
 exact⟨p,H0,own,_,P,E.drops js,q,w⟩)
def o7:PD X (.Dict [] [] pos) (λ_ P=>P .new (.dict [])):=PE.wk G8 (by
 rintro σ H Q ⟨p,H0,own,ρ,P,E,t,q⟩
 have A:=E.at
 exact λd hd=>let ⟨k2,i2,nw⟩:=A.new hd (.dK []);q _ _ _ _ t (A.go k2 i2) (.dct nw ao .nil))
end
@[reducible] def grL(K:Ñ)(sc:Addr)(ns:List Int):Gr:=⟨λp H0=>SqL K H0 sc (ns.map V.int)/\∀b,p.fp b->H0 b=none⟩
section
variable {X:Cx}{k1 k2 j:Nat}{x y z:Str}{ps1 ps2:List Str}{e:Expr}{es1 es2:List Expr}{p1 p2 p3 pos pos1:Pos}{K:Ñ}{sc:Addr}{ns:List Int}{C:Pn->Prop}{pre:List D->Prop}{g:List D->(D->Prop)->Prop}{i:Nat}
end
variable [Gr]
section
variable {X:Cx}{pos pos':Pos}{a b:Expr}{t:DA}
def Kv{ok:Addr->Prop}{H:Hp}(lo hi:Int):Rps ok H (oF lo hi) (cR lo (hi - lo).toNat):=by
 unfold oF cR
 exact Rps.ofMap (λx=>.int _) _
def M5{p:Pn}{H0 H H1:Hp}{own:Addr->Option Nat}{P:DK}{Q:VK}{lo hi:Int}(A:At p H0 own H H1)(h:P .new (.list (cR lo (hi - lo).toNat)))(b:-1000<=lo/\lo<=1000/\-1000<=hi/\hi<=1000)(q:∀k d v H',P k d->At p H0 own H H'->Rp (okK p H0 own H k) H' v d->Q v H')(r:Addr)(hr:H1 r=none) :
  ∃p' lo' hi',[V.ref r]=[.ref p']/\upd H1 r (.rng lo hi) p'=some (.rng lo' hi')/\(-1000<=lo'/\lo'<=1000/\-1000<=hi'/\hi'<=1000)/\∀l,upd H1 r (.rng lo hi) l=none->Q (.ref l) (upd (upd H1 r (.rng lo hi)) l (.lst (oF lo' hi'))):=by
 refine⟨r,lo,hi,rfl,ao,b,λl hl=>?_⟩
 obtain⟨k2,i2,_⟩:=A.new hr (.rng lo hi)
 have A2:=A.go k2 i2
 obtain⟨k3,i3,nw⟩:=A2.new hl (.lst (oF lo hi))
 exact q _ _ _ _ h (A2.go k3 i3) (.lst nw ao (Kv lo hi))
def S7(t:DA):DE:=λρ P=>t ρ λks=>match ks with
 |[(_,.int j)]=>(-1000<=j/\j<=1000)/\P .new (.list (cR 0 (j - 0).toNat))
 |_=>False
def gF{ps ps':Pos}(hc:X.calm=true)(hml:X.mg "list"=none)(hmr:X.mg "range"=none)(ha:PDA X [a] t)(hgl:Gl X "list":=by rfl)(hgr:Gl X "range":=by rfl)(he:zS X a []:=by rfl)(hpl:(backTo pos' (starEach [] X.env)).any (·.1)=false:=by rfl)(he2:starEach [.Call (.Name "range" ps') [a] [] pos'] X.env=(false,eval (.Call (.Name "range" ps') [a] [] pos') X.env)::starEach [] X.env:=by rfl)(hpl2:zP X pos []:=by rfl) :
  PD X (.Call (.Name "list" ps) [.Call (.Name "range" ps') [a] [] pos'] [] pos) (S7 t):=PE.wk (fQ (jF hc) hgl hml boot_list (bN (fQ tX hgr hmr boot_range ha (by decide) (by decide) he hpl) jH he2) (by decide) (by decide) he2 hpl2) (by
 rintro σ H Q ⟨p,H0,own,ρ,P,E,t,q⟩
 refine⟨p,H0,own,ρ,_,E,t,λks vs H1 h A rk=>?_⟩
 split at h
 ·rename_i k j
  obtain⟨v,rfl,r'⟩:=dN rk
  have e:=Rp.int' r'
  subst e
  exact⟨j,rfl,M5 A h.2 ⟨by omega,by omega,h.1.1,h.1.2⟩ q⟩
 ·exact h.elim)
end
variable [Gr]
mutual
inductive Tm where
 |int (i:Int)
 |neg (i:Int)
 |bl (b:Bool)
 |non
 |str (s:Str)
 |var (i:Nat)
 |lst (ts:Tms)
 |tup (ts:Tms)
 |dct
inductive Tms where
 |nil
 |cons (t:Tm) (ts:Tms)
end
def OJ(sc:Scope)(x:Str):Bool:=sc.names.lookup x == some .local || sc.names.lookup x == some .cell || sc.names.lookup x == some .free
def J7{sc:Scope}{x:Str}(h:OJ sc x=true):Vis sc x:=by
 unfold OJ at h
 rw[Bool.or_eq_true,Bool.or_eq_true,beq_iff_eq,beq_iff_eq,beq_iff_eq] at h
 rcases h with (h|h)|h
 ·exact .inl h
 ·exact .inr (.inl h)
 ·exact .inr (.inr h)
mutual
def okT(N:List Str)(sc:Scope):Tm->Expr->Bool
 |.int i,.Constant (.int j) _ _=>i == j
 |.neg i,.UnaryOp .USub (.Constant (.int j) _ _) _=>i == j
 |.bl b,.Constant (.bool c) _ _=>b == c
 |.non,.Constant .none _ _=>true
 |.str s,.Constant (.str u) _ _=>s == u
 |.var i,.Name x _=>N[i]? == some x&&(OJ sc x&&(!(x == ("__debug__":Str))&&!(x == ("__classdict__":Str))))
 |.lst ts,.List es _=>jJ N sc ts es
 |.tup ts,.Tuple es _ _=>jJ N sc ts es
 |.dct,.Dict [] [] _=>true
 |_,_=>false
def jJ(N:List Str)(sc:Scope):Tms->List Expr->Bool
 |.nil,[]=>true
 |.cons t ts,e::es=>okT N sc t e&&jJ N sc ts es
 |_,_=>false
end
mutual
def evT(ρ:List Sl):Tm->Option (Kd×D)
 |.int i=>some (.imm,.int i)
 |.neg i=>some (.imm,.int (-i))
 |.bl b=>some (.imm,.bool b)
 |.non=>some (.imm,.none)
 |.str s=>some (.imm,.str s)
 |.var i=>match ρ[i]? with
  |some (.im d)=>some (.imm,d)
  |some (.sh d)=>some (.shr,d)
  |some (.sn d)=>some (.snw,d)
  |some (.dw r d)=>some (.reg r,d)
  |_=>none
 |.lst ts=>match iU ρ ts with
  |some ks=>some ((joins ks).join .new,.list (ks.map (·.2)))
  |none=>none
 |.tup ts=>match iU ρ ts with
  |some ks=>some (norm (joins ks) (.tuple (ks.map (·.2))),.tuple (ks.map (·.2)))
  |none=>none
 |.dct=>some (.new,.dict [])
def iU(ρ:List Sl):Tms->Option (List (Kd×D))
 |.nil=>some []
 |.cons t ts=>match evT ρ t,iU ρ ts with
  |some k,some ks=>some (k::ks)
  |_,_=>none
end
mutual
def smT:Tm->Bool
 |.lst ts=>jw 1000 ts
 |.tup ts=>jw 1000 ts
 |_=>true
def jw:Nat->Tms->Bool
 |_,.nil=>true
 |n+1,.cons t ts=>smT t&&jw n ts
 |0,.cons _ _=>false
end
def Pb(tm:Tm):DE:=λρ P=>∃k d,evT ρ tm=some (k,d)/\P k d
def Wi(ts:Tms):DA:=λρ P=>∃ks,iU ρ ts=some ks/\P ks
section
variable {X:Cx}{e:Expr}{es:List Expr}
def PD.wk{t t':DE}(h:PD X e t)(w:∀ρ P,t' ρ P->t ρ P):PD X e t':=PE.wk h (by
 rintro σ H Q ⟨p,H0,own,ρ,P,E,t,q⟩
 exact⟨p,H0,own,ρ,P,E,w _ _ t,q⟩)
def PDA.wk{t t':DA}(h:PDA X es t)(w:∀ρ P,t' ρ P->t ρ P):PDA X es t':=PA.wk h (by
 rintro σ H Q ⟨p,H0,own,ρ,P,E,t,q⟩
 exact⟨p,H0,own,ρ,P,E,w _ _ t,q⟩)
def Ah{ρ:List Sl}:∀{ts:Tms}{ks:List (Kd×D)}{n:Nat},jw n ts=true->iU ρ ts=some ks->ks.length<=n
 |.nil,ks,n,_,e=>by
  simp only[iU] at e
  cases e
  exact ä _
 |.cons t ts,ks,0,h,e=>by simp[jw] at h
 |.cons t ts,ks,n+1,h,e=>by
  simp only[jw,Î] at h
  simp only[iU] at e
  cases e1:evT ρ t with
  |none=>rw[e1] at e;cases e
  |some k =>
   cases e2:iU ρ ts with
   |none=>rw[e1,e2] at e;cases e
   |some ks' =>
    rw[e1,e2] at e
    cases e
    have:=Ah h.2 e2
    rw[ç]
    omega
def Ba{N:List Str}{sc:Scope}{t:Tm}(h:okT N sc t e=true):zS X e es:=by
 cases e <;> first
  |rfl
  |(cases t <;> simp[okT] at h)
section
variable {N:List Str}{sc:Scope}
def Mw{i:Int}(h:okT N sc (Tm.int i) e=true):∃k p,e=.Constant (.int i) k p:=by
 generalize ht:(Tm.int i)=t at h
 unfold okT at h
 split at h <;> first
  |exact absurd h É
  |(cases ht;rw[beq_iff_eq] at h;subst h;exact⟨_,_,rfl⟩)
  |cases ht
def Ro{i:Bool}(h:okT N sc (Tm.bl i) e=true):∃k p,e=.Constant (.bool i) k p:=by
 generalize ht:(Tm.bl i)=t at h
 unfold okT at h
 split at h <;> first
  |exact absurd h É
  |(cases ht;rw[beq_iff_eq] at h;subst h;exact⟨_,_,rfl⟩)
  |cases ht
def Mu(h:okT N sc Tm.non e=true):∃k p,e=.Constant .none k p:=by
 generalize ht:Tm.non=t at h
 unfold okT at h
 split at h <;> first
  |exact absurd h É
  |(cases ht;exact⟨_,_,rfl⟩)
  |cases ht
def Mt{i:Str}(h:okT N sc (Tm.str i) e=true):∃k p,e=.Constant (.str i) k p:=by
 generalize ht:(Tm.str i)=t at h
 unfold okT at h
 split at h <;> first
  |exact absurd h É
  |(cases ht;rw[beq_iff_eq] at h;subst h;exact⟨_,_,rfl⟩)
  |cases ht
def inv_neg{i:Int}(h:okT N sc (Tm.neg i) e=true):∃k p q,e=.UnaryOp .USub (.Constant (.int i) k p) q:=by
 generalize ht:(Tm.neg i)=t at h
 unfold okT at h
 split at h <;> first
  |exact absurd h É
  |(cases ht;rw[beq_iff_eq] at h;subst h;exact⟨_,_,_,rfl⟩)
  |cases ht
def Mr{i:Nat}(h:okT N sc (Tm.var i) e=true):∃x p,e=.Name x p/\N[i]?=some x/\Vis sc x/\zB x/\(x == ("__classdict__":Str))=false:=by
 generalize ht:(Tm.var i)=t at h
 unfold okT at h
 split at h <;> first
  |exact absurd h É
  |(cases ht;rw[Î,Î,Î,beq_iff_eq,ī,ī] at h;exact⟨_,_,rfl,h.1,J7 h.2.1,h.2.2.1,h.2.2.2⟩)
  |cases ht
def Mv{ts:Tms}(h:okT N sc (Tm.lst ts) e=true):∃es p,e=.List es p/\jJ N sc ts es=true:=by
 generalize ht:(Tm.lst ts)=t at h
 unfold okT at h
 split at h <;> first
  |exact absurd h É
  |(cases ht;exact⟨_,_,rfl,h⟩)
  |cases ht
def Ms{ts:Tms}(h:okT N sc (Tm.tup ts) e=true):∃es k p,e=.Tuple es k p/\jJ N sc ts es=true:=by
 generalize ht:(Tm.tup ts)=t at h
 unfold okT at h
 split at h <;> first
  |exact absurd h É
  |(cases ht;exact⟨_,_,_,rfl,h⟩)
  |cases ht
def Mx(h:okT N sc Tm.dct e=true):∃p,e=.Dict [] [] p:=by
 generalize ht:Tm.dct=t at h
 unfold okT at h
 split at h <;> first
  |exact absurd h É
  |(cases ht;exact⟨_,rfl⟩)
  |cases ht
end
mutual
def zT{N:List Str}{sc:Scope}(hN:X.N=N)(hs:X.env.scope=sc):∀(t:Tm) (e:Expr),okT N sc t e=true->smT t=true->PD X e (Pb t)
 |.int i,e,h,_=>by
  obtain⟨k,p,rfl⟩:=Mw h
  exact PD.wk bD λρ P ⟨k,d,e,q⟩=>by simp only[evT] at e;cases e;exact q
 |.neg i,e,h,_=>by
  obtain⟨k,p,q,rfl⟩:=inv_neg h
  exact PD.wk (qt bD) λρ P ⟨k,d,e,q⟩=>by simp only[evT] at e;cases e;exact q
 |.bl b,e,h,_=>by
  obtain⟨k,p,rfl⟩:=Ro h
  exact PD.wk wM λρ P ⟨k,d,e,q⟩=>by simp only[evT] at e;cases e;exact q
 |.non,e,h,_=>by
  obtain⟨k,p,rfl⟩:=Mu h
  exact PD.wk gD λρ P ⟨k,d,e,q⟩=>by simp only[evT] at e;cases e;exact q
 |.str s,e,h,_=>by
  obtain⟨k,p,rfl⟩:=Mt h
  exact PD.wk uM λρ P ⟨k,d,e,q⟩=>by simp only[evT] at e;cases e;exact q
 |.var i,e,h,_=>by
  obtain⟨x,p,rfl,h1,h2,h3,h4⟩:=Mr h
  refine PD.wk (dv i (by rw[hN];exact h1) (by rw[hs];exact h2) h3 h4) λρ P ⟨k,d,e,q⟩=>?_
  simp only[evT] at e
  unfold tV
  split at e <;> first
   |(cases e;rename_i z;rw[z];exact q)
   |cases e
 |.lst ts,e,h,s=>by
  obtain⟨es,p,rfl,h1⟩:=Mv h
  have s1:jw 1000 ts=true:=by simpa only[smT] using s
  refine PD.wk (gG (u9 hN hs ts es 1000 h1 s1)) λρ P ⟨k,d,e,q⟩=>?_
  simp only[evT] at e
  cases e1:iU ρ ts with
  |none=>rw[e1] at e;cases e
  |some ks =>
   rw[e1] at e
   cases e
   exact⟨ks,e1,Ah s1 e1,q⟩
 |.tup ts,e,h,s=>by
  obtain⟨es,k,p,rfl,h1⟩:=Ms h
  have s1:jw 1000 ts=true:=by simpa only[smT] using s
  refine PD.wk (j4 (u9 hN hs ts es 1000 h1 s1)) λρ P ⟨k,d,e,q⟩=>?_
  simp only[evT] at e
  cases e1:iU ρ ts with
  |none=>rw[e1] at e;cases e
  |some ks =>
   rw[e1] at e
   cases e
   exact⟨ks,e1,Ah s1 e1,q⟩
 |.dct,e,h,_=>by
  obtain⟨p,rfl⟩:=Mx h
  exact PD.wk o7 λρ P ⟨k,d,e,q⟩=>by simp only[evT] at e;cases e;exact q
def u9{N:List Str}{sc:Scope}(hN:X.N=N)(hs:X.env.scope=sc):∀(ts:Tms) (es:List Expr) (n:Nat),jJ N sc ts es=true->jw n ts=true->PDA X es (Wi ts)
 |.nil,es,n,h,_=>by
  cases es with
  |nil=>exact PDA.wk aK λρ P ⟨ks,e,q⟩=>by simp only[iU] at e;cases e;exact q
  |cons e es=>simp[jJ] at h
 |.cons t ts,es,n,h,s=>by
  cases es with
  |nil=>simp[jJ] at h
  |cons e es =>
   simp only[jJ,Î] at h
   cases n with
   |zero=>simp[jw] at s
   |succ n =>
    simp only[jw,Î] at s
    refine PDA.wk (aA (zT hN hs t e h.1 s.1) (u9 hN hs ts es n h.2 s.2) (Ba h.1)) λρ P ⟨ks,e,q⟩=>?_
    simp only[iU] at e
    cases e1:evT ρ t with
    |none=>rw[e1] at e;cases e
    |some k =>
     cases e2:iU ρ ts with
     |none=>rw[e1,e2] at e;cases e
     |some ks' =>
      rw[e1,e2] at e
      cases e
      exact⟨k.1,k.2,e1,ks',e2,q⟩
end
def R6(ts:Tms)(t:DA):DA:=λρ P=>∃ks,iU ρ ts=some ks/\t ρ λks'=>P (ks++ks')
def Gw{N:List Str}{sc:Scope}(hN:X.N=N)(hs:X.env.scope=sc){t2:DA}{es2:List Expr}(h2:PDA X es2 t2):∀(ts:Tms) (es1:List Expr) (n:Nat),jJ N sc ts es1=true->jw n ts=true->PDA X (es1++es2) (R6 ts t2)
 |.nil,es,n,h,_=>by
  cases es with
  |nil=>exact PDA.wk h2 λρ P ⟨ks,e,q⟩=>by simp only[iU] at e;cases e;exact q
  |cons e es=>simp[jJ] at h
 |.cons t ts,es,n,h,s=>by
  cases es with
  |nil=>simp[jJ] at h
  |cons e es =>
   simp only[jJ,Î] at h
   cases n with
   |zero=>simp[jw] at s
   |succ n =>
    simp only[jw,Î] at s
    refine PDA.wk (aA (zT hN hs t e h.1 s.1) (Gw hN hs h2 ts es n h.2 s.2) (Ba h.1)) λρ P ⟨ks,e,q⟩=>?_
    simp only[iU] at e
    cases e1:evT ρ t with
    |none=>rw[e1] at e;cases e
    |some k =>
     cases e2:iU ρ ts with
     |none=>rw[e1,e2] at e;cases e
     |some ks' =>
      rw[e1,e2] at e
      cases e
      exact⟨k.1,k.2,e1,ks',e2,q⟩
def zm(N:List Str)(sc:Scope)(tm:Tm)(h:okT N sc tm e=true)(hN:X.N=N:=by rfl)(hs:X.env.scope=sc:=by rfl)(s:smT tm=true:=by decide +kernel):PD X e (Pb tm):=zT hN hs tm e h s
def oW(n:Nat)(N:List Str)(sc:Scope)(ts:Tms){t2:DA}(h2:PDA X (es.drop n) t2)(h:jJ N sc ts (es.take n)=true)(hN:X.N=N:=by rfl)(hs:X.env.scope=sc:=by rfl)(s:jw 1000 ts=true:=by decide +kernel):PDA X es (R6 ts t2):=by
 have r:=Gw hN hs h2 ts (es.take n) 1000 h s
 rw[List.take_append_drop] at r
 exact r
end
end Dl
namespace L2
open PySem PySem.Spec PyProof.Rows HT
section
variable {X:Cx}{e:Expr}{te:TE}{p1 p2 p3 pos:Pos}
end
end L2
namespace Dl
open PySem L2 PyProof.Rows
variable [Gr]
section
variable {X:Cx}{pos p1 p2 p3:Pos}{a b e:Expr}{es:List Expr}{ta tb te:DE}{t:DA}
def Sy(te:DE)(tl th:DO):DE:=λρ P=>te ρ λk d=>tl ρ λlo=>th ρ λhi=>match d with
 |.list ds=>newP k (bG ds lo hi) λk'=>P k' (.list (bG ds lo hi))
 |.tuple ds=>¬(HT.sIx ds.length 0 lo=0/\HT.sIx ds.length ds.length hi=ds.length)/\P (norm k (.tuple (bG ds lo hi))) (.tuple (bG ds lo hi))
 |_=>False
def wK{lo hi:Option Expr}{tl th:DO}(he:PD X e te)(hl:PO X lo (lA tl))(hh:PO X hi (lA th)):PD X (.Subscript e (.Slice lo hi none p2) pos) (Sy te tl th):=PE.wk (p8 (SlR.or uy Gm) he hl hh) (by
 rintro σ H Q ⟨p,H0,own,ρ,P,E,t,q⟩
 refine⟨p,H0,own,ρ,_,E,t,λk d v H1 h A r=>?_⟩
 refine⟨p,H0,own,ρ,_,E.go A.kp A.pen,h,λo1 H2 h2 A2=>?_⟩
 refine⟨p,H0,own,ρ,_,(E.go A.kp A.pen).go A2.kp A2.pen,h2,λo2 H3 h3 A3=>?_⟩
 have A4:=(A.base A2).base A3
 have r3:=fK (A.base A2) A3.kp (fK A A2.kp r)
 cases d with
 |list ds =>
  obtain⟨x,xs,e1,o,h1,rs⟩:=Rp.cj r3
  subst e1
  refine .inl ⟨x,xs,rfl,SqL.of h1,λl hl=>?_⟩
  obtain⟨k2,i2,nw⟩:=A4.new hl (.lst (nF xs o1 o2))
  obtain⟨k',hk',rk'⟩:=gJ A4 (aX A4 k2 (rs.cut o1 o2)) nw ao h3
  exact q _ _ _ _ hk' (A4.go k2 i2) rk'
 |tuple ds =>
  obtain⟨x,xs,e1,h1,rs⟩:=Rp.d7 r3
  subst e1
  refine .inr ⟨x,xs,rfl,SqT.of h1,by rw[rs.length];exact h3.1,λl hl=>?_⟩
  obtain⟨k2,i2,nw⟩:=A4.new hl (.tup (nF xs o1 o2))
  exact q _ _ _ _ h3.2 (A4.go k2 i2) (aM (.tup ao (aX A4 k2 (rs.cut o1 o2))))
 |_=>exact h3.elim)
end
variable [Gr]
section
variable {X:Cx}{pos pos' p2:Pos}{a b e:Expr}{ta tb te tj tm:DE}{st st2:Stmt}{rest:List Stmt}{ti:DI}{g:DG}{t:DS}
end
variable [Gr]
section
variable {X:Cx}{te te1 te2 tj tm:DE}{st st2:Stmt}{rest:List Stmt}{t:DS}
end
variable [Gr]
section
variable {X:Cx}{te tj:DE}{st:Stmt}{t:DS}
end
end Dl
namespace L2
open PySem PySem.Spec PyProof.Rows
end L2
namespace Dl
open PySem L2 PyProof.Rows
variable [Gr]
section
variable {X:Cx}{tg:Expr}{pos:Pos}{ta:DA}
end
section
variable {X:Cx}
def Fj(hc:X.calm=true):bC X (.builtin "min") (λxs H Q=>∃(p:Addr) (ns:List Int),xs=[.ref p]/\SqL X.K H p (ns.map V.int)/\ns≠[]/\∀M,M∈ns->(∀a∈ns,M<=a)->Q (.int M) H):=by
 intro pins s σ H xs us Q I r h
 obtain⟨p,ns,rfl,hp,hne,q⟩:=h
 obtain⟨u,rfl,rx⟩:=vals1 r
 cases rx
 obtain⟨its,rv,pl,hz⟩:=I.list hp
 have hi:IntsAre its ns:=intsAre_of rv
 obtain⟨zs,e⟩:=hi.allInts.items
 have hns:ns=zs.toList.map (·.1):=by rw[←hi.numsOf,←nums_intItems,←e]
 have hsz:0<zs.size:=by
  have h3:=ů.mpr hne
  rw[hns,Ã,ċ] at h3;exact h3
 have hl:=pl.isList
 rw[e] at hl
 refine min_intList (I.ok.hd hc) hl hsz λv h' tk hv hk=>?_
 obtain⟨t,rfl⟩:=intItems_at hv
 obtain⟨h1,h2⟩:=argBest_lt (numAt zs) (zs.size - 1)
 refine⟨.int _,H,I.kept λb o eb=>hk b o eb,⟨_,rfl⟩,q _ ?_ λa ha=>?_⟩
 ·rw[hns,numAt_eq];refine getD_mem ?_;rw[Ã,ċ];omega
 ·rw[hns] at ha
  obtain⟨j,hj,rfl⟩:=mem_getD ha
  rw[Ã,ċ] at hj
  have h3:=h2 j (by omega)
  rw[←numAt_eq];exact h3
def Fo(hc:X.calm=true):bC X (.builtin "max") (λxs H Q=>∃(p:Addr) (ns:List Int),xs=[.ref p]/\SqL X.K H p (ns.map V.int)/\ns≠[]/\∀M,M∈ns->(∀a∈ns,a<=M)->Q (.int M) H):=by
 intro pins s σ H xs us Q I r h
 obtain⟨p,ns,rfl,hp,hne,q⟩:=h
 obtain⟨u,rfl,rx⟩:=vals1 r
 cases rx
 obtain⟨its,rv,pl,hz⟩:=I.list hp
 have hi:IntsAre its ns:=intsAre_of rv
 obtain⟨zs,e⟩:=hi.allInts.items
 have hns:ns=zs.toList.map (·.1):=by rw[←hi.numsOf,←nums_intItems,←e]
 have hsz:0<zs.size:=by
  have h3:=ů.mpr hne
  rw[hns,Ã,ċ] at h3;exact h3
 have hl:=pl.isList
 rw[e] at hl
 refine max_intList (I.ok.hd hc) hl hsz λv h' tk hv hk=>?_
 obtain⟨t,rfl⟩:=intItems_at hv
 obtain⟨h1,h2⟩:=argBest_gt (numAt zs) (zs.size - 1)
 refine⟨.int _,H,I.kept λb o eb=>hk b o eb,⟨_,rfl⟩,q _ ?_ λa ha=>?_⟩
 ·rw[hns,numAt_eq];refine getD_mem ?_;rw[Ã,ċ];omega
 ·rw[hns] at ha
  obtain⟨j,hj,rfl⟩:=mem_getD ha
  rw[Ã,ċ] at hj
  have h3:=h2 j (by omega)
  rw[←numAt_eq];exact h3
end
section
variable {prog:Program}{w:World}{A:Around}{E:Value->Shared->Prop}
end
section
variable {X:Cx}{pos:Pos}
variable [Gr]
end
section
variable {X:Cx}{pos:Pos}{a:Expr}{t:DA} [Gr]
def Ew(f:Int->Int->Int)(le:Int->Int->Prop):GC:=λks P=>match ks with
 |[(_,.tuple [.int i,.int j])]=>P .imm (.int (f i j))
 |[(_,.list ds)]=>∃ns:List Int,ds=ns.map Í/\ns≠[]/\∀M,M∈ns->(∀a∈ns,le M a)->P .imm (.int M)
 |_=>False
def oX{ps:Pos}(hc:X.calm=true)(hm:X.mg "min"=none)(ha:PDA X [a] t)(hg:Gl X "min":=by rfl)(he:zS X a []:=by rfl)(hpl:zP X pos []:=by rfl):PD X (.Call (.Name "min" ps) [a] [] pos) (tCl (Ew (λi j=>if j<i then j else i) (λM a=>M<=a)) t) :=
 cM (bC.or (Fi hc) (Fj hc)) (by
  intro p H0 own Hb H vs ks P Q A r t q
  unfold Ew at t
  split at t
  ·rename_i k i j
   obtain⟨v,rfl,r'⟩:=dN r
   obtain⟨x,xs,e1,h1,rs1⟩:=Rp.d7 r'
   obtain⟨v1,v2,e2,q1,q2⟩:=Rps.two rs1
   subst e1 e2
   rw[q1.int',q2.int'] at h1
   exact .inl ⟨x,i,j,rfl,SqT.of h1,q _ _ _ _ t Kp.refl A.pen (.int _)⟩
  ·obtain⟨ns,rfl,hne,t⟩:=t
   obtain⟨v,rfl,r'⟩:=dN r
   obtain⟨x,xs,e1,o1,h1,rs1⟩:=Rp.cj r'
   subst e1
   have e2:=Rps.ints rs1
   subst e2
   exact .inr ⟨x,ns,rfl,SqL.of h1,hne,λM h1 h2=>q _ _ _ _ (t M h1 h2) Kp.refl A.pen (.int _)⟩
  ·exact t.elim) hg hm boot_min ha (by decide) (by decide) he hpl
def oY{ps:Pos}(hc:X.calm=true)(hm:X.mg "max"=none)(ha:PDA X [a] t)(hg:Gl X "max":=by rfl)(he:zS X a []:=by rfl)(hpl:zP X pos []:=by rfl):PD X (.Call (.Name "max" ps) [a] [] pos) (tCl (Ew (λi j=>if j > i then j else i) (λM a=>a<=M)) t) :=
 cM (bC.or (Fl hc) (Fo hc)) (by
  intro p H0 own Hb H vs ks P Q A r t q
  unfold Ew at t
  split at t
  ·rename_i k i j
   obtain⟨v,rfl,r'⟩:=dN r
   obtain⟨x,xs,e1,h1,rs1⟩:=Rp.d7 r'
   obtain⟨v1,v2,e2,q1,q2⟩:=Rps.two rs1
   subst e1 e2
   rw[q1.int',q2.int'] at h1
   exact .inl ⟨x,i,j,rfl,SqT.of h1,q _ _ _ _ t Kp.refl A.pen (.int _)⟩
  ·obtain⟨ns,rfl,hne,t⟩:=t
   obtain⟨v,rfl,r'⟩:=dN r
   obtain⟨x,xs,e1,o1,h1,rs1⟩:=Rp.cj r'
   subst e1
   have e2:=Rps.ints rs1
   subst e2
   exact .inr ⟨x,ns,rfl,SqL.of h1,hne,λM h1 h2=>q _ _ _ _ (t M h1 h2) Kp.refl A.pen (.int _)⟩
  ·exact t.elim) hg hm boot_max ha (by decide) (by decide) he hpl
variable {b:Expr}{ta tb:DE}
end
section
variable {X:Cx}
def Ft(hc:X.calm=true):bC X (.builtin "any") (λxs H Q=>∃(p:Addr) (bs:List Bool),xs=[.ref p]/\SqL X.K H p (bs.map V.bl)/\Q (.bl (bs.any id)) H):=by
 intro pins s σ H xs us Q I r h
 obtain⟨p,bs,rfl,hp,q⟩:=h
 obtain⟨u,rfl,rx⟩:=vals1 r
 cases rx
 obtain⟨its,rv,pl,hz⟩:=I.list hp
 have e:=uo rv
 subst e
 have hlt:p≠s.heap.objs.size:=by obtain⟨o,ho,_⟩:=pl.isList;exact ß (Ç ho)
 refine call_any_walk (wpAny_pyIter_list pl.isList ?_)
 refine⟨_,_,_,_,_,_,λi=>bs.getD i false,rfl,Walks.list (A:=X.A.in1) (I.ok.hd hc) _ p hlt _,⟨⟨_,Õ _ rfl,rfl,rfl⟩,pl.isList.push _⟩,?_,λh' tk hk=>?_⟩
 ·intro i v s Q E hP hQ
  have hP':(bs.map ŕ)[i]?=some v:=by simpa using hP
  rw[à] at hP'
  cases hb:bs[i]? with
  |none=>rw[hb] at hP';cases hP'
  |some b =>
   rw[hb] at hP'
   cases hP'
   refine į ?_
   have e:bs.getD i false=b:=by rw[ò,hb];rfl
   have hQ':Q (bs.getD i false) s:=hQ
   rw[e] at hQ'
   exact hQ'
 ·have e:(á (bs.map ŕ).toArray.size).any (λi=>bs.getD i false)=bs.any id:=by
   rw[Ï,Ã,ę]
   simp only[List.any_eq_true,Ķ]
   constructor
   ·rintro⟨i,hi,h⟩
    simp[hi] at h
    exact⟨bs[i],Ū hi,h⟩
   ·rintro⟨x,hx,h⟩
    obtain⟨i,hi,e⟩:=List.mem_iff_getElem.mp hx
    exact⟨i,hi,by simp[hi,e];exact h⟩
  rw[e]
  refine⟨.bl (bs.any id),H,I.kept λb o eb=>hk b o ?_ (Æ _ eb),rfl,q⟩
  intro hm
  have:b=s.heap.objs.size:=by simpa using hm
  exact absurd (Ç eb) (by rw[this];exact ø _)
end
section
variable {X:Cx}{pos:Pos}{a e:Expr}{te ta:DE}{t:DA}{st st2:Stmt}{rest:List Stmt} [Gr]
def boot_any:bootBuiltins "any"=some (.builtin "any"):=by decide +kernel
def Ru:GC:=λks P=>match ks with
 |[(_,.list ds)]=>∃bs:List Bool,ds=bs.map PyData.bool/\P .imm (.bool (bs.any id))
 |_=>False
def zu{ps:Pos}(hc:X.calm=true)(hm:X.mg "any"=none)(ha:PDA X [a] t)(hg:Gl X "any":=by rfl)(he:zS X a []:=by rfl)(hpl:zP X pos []:=by rfl):PD X (.Call (.Name "any" ps) [a] [] pos) (tCl Ru t) :=
 cM (Ft hc) (by
  intro p H0 own Hb H vs ks P Q A r t q
  unfold Ru at t
  split at t
  ·obtain⟨bs,rfl,t⟩:=t
   obtain⟨v,rfl,r'⟩:=dN r
   obtain⟨x,xs,e1,o1,h1,rs1⟩:=Rp.cj r'
   subst e1
   have e2:=Rps.bools rs1
   subst e2
   exact⟨x,bs,rfl,SqL.of h1,q _ _ _ _ t Kp.refl A.pen (.bl _)⟩
  ·exact t.elim) hg hm boot_any ha (by decide) (by decide) he hpl
end
section
variable {X:Cx}{tg iter c:Expr}{pos pos1:Pos}{ret:Stmt}{ti:DI}{g:DG}{tc:DT} [Gr]
end
end Dl
namespace L2
open PySem PyProof.Rows
def Asc(xs:Array Nat):Prop:=xs.toList.Pairwise (·<·)
structure Good(w:World)(t:SetTable):Prop where
 asc:Asc t.place
 dum:t.dummies=#[]
 led:t.led=!w.params.followText "set-order"
section
variable {w:World}{t:SetTable}
end
section
variable {P:Program}{w:World}{A:Around}{E:Value->Shared->Prop}{s:Shared}
end
section
variable {P:Program}{w:World}{A:Around}{R:Result->Shared->Prop}{I:Addr}{fp wr:List Addr}{G:Array GenState->Array GenState->Prop}{n:Nat}{W:Nat->Value->Prop}{St:Nat->Shared->Prop}
end
section
variable {P:Program}{w:World}{A:Around}{E:Value->Shared->Prop}{s:Shared}
end
section
variable {P:Program}{w:World}{A:Around}{E:Value->Shared->Prop}{s:Shared}{I a:Addr}{f:Value}{i n ep:Nat}{o:Obj}{es:Array (Int×Value)}{t:SetTable}
end
section
variable {P:Program}{w:World}{A:Around}{E:Value->Shared->Prop}{s:Shared}
variable {a:Addr}{i ep:Nat}{o:Obj}{es:Array (Int×Value)}{t:SetTable}
end
section
variable {P:Program}{w:World}{A:Around}{E:Value->Shared->Prop}{s:Shared}{I a:Addr}{ep:Nat}{o:Obj}{es:Array (Int×Value)}{t:SetTable}
end
end L2
namespace L2
open PySem PySem.Spec PyProof.Rows
section
variable {P:Program}{w:World}{A:Around}{E:Value->Shared->Prop}{s:Shared}{a:Addr}{S:Int->Bool}{n:Nat}
end
end L2
set_option autoImplicit true
set_option relaxedAutoImplicit true
namespace Wr
open PySem L2 PyProof.Rows Dl
structure WD[Gr](X:Cx)(e:Expr)(t:DE):Prop where
 h:PD X e t
structure WDT[Gr](X:Cx)(e:Expr)(t:DT):Prop where
 h:PDT X e t
structure WDW[Gr](X:Cx)(e:Expr)(t:DT):Prop where
 h:PDW X e t
structure WDA[Gr](X:Cx)(e:List Expr)(t:DA):Prop where
 h:PDA X e t
structure WDS[Gr](X:Cx)(e:Stmt)(t:DS):Prop where
 h:PDS X e t
structure WDSs[Gr](X:Cx)(e:List Stmt)(t:DS):Prop where
 h:lZ X e t
structure WDI[Gr](X:Cx)(tg e:Expr)(t:DI):Prop where
 h:PDI X tg e t
structure WDG[Gr](X:Cx)(e:Expr)(t:DG):Prop where
 h:PDG X e t
structure WDGs[Gr](X:Cx)(e:List Expr)(t:DGs):Prop where
 h:PGs X e (mW t)
structure WDTs[Gr](X:Cx)(e:List Expr)(t:DT):Prop where
 h:FJ X e t
structure WDO[Gr](X:Cx)(e:Option Expr)(t:DO):Prop where
 h:PO X e (lA t)
structure WV(X:Cx)(e:Expr)(i:Nat):Prop where
 h:PE X e (rF i)
structure WC(X:Cx)(e:Expr)(v:V):Prop where
 h:PE X e (tC v)
section
variable [Gr]
def wv(i:Nat){x:Str}{pos:Pos}(hN:X.N[i]?=some x:=by rfl)(hv:Vis X.env.scope x:=by first|exact Ń rfl|exact Or.inr (Ń rfl)|exact Or.inr (Or.inr rfl))(hd:zB x:=by decide)(hcd:(x == ("__classdict__":Str))=false:=by decide):WV X (.Name x pos) i:=⟨pv i hN hv hd hcd⟩
def wpt{t:DT}(h:WDW X e t):WDT X e t:=⟨PDW.pt h.h⟩
def wty{x:Str}{T:String}(hg:Gl X x)(hm:X.mg x=none)(hv:bootBuiltins x=some (.type T))(hn:x≠"__name__":=by decide)(hd:zB x:=by decide):WC X (.Name x ps) (.ty T):=⟨jZ hg hm hv rfl hn hd⟩
def jL{i:Nat}{x:Str}{e:Expr}{te:DE}{pos' pos:Pos}(rg:Option Nat)(hN:X.N.Nodup)(hi:X.N[i]?=some x)(hx:Loc X.env.scope x)(he:WD X e te)(hs:swapsWith e (some (.Name x pos')) pos.line X.env=pure false:=by rfl)(hf:zL X x:=by first|exact .inl rfl|exact .inr rfl|assumption) :
  WDS X (.Assign [.Name x pos'] e pos) (vL i rg te):=⟨Dl.jL rg (dg hN hi hx he.h hs hf)⟩
def lN(rg:Option Nat)(own:List Str){i:Nat}{y:Str}{py spos:Pos}(hc:X.calm=true)(hN:X.N.Nodup)(hiN:X.N[i]?=some y)(hx:Loc X.env.scope y)(hi:WDI X tg iter ti)(hg:∀c,WDG (X.comp own scope c) tg g)(ht:∀c,WDTs (X.comp own scope c) ifs tt)(he:∀c,WD (X.comp own scope c) elt te)(hsw:swapsWith (.ListComp elt [⟨tg,iter,ifs,0⟩] scope pos) (some (.Name y py)) spos.line X.env=pure true:=by rfl)(hk:dh X.env scope X.N=true:=by rfl)(hs:zF X iter:=by intro _;rfl)(hf:zL X y:=by first|exact .inl rfl|exact .inr rfl|assumption) :
  WDS X (.Assign [.Name y py] (.ListComp elt [⟨tg,iter,ifs,0⟩] scope pos) spos) (vL i rg (dLC own.length ti g tt te)):=⟨Dl.jL rg (Qk own hc hN hiN hx hi.h (λc=>(hg c).h) (λc=>(ht c).h) (λc=>(he c).h) hsw hk hs hf)⟩
def fX{i:Nat}{x:Str}{e:Expr}{es:List Expr}{apos cpos np pos:Pos}(hv:WV X (.Name x np) i)(ha:WDA X (e::es) (iZ te vU))(hbase:attributeBase (.Name x np) "append" X.env (eval (.Name x np) X.env)=eval (.Name x np) X.env:=by rfl)(hfew:zW X cpos (e::es):=by rfl)(hline:(apos.endLine == cpos.line)=true:=by rfl)(hst:zS X e es:=by rfl)(hplain:zP X cpos es:=by rfl)(hs:swapsWith (.Call (.Attribute (.Name x np) "append" apos) (e::es) [] cpos) none pos.line X.env=pure false:=by rfl) :
  WDS X (.Expr (.Call (.Attribute (.Name x np) "append" apos) (e::es) [] cpos) pos) (Aj i te):=⟨Dl.fX (dz (qe ģ Ō ŋ fV hv.h ha.h hbase hfew hline hst hplain) hs)⟩
def qw{x:Str}{i:Int}{u:Value}{ps:Pos}(hg:Gl X x)(hm:X.mg x=some u)(r:RelV (.int i) u)(hd:zB x:=by decide):WD X (.Name x ps) (tK (.int i)):=⟨Dl.qw hg hm r hd⟩
def dW{i:Nat}{x:Str}(hN:X.N.Nodup)(hi:X.N[i]?=some x)(hx:Loc X.env.scope x)(hf:zL X x:=by first|exact .inl rfl|exact .inr rfl|assumption):WDG X (.Name x pos) (gNm i):=⟨Dl.dW (dO hN hi hx hf)⟩
def bD{i:Int}{j:Nat}:WD X (.Constant (.int i) j pos) (tK (.int i)):=⟨Dl.bD ⟩
def wM{i:Bool}{j:Nat}:WD X (.Constant (.bool i) j pos) (tK (.bool i)):=⟨Dl.wM ⟩
def gD{j:Nat}:WD X (.Constant .none j pos) (tK .none):=⟨Dl.gD ⟩
def uM{x:Str}{j:Nat}:WD X (.Constant (.str x) j pos) (tK (.str x)):=⟨Dl.uM ⟩
def gA{e:Expr}{t:DE}(h:WD X e t)(he:∀whole,isTrue e X.env whole=(do let v ←whole;standAt e.pos;holding [v] (truthy v)):=by intro _;rfl):WDT X e (dD t):=⟨Dl.gA (h:=h.h) (he:=he)⟩
def jj{t:DT}(ha:WDT X a t):WDT X (.UnaryOp .Not a pos) (U7 t):=⟨Dl.jj (ha:=ha.h)⟩
def dH(ha:WDT X a t):WDW X (.BoolOp .And [a] pos) t:=⟨Dl.dH (ha:=ha.h)⟩
def cB(ha:WDT X a t):WDW X (.BoolOp .Or [a] pos) t:=⟨Dl.cB (ha:=ha.h)⟩
def eO{rest:List Expr}(ha:WDT X a t)(hb:WDW X (.BoolOp .And (b::rest) pos) u):WDW X (.BoolOp .And (a::b::rest) pos) (JQ t u):=⟨Dl.eO (ha:=ha.h) (hb:=hb.h)⟩
def uF{rest:List Expr}(ha:WDT X a t)(hb:WDW X (.BoolOp .Or (b::rest) pos) u):WDW X (.BoolOp .Or (a::b::rest) pos) (dOr t u):=⟨Dl.uF (ha:=ha.h) (hb:=hb.h)⟩
def aK :WDA X [] vU:=⟨Dl.aK ⟩
def aA(ha:WD X e te)(hr:WDA X es t)(hs:zS X e es:=by rfl):WDA X (e::es) (iZ te t):=⟨Dl.aA (ha:=ha.h) (hr:=hr.h) (hs:=hs)⟩
def gG(h:WDA X es t):WD X (.List es pos) (Gf t):=⟨Dl.gG (h:=h.h)⟩
def j4{x1}(h:WDA X es t):WD X (.Tuple es x1 pos) (yE t):=⟨Dl.j4 (h:=h.h)⟩
def ql(ha:WD X a ta)(hb:WD X b tb):WD X (.BinOp a .Sub b pos) (t2 (gI0 λi j=>.int (i - j)) ta tb):=⟨Dl.ql (ha:=ha.h) (hb:=hb.h)⟩
def zj(ha:WD X a ta)(hb:WD X b tb):WD X (.BinOp a .Mod b pos) (t2 (gI (λ_ j=>0<j) λi j=>.int (i % j)) ta tb):=⟨Dl.zj (ha:=ha.h) (hb:=hb.h)⟩
def mL(ha:WD X a ta)(hb:WD X b tb):WD X (.BinOp a .Pow b pos) (t2 (gI Sd λi j=>.int (i ^ j.toNat)) ta tb):=⟨Dl.mL (ha:=ha.h) (hb:=hb.h)⟩
def BP(ha:WD X a ta)(hb:WD X b tb):WD X (.Compare a [.Lt] [b] pos) (t2 (gI0 λi j=>.bool (decide (i<j))) ta tb):=⟨Dl.BP (ha:=ha.h) (hb:=hb.h)⟩
def Hf(ha:WD X a ta)(hb:WD X b tb):WD X (.Compare a [.LtE] [b] pos) (t2 (gI0 λi j=>.bool (decide (i<=j))) ta tb):=⟨Dl.Hf (ha:=ha.h) (hb:=hb.h)⟩
def BX(ha:WD X a ta)(hb:WD X b tb):WD X (.Compare a [.Gt] [b] pos) (t2 (gI0 λi j=>.bool (decide (j<i))) ta tb):=⟨Dl.BX (ha:=ha.h) (hb:=hb.h)⟩
def wL(ha:WD X a ta)(hb:WD X b tb):WD X (.Compare a [.GtE] [b] pos) (t2 (gI0 λi j=>.bool (decide (j<=i))) ta tb):=⟨Dl.wL (ha:=ha.h) (hb:=hb.h)⟩
def yV(ha:WD X a ta)(hb:WD X b tb):WDT X (.Compare a [.Lt] [b] pos) (dD (t2 (gI0 λi j=>.bool (decide (i<j))) ta tb)):=⟨Dl.yV (ha:=ha.h) (hb:=hb.h)⟩
def uH(ha:WD X a ta)(hb:WD X b tb):WDT X (.Compare a [.LtE] [b] pos) (dD (t2 (gI0 λi j=>.bool (decide (i<=j))) ta tb)):=⟨Dl.uH (ha:=ha.h) (hb:=hb.h)⟩
def qg(ha:WD X a ta)(hb:WD X b tb):WDT X (.Compare a [.Gt] [b] pos) (dD (t2 (gI0 λi j=>.bool (decide (j<i))) ta tb)):=⟨Dl.qg (ha:=ha.h) (hb:=hb.h)⟩
def qu{ps:Pos}(hm:X.mg "len"=none)(ha:WDA X [a] t)(hg:Gl X "len":=by rfl)(he:zS X a []:=by rfl)(hpl:zP X pos []:=by rfl):WD X (.Call (.Name "len" ps) [a] [] pos) (tCl MF t):=⟨Dl.qu (hm:=hm) (ha:=ha.h) (hg:=hg) (he:=he) (hpl:=hpl)⟩
def uQ{ps:Pos}(hm:X.mg "int"=none)(hv:bootBuiltins "int"=some (.type "int"))(ha:WDA X [a] t)(hg:Gl X "int":=by rfl)(he:zS X a []:=by rfl)(hpl:zP X pos []:=by rfl):WD X (.Call (.Name "int" ps) [a] [] pos) (tCl Rt t):=⟨Dl.uQ (hm:=hm) (hv:=hv) (ha:=ha.h) (hg:=hg) (he:=he) (hpl:=hpl)⟩
def nu :WDSs X [] JN:=⟨Dl.nu ⟩
def dU{st:Stmt}{rest:List Stmt}(h1:WDS X st t)(h2:WDSs X rest u):WDSs X (st::rest) (JK t u):=⟨Dl.dU (h1:=h1.h) (h2:=h2.h)⟩
def bF{st:Stmt}(h1:WDS X st t):WDSs X [st] t:=⟨Dl.bF (h1:=h1.h)⟩
def bV(he:WD X e te):WDS X (.Return (some e) pos) (JL te):=⟨Dl.bV (he:=he.h)⟩
def tL{c:Expr}{a b:List Stmt}{tc:DT}(hc:WDT X c tc)(ha:WDSs X a t)(hb:WDSs X b u):WDS X (.If c a b pos) (dIf tc t u):=⟨Dl.tL (hc:=hc.h) (ha:=ha.h) (hb:=hb.h)⟩
def jr(he:WD X e te)(hs:swapsWith e none pos.line X.env=pure false:=by rfl):WDS X (.Expr e pos) (Oz te):=⟨Dl.jr (he:=he.h) (hs:=hs)⟩
def jt :WDGs X [] Ji:=⟨Dl.jt ⟩
def cA{g:DG}{gs:DGs}(h1:WDG X e g)(h2:WDGs X es gs)(hs:(assignEach (e::es) X.env).map (·.2)=assign e X.env::(assignEach es X.env).map (·.2):=by rfl):WDGs X (e::es) (vB g gs):=⟨Dl.cA (h1:=h1.h) (h2:=h2.h) (hs:=hs)⟩
def qZ{gs:DGs}{k n:Nat}(hc:X.calm=true)(h:WDGs X es gs)(hn:(assignEach es X.env).length=n:=by rfl)(hst:(assignEach es X.env).findIdx? (·.1)=none:=by rfl):WDG X (.Tuple es k pos) (gTp n gs):=⟨Dl.qZ (hc:=hc) (h:=h.h) (hn:=hn) (hst:=hst)⟩
def iV(hl:WD X l tl):WDI X tg l (iSq tl):=⟨Dl.iV (hl:=hl.h)⟩
def fY{a:Expr}{ps:Pos}(hm:X.mg "range"=none)(ha:WDA X [a] ta)(hg:Gl X "range":=by rfl)(hs:starEach [a] X.env=[(false,eval a X.env)]:=by rfl):WDI X tg (.Call (.Name "range" ps) [a] [] pos) (iR1 ta):=⟨Dl.fY (hm:=hm) (ha:=ha.h) (hg:=hg) (hs:=hs)⟩
def nC{a b:Expr}{ps:Pos}(hm:X.mg "range"=none)(ha:WDA X [a,b] ta)(hg:Gl X "range":=by rfl)(hs:starEach [a,b] X.env=[(false,eval a X.env),(false,eval b X.env)]:=by rfl)(hs2:starEach [b] X.env=[(false,eval b X.env)]:=by rfl):WDI X tg (.Call (.Name "range" ps) [a,b] [] pos) (iR2 ta):=⟨Dl.nC (hm:=hm) (ha:=ha.h) (hg:=hg) (hs:=hs) (hs2:=hs2)⟩
def nA{body:List Stmt}(hp:PassesOwn (model X.prog X.w) X.A X.env X.xe)(hc:X.calm=true)(hi:WDI X tg iter ti)(hg:WDG X tg g)(hb:WDSs X body tb)(hs:zF X iter:=by intro _;rfl):WDS X (.For tg iter body [] pos) (Nj ti g tb):=⟨Dl.nA (hp:=hp) (hc:=hc) (hi:=hi.h) (hg:=hg.h) (hb:=hb.h) (hs:=hs)⟩
def cC{X:Cx}:WDTs X [] (λ_ P=>P true):=⟨Dl.cC ⟩
def dR{X:Cx}{c:Expr}{t:DT}(hc:WDT X c t):WDTs X [c] t:=⟨Dl.dR (hc:=hc.h)⟩
def eV(own:List Str)(hc:X.calm=true)(hi:WDI X tg iter ti)(hg:∀c,WDG (X.comp own scope c) tg g)(ht:∀c,WDTs (X.comp own scope c) ifs tt)(he:∀c,WD (X.comp own scope c) elt te)(hk:dh X.env scope X.N=true:=by rfl)(hs:zF X iter:=by intro _;rfl):WD X (.ListComp elt [⟨tg,iter,ifs,0⟩] scope pos) (dLC own.length ti g tt te):=⟨Dl.eV (own:=own) (hc:=hc) (hi:=hi.h) (hg:=λc=>(hg c).h) (ht:=λc=>(ht c).h) (he:=λc=>(he c).h) (hk:=hk) (hs:=hs)⟩
def cF{op}(h:WD X a ta):WD X (.BoolOp op [a] pos) ta:=⟨Dl.cF (h:=h.h)⟩
def mO{rest:List Expr}(ha:WD X a ta)(hb:WD X (.BoolOp .And (b::rest) pos) tb):WD X (.BoolOp .And (a::b::rest) pos) (Ay ta tb):=⟨Dl.mO (ha:=ha.h) (hb:=hb.h)⟩
def mQ{ps:Pos}(hc:X.calm=true)(hm:X.mg "all"=none)(hv:bootBuiltins "all"=some (.builtin "all"))(ha:WDA X [a] t)(hg:Gl X "all":=by rfl)(he:zS X a []:=by rfl)(hpl:zP X pos []:=by rfl):WD X (.Call (.Name "all" ps) [a] [] pos) (tCl Rv t):=⟨Dl.mQ (hc:=hc) (hm:=hm) (hv:=hv) (ha:=ha.h) (hg:=hg) (he:=he) (hpl:=hpl)⟩
def oZ{ps:Pos}(hm:X.mg "list"=none)(ha:WDA X [a] t)(hg:Gl X "list":=by rfl)(he:zS X a []:=by rfl)(hpl:zP X pos []:=by rfl):WD X (.Call (.Name "list" ps) [a] [] pos) (tCl Mz t):=⟨Dl.oZ (hm:=hm) (ha:=ha.h) (hg:=hg) (he:=he) (hpl:=hpl)⟩
def gC{ps:Pos}(hm:X.mg "tuple"=none)(ha:WDA X [a] t)(hg:Gl X "tuple":=by rfl)(he:zS X a []:=by rfl)(hpl:zP X pos []:=by rfl):WD X (.Call (.Name "tuple" ps) [a] [] pos) (tCl Jj t):=⟨Dl.gC (hm:=hm) (ha:=ha.h) (hg:=hg) (he:=he) (hpl:=hpl)⟩
def j6{ps:Pos}(hm:X.mg "sorted"=none)(ha:WDA X [a] t)(hg:Gl X "sorted":=by rfl)(he:zS X a []:=by rfl)(hpl:zP X pos []:=by rfl):WD X (.Call (.Name "sorted" ps) [a] [] pos) (tCl Af t):=⟨Dl.j6 (hm:=hm) (ha:=ha.h) (hg:=hg) (he:=he) (hpl:=hpl)⟩
def uJ(hu:X.A.units+64<cLine)(ha:WD X a ta)(hb:WD X b tb)(hm:behindInMarks .In b=false:=by rfl):WDT X (.Compare a [.In] [b] pos) (dD (t2 (gIn false) ta tb)):=⟨Dl.uJ (hu:=hu) (ha:=ha.h) (hb:=hb.h) (hm:=hm)⟩
def mK(hu:X.A.units+64<cLine)(ha:WD X a ta)(hb:WD X b tb)(hm:behindInMarks .NotIn b=false:=by rfl):WDT X (.Compare a [.NotIn] [b] pos) (dD (t2 (gIn true) ta tb)):=⟨Dl.mK (hu:=hu) (ha:=ha.h) (hb:=hb.h) (hm:=hm)⟩
def cU :WDO X none Oi:=⟨Dl.cU ⟩
def cT(h:WD X e te):WDO X (some e) (Oh te):=⟨Dl.cT (h:=h.h)⟩
def qt(ha:WD X a ta):WD X (.UnaryOp .USub a pos) (S6 ta):=⟨Dl.qt (ha:=ha.h)⟩
def dc{f:List D->(D->Prop)->Prop}(C:Cal X.prog X.w X.K X.mg X.base k x ps (spD f))(hr:Room j X.A)(ha:WDA X (e::es) t)(hk:k<=j:=by decide)(hg:Gl X x:=by rfl)(hdb:zB x:=by decide)(he:zS X e es:=by rfl)(hpl:zP X pos es:=by rfl):WD X (.Call (.Name x p) (e::es) [] pos) (tFn f t):=⟨Dl.dc (C:=C) (hr:=hr) (ha:=ha.h) (hk:=hk) (hg:=hg) (hdb:=hdb) (he:=he) (hpl:=hpl)⟩
def dv(i:Nat){x:Str}{pos:Pos}(hN:X.N[i]?=some x:=by rfl)(hv:Vis X.env.scope x:=by first|exact Ń rfl|exact Or.inr (Ń rfl)|exact Or.inr (Or.inr rfl))(hd:zB x:=by decide)(hcd:(x == ("__classdict__":Str))=false:=by decide):WD X (.Name x pos) (tV i):=⟨Dl.dv (i:=i) (hN:=hN) (hv:=hv) (hd:=hd) (hcd:=hcd)⟩
def uI(ha:WD X a ta)(hb:WD X b tb):WDT X (.Compare a [.Is] [b] pos) (dD (t2 Jp ta tb)):=⟨Dl.uI (ha:=ha.h) (hb:=hb.h)⟩
def dcF[Gr]{f:FX}{t:DA}(C:Cal1 X.prog X.w X.K X.mg X.base k x ps (spX f))(hr:Room j X.A)(ha:WDA X (e::es) t)(hk:k<=j:=by decide)(hg:Gl X x:=by rfl)(hdb:zB x:=by decide)(he:zS X e es:=by rfl)(hpl:zP X pos es:=by rfl):WD X (.Call (.Name x p) (e::es) [] pos) (Pg f (λ_=>False) t):=⟨Dl.dcF (C:=C) (hr:=hr) (ha:=ha.h) (hk:=hk) (hg:=hg) (hdb:=hdb) (he:=he) (hpl:=hpl)⟩
def Hg(ha:WD X a ta)(hb:WD X b tb)(hs:lY b:=by exact λ_ _=>rfl):WD X (.Subscript a b pos) (t2 gIx ta tb):=⟨Dl.Hg (ha:=ha.h) (hb:=hb.h) (hs:=hs)⟩
def uN(ha:WD X a ta)(hb:WD X b tb):WD X (.BinOp a .Add b pos) (t2 Jo ta tb):=⟨Dl.uN (ha:=ha.h) (hb:=hb.h)⟩
def qj(ha:WD X a ta)(hb:WD X b tb):WD X (.BinOp a .Mult b pos) (t2 Ae ta tb):=⟨Dl.qj (ha:=ha.h) (hb:=hb.h)⟩
def zq(hu:X.A.units+64<cLine)(ha:WD X a ta)(hb:WD X b tb):WD X (.Compare a [.Eq] [b] pos) (t2 (iR false) ta tb):=⟨Dl.zq (hu:=hu) (ha:=ha.h) (hb:=hb.h)⟩
def yZ(hu:X.A.units+64<cLine)(ha:WD X a ta)(hb:WD X b tb):WD X (.Compare a [.NotEq] [b] pos) (t2 (iR true) ta tb):=⟨Dl.yZ (hu:=hu) (ha:=ha.h) (hb:=hb.h)⟩
def uK(hu:X.A.units+64<cLine)(ha:WD X a ta)(hb:WD X b tb):WDT X (.Compare a [.Eq] [b] pos) (dD (t2 (iR false) ta tb)):=⟨Dl.uK (hu:=hu) (ha:=ha.h) (hb:=hb.h)⟩
def uG(hu:X.A.units+64<cLine)(ha:WD X a ta)(hb:WD X b tb):WDT X (.Compare a [.NotEq] [b] pos) (dD (t2 (iR true) ta tb)):=⟨Dl.uG (hu:=hu) (ha:=ha.h) (hb:=hb.h)⟩
def lO{rest:List Stmt}(js:List Nat)(h:WDSs X rest t):WDSs X rest (Ai js t):=⟨Dl.lO (js:=js) (h:=h.h)⟩
def o7 :WD X (.Dict [] [] pos) (λ_ P=>P .new (.dict [])):=⟨Dl.o7 ⟩
def gF{ps ps':Pos}(hc:X.calm=true)(hml:X.mg "list"=none)(hmr:X.mg "range"=none)(ha:WDA X [a] t)(hgl:Gl X "list":=by rfl)(hgr:Gl X "range":=by rfl)(he:zS X a []:=by rfl)(hpl:(backTo pos' (starEach [] X.env)).any (·.1)=false:=by rfl)(he2:starEach [.Call (.Name "range" ps') [a] [] pos'] X.env=(false,eval (.Call (.Name "range" ps') [a] [] pos') X.env)::starEach [] X.env:=by rfl)(hpl2:zP X pos []:=by rfl):WD X (.Call (.Name "list" ps) [.Call (.Name "range" ps') [a] [] pos'] [] pos) (S7 t):=⟨Dl.gF (hc:=hc) (hml:=hml) (hmr:=hmr) (ha:=ha.h) (hgl:=hgl) (hgr:=hgr) (he:=he) (hpl:=hpl) (he2:=he2) (hpl2:=hpl2)⟩
def zm(N:List Str)(sc:Scope)(tm:Tm)(h:okT N sc tm e=true)(hN:X.N=N:=by rfl)(hs:X.env.scope=sc:=by rfl)(s:smT tm=true:=by decide +kernel):WD X e (Pb tm):=⟨Dl.zm (N:=N) (sc:=sc) (tm:=tm) (h:=h) (hN:=hN) (hs:=hs) (s:=s)⟩
def oW(n:Nat)(N:List Str)(sc:Scope)(ts:Tms){t2:DA}(h2:WDA X (es.drop n) t2)(h:jJ N sc ts (es.take n)=true)(hN:X.N=N:=by rfl)(hs:X.env.scope=sc:=by rfl)(s:jw 1000 ts=true:=by decide +kernel):WDA X es (R6 ts t2):=⟨Dl.oW (n:=n) (N:=N) (sc:=sc) (ts:=ts) (h2:=h2.h) (h:=h) (hN:=hN) (hs:=hs) (s:=s)⟩
def wK{lo hi:Option Expr}{tl th:DO}(he:WD X e te)(hl:WDO X lo tl)(hh:WDO X hi th):WD X (.Subscript e (.Slice lo hi none p2) pos) (Sy te tl th):=⟨Dl.wK (he:=he.h) (hl:=hl.h) (hh:=hh.h)⟩
def oX{ps:Pos}(hc:X.calm=true)(hm:X.mg "min"=none)(ha:WDA X [a] t)(hg:Gl X "min":=by rfl)(he:zS X a []:=by rfl)(hpl:zP X pos []:=by rfl):WD X (.Call (.Name "min" ps) [a] [] pos) (tCl (Ew (λi j=>if j<i then j else i) (λM a=>M<=a)) t):=⟨Dl.oX (hc:=hc) (hm:=hm) (ha:=ha.h) (hg:=hg) (he:=he) (hpl:=hpl)⟩
def oY{ps:Pos}(hc:X.calm=true)(hm:X.mg "max"=none)(ha:WDA X [a] t)(hg:Gl X "max":=by rfl)(he:zS X a []:=by rfl)(hpl:zP X pos []:=by rfl):WD X (.Call (.Name "max" ps) [a] [] pos) (tCl (Ew (λi j=>if j > i then j else i) (λM a=>a<=M)) t):=⟨Dl.oY (hc:=hc) (hm:=hm) (ha:=ha.h) (hg:=hg) (he:=he) (hpl:=hpl)⟩
def zu{ps:Pos}(hc:X.calm=true)(hm:X.mg "any"=none)(ha:WDA X [a] t)(hg:Gl X "any":=by rfl)(he:zS X a []:=by rfl)(hpl:zP X pos []:=by rfl):WD X (.Call (.Name "any" ps) [a] [] pos) (tCl Ru t):=⟨Dl.zu (hc:=hc) (hm:=hm) (ha:=ha.h) (hg:=hg) (he:=he) (hpl:=hpl)⟩
end
section
def qY{Hb:Hp}{t:DA}{C:Addr}{E:XK}{x:Str}{pos:Pos}{e:Expr}{es:List Expr}{newId Bn initId:String}{bmB:List Value}{np cpos:Pos}(L:Lets X E)(hc:X.calm=true)(hg:Gl X x)(hm:X.mg x=some (.ref C))(hx:ExcCls X.K C newId bmB)(B:ExcBaseFacts Bn newId initId bmB)(ha:@WDA (grX Hb) X (e::es) t)(hdb:zB x:=by decide)(he:zS X e es:=by rfl)(hpl:(backTo cpos (starEach (e::es) X.env)).any (·.1)=false:=by rfl)(hcons:backTo cpos (starEach (e::es) X.env)=(false,eval e X.env)::backTo cpos (starEach es X.env):=by rfl) :
  @WDS (grX Hb) X (.Raise (some (.Call (.Name x np) (e::es) [] cpos)) none pos) (JM (Rz E Hb) C t):=@WDS.mk (grX Hb) _ _ _ (Dl.qY L hc hg hm hx B (@WDA.h (grX Hb) _ _ _ ha) hdb he hpl hcons)
def bI[Gr]{T:String}{x:Str}{e:Expr}{te:DE}{ps pt pos:Pos}(hk:∀t:Value,(t=.type "NoneType"\/t=.type "bool"\/t=.type "int"\/t=.type "str"\/t=.type "list"\/t=.type "tuple"\/t=.type "dict")->∃n,t=.type n/\Ŕ X.K t (.type T)=some (n == T || (T == "int"&&n == "bool")))(hm:X.mg "isinstance"=none)(he:WD X e te)(hT:WC X (.Name x pt) (.ty T))(hg:Gl X "isinstance":=by rfl)(h1:starEach [e,.Name x pt] X.env=(false,eval e X.env)::starEach [.Name x pt] X.env:=by rfl)(h2:starEach [.Name x pt] X.env=(false,eval (.Name x pt) X.env)::starEach [] X.env:=by rfl)(hpl:(backTo pos (starEach [.Name x pt] X.env)).any (·.1)=false:=by rfl) :
  WD X (.Call (.Name "isinstance" ps) [e,.Name x pt] [] pos) (tIs T te):=⟨Dl.bI hk hm he.h hT.h hg h1 h2 hpl⟩
def uO[Gr]{x y:Str}{ps pt pt' pp pos:Pos}{kk:Nat}{e:Expr}{te:DE}(hm:X.mg "isinstance"=none)(he:WD X e te)(hT:WC X (.Name x pt) (.ty "list"))(hT':WC X (.Name y pt') (.ty "tuple"))(hg:Gl X "isinstance":=by rfl)(h1:starEach [e,.Tuple [.Name x pt,.Name y pt'] kk pp] X.env=(false,eval e X.env)::starEach [.Tuple [.Name x pt,.Name y pt'] kk pp] X.env:=by rfl)(h2:starEach [.Tuple [.Name x pt,.Name y pt'] kk pp] X.env=(false,eval (.Tuple [.Name x pt,.Name y pt'] kk pp) X.env)::starEach [] X.env:=by rfl)(h3:starEach [.Name x pt,.Name y pt'] X.env=(false,eval (.Name x pt) X.env)::starEach [.Name y pt'] X.env:=by rfl)(h4:starEach [.Name y pt'] X.env=(false,eval (.Name y pt') X.env)::starEach [] X.env:=by rfl)(hpl:(backTo pos (starEach [.Tuple [.Name x pt,.Name y pt'] kk pp] X.env)).any (·.1)=false:=by rfl) :
  WD X (.Call (.Name "isinstance" ps) [e,.Tuple [.Name x pt,.Name y pt'] kk pp] [] pos) (S8 te):=⟨Dl.uO hm he.h hT.h hT'.h hg h1 h2 h3 h4 hpl⟩
end
end Wr
set_option autoImplicit false
set_option autoImplicit true
namespace Wr
open PySem L2 PyProof.Rows Dl
section
variable [Gr] {X:Cx}{tj te:DE}
end
section
variable [Gr] {X:Cx}{tj te te1 te2 ta:DE}{t:DS}
end
end Wr
namespace Dl
open PySem L2 PyProof.Rows
section
variable {X:Cx}{pins:List (Addr×Obj)}{σ:L2.St}{H:Hp}{s:Shared}{ok ok':Addr->Prop}
mutual
def Rp.fD(I:Inv X pins σ H s):∀{v:V}{d:D}{u:Value},Rp ok H v d->RelV v u->∃as,Reads s.heap u d as/\∀a∈as,H a≠none
 |_,_,_,.non,r=>by cases r;exact⟨_,.none,λ_ h=>nomatch h⟩
 |_,_,_,.bl b,r=>by cases r;exact⟨_,.bool b,λ_ h=>nomatch h⟩
 |_,_,_,.int i,r=>by obtain⟨t,rfl⟩:=r;exact⟨_,.int i t,λ_ h=>nomatch h⟩
 |_,_,_,.str x,r=>by obtain⟨t,rfl⟩:=r;exact⟨_,.str x t,λ_ h=>nomatch h⟩
 |_,_,_,.lst o h rs,r=>by
  cases r
  obtain⟨its,rv,pl,_⟩:=I.list (SqL.of h)
  obtain⟨as,ra,na⟩:=Rps.fD I rs rv
  obtain⟨ob,ho,hc,n,hd⟩:=pl.isList
  refine⟨_,.list ho hc hd (by simpa using ra),λb hb=>?_⟩
  rcases â.mp hb with rfl|hb
  ·rw[h];exact λz=>nomatch z
  ·exact na b hb
 |_,_,_,.tup h rs,r=>by
  cases r
  obtain⟨its,rv,pl,_⟩:=I.tuple (SqT.of h)
  obtain⟨as,ra,na⟩:=Rps.fD I rs rv
  obtain⟨ob,ho,hc,n,hd⟩:=pl
  exact⟨_,.tuple ho hc hd (by simpa using ra),na⟩
 |_,_,_,.dct (a:=a) (kvs:=kvs) (ds:=ds) o h rs,r=>by
  cases r
  obtain⟨_,_,vs,rel,ob,es,ep,ho,hc,hd,_,hp,_⟩:=U4 I.hok h
  obtain⟨as,bs,ra,rb,na⟩:=Rkv.fD I rs rel hp
  refine⟨_,.dict ho hc.1 hd ra rb,λb hb=>?_⟩
  rcases Ø.mp hb with hb|hb
  ·rcases â.mp hb with rfl|hb
   ·rw[h];exact λz=>nomatch z
   ·exact na b (.inl hb)
  ·exact na b (.inr hb)
def Rps.fD(I:Inv X pins σ H s):∀{v:List V}{d:List D}{u:List Value},Rps ok H v d->Vals v u->∃as,ReadsAll s.heap u d as/\∀a∈as,H a≠none
 |_,_,_,.nil,r=>by cases r;exact⟨[],.nil,λ_ h=>nomatch h⟩
 |_,_,_,.cons h t,r=>by
  cases r with
  |cons a b =>
   obtain⟨as,ra,na⟩:=Rp.fD I h a
   obtain⟨bs,rb,nb⟩:=Rps.fD I t b
   exact⟨_,.cons ra rb,λc hc=>(Ø.mp hc).elim (na c) (nb c)⟩
def Rkv.fD(I:Inv X pins σ H s):∀{kvs:List (Key×V)}{ds:List (D×D)}{vs:List (Key×Value)}{es:List DictEntry},Rkv ok H kvs ds->KV kvs vs->Pairs (jl X.prog X.w) es vs->∃as bs,ReadsAll s.heap (es.map (·.key)) (ds.map (·.1)) as/\ReadsAll s.heap (es.map (·.val)) (ds.map (·.2)) bs/\∀a,a∈as\/a∈bs->H a≠none
 |_,_,_,_,.nil,r,p=>by
  cases r
  cases p
  exact⟨[],[],.nil,.nil,λ_ h=>h.elim (λh=>nomatch h) λh=>nomatch h⟩
 |_,_,_,_,.cons h t,r,p=>by
  cases r with
  |cons a b =>
   cases p with
   |cons p1 p2 p3 =>
    obtain⟨a1,a2⟩:=a
    obtain⟨as,bs,ra,rb,nb⟩:=Rkv.fD I t b p3
    obtain⟨cs,rc,nc⟩:=Rp.fD I h a2
    have p1':Jd _ _=true:=p1
    rw[←a1] at p1'
    rw[←p2] at rc
    rcases aZ p1' with ⟨i,tk,e1,e2⟩|⟨x,tk,e1,e2⟩
    ·refine⟨_,_,.cons (as:=[]) ?_ ra,.cons rc rb,λc hc=>?_⟩
     ·dsimp only at e1 ⊢;rw[e2,e1]
      exact .int i tk
     ·rcases hc with hc|hc
      ·exact nb c (.inl hc)
      ·exact(Ø.mp hc).elim (nc c) λz=>nb c (.inr z)
    ·refine⟨_,_,.cons (as:=[]) ?_ ra,.cons rc rb,λc hc=>?_⟩
     ·dsimp only at e1 ⊢;rw[e2,e1]
      exact .str x tk
     ·rcases hc with hc|hc
      ·exact nb c (.inl hc)
      ·exact(Ø.mp hc).elim (nc c) λz=>nb c (.inr z)
end
mutual
def Rp.jD(f:∀a o,ok a->((∀xs,o≠.tup xs)/\¬Fxd o)->H a=some o->ok' a):∀{v:V}{d:D},Rp ok H v d->Rp ok' H v d
 |_,_,.non=>.non
 |_,_,.bl b=>.bl b
 |_,_,.int i=>.int i
 |_,_,.str x=>.str x
 |_,_,.lst o h r=>.lst (f _ _ o ⟨(λ_ z=>by cases z),λ⟨_,_,z⟩=>by cases z⟩ h) h (Rps.jD f r)
 |_,_,.tup h r=>.tup h (Rps.jD f r)
 |_,_,.dct o h r=>.dct (f _ _ o ⟨(λ_ z=>by cases z),λ⟨_,_,z⟩=>by cases z⟩ h) h (Rkv.jD f r)
def Rps.jD(f:∀a o,ok a->((∀xs,o≠.tup xs)/\¬Fxd o)->H a=some o->ok' a):∀{v:List V}{d:List D},Rps ok H v d->Rps ok' H v d
 |_,_,.nil=>.nil
 |_,_,.cons h r=>.cons (Rp.jD f h) (Rps.jD f r)
def Rkv.jD(f:∀a o,ok a->((∀xs,o≠.tup xs)/\¬Fxd o)->H a=some o->ok' a):∀{v:List (Key×V)}{d:List (D×D)},Rkv ok H v d->Rkv ok' H v d
 |_,_,.nil=>.nil
 |_,_,.cons h r=>.cons (Rp.jD f h) (Rkv.jD f r)
end
end
def Ln(d:D):Prop:=d.showable=true/\d.depth<=50/\d.shown.length<=sizeLine
def yr(base:Heap):Prop:=∃o,base.get? sysModules=some o
section
variable {X:Cx}{pos:Pos}{a e:Expr}{te:DE}{t:DA} [Gr]
def Ao(hS:yr X.base)(hg:X.A.guards=some [])(hu:X.A.units+64<cLine):bC X (.builtin "repr") (λxs H Q=>∃ok v d,xs=[v]/\Rp ok H v d/\Ln d/\Q (.str d.shown) H):=by
 intro pins s σ H xs us Q I r h
 obtain⟨ok,v,d,rfl,rd,⟨o2,o3,o4⟩,q⟩:=h
 obtain⟨u,rfl,r1⟩:=vals1 r
 have fin:∀(x:Str) (tk:Tok),x=d.shown->EP X pins σ Q (.str x tk) { s with toks:=s.toks+1 }:=λx tk e=>by subst e;exact⟨.str d.shown,H,I.tok _,⟨tk,rfl⟩,q⟩
 have big:∀a,v=.ref a->wpAny (model X.prog X.w) X.A (call (.builtin "repr") [u]) (EP X pins σ Q) X.xe s:=λa ea=>by
  subst ea
  obtain⟨as,ra,na⟩:=rd.fD I r1
  cases r1
  obtain⟨o,ho⟩:=hS
  refine repr_of_reads' (h₀:=s.heap) ra o2 (λ_ hm=>na _ hm (I.bs _ _ ho).2) hg (by omega) (λ_ _ e=>e) (λh' u tk k=>?_) o4
  exact⟨.str d.shown,H,I.kept k,⟨_,rfl⟩,q⟩
 cases rd with
 |non=>cases r1;exact PySem.P.repr_of_none (fin _ _ rfl)
 |bl b=>cases r1;exact PySem.P.repr_of_bool (fin _ _ (by cases b <;> rfl))
 |int i =>
  obtain⟨t,rfl⟩:=r1
  exact PySem.P.repr_of_int (of_decide_eq_true o2) (fin _ _ rfl)
 |str x =>
  obtain⟨t,rfl⟩:=r1
  exact PySem.P.repr_of_str (fin _ _ rfl) o4
 |lst o h rs=>exact big _ rfl
 |tup h rs=>exact big _ rfl
 |dct o h rs=>exact big _ rfl
def Jm:GC:=λks P=>∃k d,ks=[(k,d)]/\Ln d/\P .imm (.str d.shown)
def j7{ps:Pos}(hS:yr X.base)(hgd:X.A.guards=some [])(hu:X.A.units+64<cLine)(hm:X.mg "repr"=none)(ha:PDA X [a] t)(hg:Gl X "repr":=by rfl)(he:zS X a []:=by rfl)(hpl:zP X pos []:=by rfl):PD X (.Call (.Name "repr" ps) [a] [] pos) (tCl Jm t) :=
 cM (Ao hS hgd hu) (by
  intro p H0 own Hb H vs ks P Q A r t q
  obtain⟨k,d,rfl,o,t⟩:=t
  obtain⟨v,rfl,r'⟩:=dN r
  exact⟨_,v,d,rfl,r',o,q _ _ _ _ t Kp.refl A.pen (.str _)⟩) hg hm boot_repr ha (by decide) (by decide) he hpl
end
section
variable [Gr]
abbrev DR:=(D->Prop)->List Sl->Prop
structure WishR(p:Pn)(own:Addr->Option Nat)(H:Hp)(P:D->Prop)(Q:Ends):Prop where
 rt:∀d v H',P d->p.PI H'->(∀b o,H b=some o->¬p.fp b->own b=none->H' b=some o)->Rp (λa=>¬p.fp a) H' v d->Q.rt v H'
def Ul(t:DR):TS:=λQ σ H=>∃p H0 own ρ P,EnvD p H0 own σ H ρ/\t P ρ/\WishR p own H P Q
structure WR(X:Cx)(ss:List Stmt)(t:DR):Prop where
 h:PSs X ss (Ul t)
def VG(te:DE):DR:=λP ρ=>te ρ λ_ d=>P d
variable {X:Cx}{pos:Pos}{e:Expr}{te:DE}{st:Stmt}{rest:List Stmt}{t:DS}{u:DR}
def Bm{p:Pn}{H0 Hb H H2:Hp}{own:Addr->Option Nat}(A:At p H0 own Hb H):∀{vs:List V}{ks:List (Kd×D)},RpK p H0 own Hb H2 vs ks->(ks.all λk=>k.1.le .shr)=true->Rps (okK p H0 own Hb .shr) H2 vs (ks.map (·.2))
 |_,_,.nil,_=>.nil
 |_,_,.cons h t,q=>by
  rw[ŷ,Î] at q
  exact .cons (iw A q.1 h) (Bm A t q.2)
variable {k j:Nat}{x:Str}{ps:List Str}{es:List Expr}{ta:DA}{p:Pos}
end
end Dl
namespace Wr
open PySem L2 PyProof.Rows Dl
variable [Gr] {X:Cx}{pos:Pos}{a:Expr}{t:DA}
def j7{ps:Pos}(hS:yr X.base)(hgd:X.A.guards=some [])(hu:X.A.units+64<cLine)(hm:X.mg "repr"=none)(ha:WDA X [a] t)(hg:Gl X "repr":=by rfl)(he:zS X a []:=by rfl)(hpl:zP X pos []:=by rfl):WD X (.Call (.Name "repr" ps) [a] [] pos) (tCl Jm t):=⟨Dl.j7 hS hgd hu hm ha.h hg he hpl⟩
end Wr
namespace Dl
open PySem L2 PyProof.Rows
variable [Gr]
section
variable {X:Cx}{pos:Pos}{st:Stmt}{rest:List Stmt}{t u:DS}{te tj t1 t2:DE}
end
end Dl
namespace Wr
open PySem L2 PyProof.Rows Dl
section
variable [Gr] {X:Cx}{tj te t1 t2:DE}{t u:DS}
end
end Wr
set_option autoImplicit false
namespace L2
open PySem PySem.Spec PyProof.Rows
def Vd(X:Cx)(hs:List ExceptHandler)(pins:List (Addr×Obj))(D:Ends):Value->Shared->Prop:=λe s₁=>wpAny (model X.prog X.w) X.A (noteFrame e X.env) (λ_ s₂=>wpAny (model X.prog X.w) X.A (setFlight e none) (λ_ s₃=>wpAny (model X.prog X.w) X.A (handleBy e X.env hs) (SP X pins D) X.xe s₃) X.xe s₂) X.xe s₁
def PB(X:Cx)(hs:List ExceptHandler)(st:List Stmt)(t:TS):Prop:=∀(pins:List (Addr×Obj)) (s:Shared) (σ:St) (H:Hp) (D:Ends),Inv X pins σ H s->t D σ H->∀Q:Flow->Shared->Prop,(∀s' σ' H',Inv X pins σ' H' s'->D.nx σ' H'->Q .next s')->wpAny (model X.prog X.w) X.A (execs st X.env) Q (Vd X hs pins D) s
section
variable {X:Cx}{k:Nat}{f CF:Addr}{fd:FuncData}{ps:List Str}{sp:Sp}{E:XK}{x hx n:Str}{p np cpos epos hpos pos:Pos}{e:Expr}{es:List Expr}{t:TA}{b₀:Stmt}{suite:List Stmt}{ts:TS}{j:Nat}
def N8{c:Expr}{a b:List Stmt}{tc:TT}{t u:TS}{hs:List ExceptHandler}(hc:PT X.nox c tc)(ha:PB X hs a t)(hb:PB X hs b u):PB X hs [.If c a b pos] (S9 tc t u):=by
 intro pins s σ H D I h Q hQ
 refine wpAny_execs_cons (wpAny_If (ĩ (hc pins s σ H _ (I.wish _) h) (λd s1 ⟨H1,I1,q1⟩=>?_) λ_ _ z=>è z))
 have I1:=I1.fC
 cases d with
 |true=>exact ha pins s1 σ H1 D I1 q1 _ λs' σ' H' I' q'=>ţ (hQ _ _ _ I' q')
 |false=>exact hb pins s1 σ H1 D I1 q1 _ λs' σ' H' I' q'=>ţ (hQ _ _ _ I' q')
def Ky{body:List Stmt}{h₀:ExceptHandler}{hs:List ExceptHandler}{t:TS}(h:PB X (h₀::hs) body t):PS X (.Try body (h₀::hs) [] [] pos) t:=λpins s σ H D I q=>wpAny_Try_except (h pins s σ H D I q _ λs' σ' H' I' q'=>ţ ⟨σ',H',I',q'⟩)
end
section
variable {X:Cx}{k:Nat}{f CF:Addr}{fd:FuncData}{ps:List Str}{sp:Sp}{E:XK}{x hx n:Str}{p np cpos epos hpos pos:Pos}{e:Expr}{es:List Expr}{t:TA}{b₀:Stmt}{suite:List Stmt}{ts:TS}{j:Nat}
end
end L2
namespace Dl
open PySem L2 PyProof.Rows
section
variable [Gr] {X:Cx}{pos:Pos}{a:Expr}{t:DA}
def boot_str:bootBuiltins "str"=some (.type "str"):=by decide +kernel
def Jl:GC:=λks P=>match ks with
 |[(_,.int i)]=>i.natAbs.log2<1920/\P .imm (.str (toString i))
 |_=>False
def uL{ps:Pos}(hm:X.mg "str"=none)(ha:PDA X [a] t)(hg:Gl X "str":=by rfl)(he:zS X a []:=by rfl)(hpl:zP X pos []:=by rfl):PD X (.Call (.Name "str" ps) [a] [] pos) (tCl Jl t) :=
 j8 vM (by
  intro p H0 own Hb H vs ks P Q A r t q
  unfold Jl at t
  split at t
  ·rename_i k i
   obtain⟨v,rfl,r'⟩:=dN r
   rw[r'.int']
   exact⟨i,rfl,t.1,q _ _ _ _ t.2 Kp.refl A.pen (.str _)⟩
  ·exact t.elim) hg hm boot_str ha (by decide) (by decide) he hpl
end
end Dl
namespace Wr
open PySem L2 PyProof.Rows Dl
section
variable [Gr] {X:Cx}{pos:Pos}{a:Expr}{t:DA}
def uL{ps:Pos}(hm:X.mg "str"=none)(ha:WDA X [a] t)(hg:Gl X "str":=by rfl)(he:zS X a []:=by rfl)(hpl:zP X pos []:=by rfl):WD X (.Call (.Name "str" ps) [a] [] pos) (tCl Jl t):=⟨Dl.uL hm ha.h hg he hpl⟩
end
end Wr
namespace Dl
open PySem L2 PyProof.Rows
structure Ext(p q:Pn):Prop where
 pv:q.pv=p.pv
 fp:∀a,p.fp a->q.fp a
 pi:∀H,q.PI H->p.PI H
 go:∀H H',q.PI H->Kp p H H'->p.PI H'->q.PI H'
def CE(C:Pn->Prop)(q:Pn):Prop:=∃p,C p/\Ext p q
section
variable [Gr]
def CP{C:Pn->Prop}{p:Pn}{H:Hp}{N:List Str}{vs':List V}{ds:List D}(g:Gr.G p H)(c:C p)(pi:p.PI H)(r:Rps (λa=>¬p.fp a) H vs' ds):EnvD p H (λ_=>none) (L2.start N (p.pv::vs')) H (.pen C::(ds.map aB++Ë (N.length - (ds.length+1)) .any)):=by
 have E0:=nq (p:=p) (N:=N.drop 1) g pi r
 refine⟨λ_ _ e _=>e,pi,(λ_ _ e=>nomatch e),λj s e=>?_,by unfold L2.start;simp[r.length],g⟩
 cases j with
 |zero =>
  have e:=Ý e
  subst e
  exact⟨rfl,c⟩
 |succ j =>
  rw[Ž] at e
  have hl:N.length - (ds.length+1)=(N.drop 1).length - vs'.length:=by rw[r.length,ě];omega
  rw[hl] at e
  have q:=E0.slot j s e
  have es:(L2.start N (p.pv::vs'))[j+1]?=(L2.start (N.drop 1) vs')[j]?:=by
   unfold L2.start
   have:N.length - (p.pv::vs').length=(N.drop 1).length - vs'.length:=by rw[ě,ç];omega
   rw[this]
   simp
  cases s <;> simp only[gR,es] at q ⊢ <;> exact q
def rIf(tc:DT)(t u:DR):DR:=λP ρ=>tc ρ λb=>if b=true then t P ρ else u P ρ
variable {X:Cx}{pos:Pos}{c:Expr}{a rest:List Stmt}{tc:DT}{t u:DR}
variable {k j i:Nat}{x y:Str}{ps:List Str}{es:List Expr}{ta:DA}{pp py:Pos}
end
end Dl
namespace L2
open PySem PySem.Spec PyProof.Rows Builtin
section
variable {X:Cx}
end
end L2
namespace Dl
open PySem L2 PyProof.Rows
section
variable [Gr]
variable {X:Cx}{pos:Pos}{a b e:Expr}{ta tb te:DE}{p1 p2 p3:Pos}
end
end Dl
namespace Wr
open PySem L2 PyProof.Rows Dl
section
variable [Gr] {X:Cx}{pos:Pos}{a b e:Expr}{ta tb te:DE}{p1 p2 p3:Pos}
end
end Wr
namespace L2
open PySem PySem.Spec PyProof.Rows Builtin
section
variable {X:Cx}
end
end L2
namespace Dl
open PySem L2 PyProof.Rows
section
variable [Gr] {X:Cx}{pos p2:Pos}{a b e:Expr}{t:DA}{ta tb te:DE}
end
end Dl
namespace Wr
open PySem L2 PyProof.Rows Dl
section
variable [Gr] {X:Cx}{pos p2:Pos}{a b e:Expr}{t:DA}{ta tb te:DE}
end
end Wr
namespace Dl
open PySem L2 PyProof.Rows
variable [Gr]
section
variable {X:Cx}{st st2:Stmt}{rest:List Stmt}{te1 te2:DE}{tt:DT}{tr:TS}{t:DS}
end
section
variable {X:Cx}{own:List Str}{scope:Scope}{tg iter elt:Expr}{ifs:List Expr}{pos:Pos}{g:DG}{tt:DT}{te:DE}
end
end Dl
namespace Wr
open PySem L2 PyProof.Rows Dl
variable [Gr]
section
variable {X:Cx}{te1 te2:DE}{tt:DT}{tr:TS}{t:DS}
end
end Wr
namespace PySem
open PySem.W PyProof.Rows PySem.Spec
section
variable {prog:Program}{w:World}{A:Around}{E:Value->Shared->Prop}{s:Shared}{it l:Addr}{items:Array Value}
end
end PySem
namespace L2
open PySem PySem.Spec PyProof.Rows
section
variable {X:Cx}
end
end L2
namespace Dl
open PySem L2 PyProof.Rows
section
variable [Gr] {X:Cx}{a:Expr}{t:DA}
end
end Dl
namespace Wr
open PySem L2 PyProof.Rows Dl
section
variable [Gr] {X:Cx}{a:Expr}{t:DA}
end
end Wr
namespace L2
open PySem PyProof.Rows
section
variable {X:Cx}{pins:List (Addr×Obj)}{σ:List (Option V)}{H:Hp}{s:Shared}
end
end L2
namespace Dl
open PySem L2 PyProof.Rows
variable [Gr]
section
variable {X:Cx}{pos pos':Pos}{a:Expr}{t:DA}
end
end Dl
namespace Wr
open PySem L2 PyProof.Rows Dl
section
variable [Gr] {X:Cx}{pos pos':Pos}{a:Expr}{t:DA}
end
end Wr
namespace L2
open PySem PySem.Spec PyProof.Rows
open PySem.AutoSeq1 (wpAny_loadPart')
open PySem.MeetsSeq PySem.MeetsSeq3
section
variable {prog:Program}{w:World}{A:Around}{E:Value->Shared->Prop}{s:Shared}
end
section
variable {X:Cx}
end
end L2
namespace Dl
open PySem L2 PyProof.Rows
section
variable {X:Cx}{pos:Pos}{a:Expr}{t:DA} [Gr]
end
end Dl
namespace L2
open PySem PySem.Spec PyProof.Rows
section
variable {prog:Program}{w:World}{A:Around}{E:Value->Shared->Prop}{s:Shared}
end
section
variable {X:Cx}
end
end L2
namespace Dl
open PySem L2 PyProof.Rows
section
variable {X:Cx}{pos:Pos}{a e:Expr}{t:DA} [Gr]
end
end Dl
namespace L2
open PySem PySem.Spec PyProof.Rows
open AutoSeq1 in
section
variable {X:Cx}
end
end L2
namespace Dl
open PySem L2 PyProof.Rows
variable [Gr]
section
variable {X:Cx}{st:Stmt}{te:DE}{pos:Pos}{ta:DA}
end
end Dl
namespace Wr
open PySem L2 PyProof.Rows Dl
section
variable [Gr] {X:Cx}{pos:Pos}{a:Expr}{ta t:DA}{te:DE}
end
end Wr
namespace Dl
open PySem L2 PyProof.Rows
variable [Gr]
section
variable {X:Cx}{st st2:Stmt}{rest:List Stmt}{tj te1 te2:DE}{tt:DT}{t:DS}{K:Ñ}
end
end Dl
namespace Wr
open PySem L2 PyProof.Rows Dl
section
variable [Gr] {X:Cx}{tj te1 te2:DE}
end
end Wr
namespace L2
open PySem PySem.Spec PyProof.Rows
structure LamScope(ps ys:List Str)(sc:Scope)(cl:List (Str×Addr)):Prop where
 kind:sc.kind=.function
 co:sc.isCoroutine=false
 gen:sc.isGenerator=false
 nd:(ps++ys).Nodup
 par:∀x∈ps,sc.names.lookup x=some .local
 fre:∀y∈ys,sc.names.lookup y=some .free
 nocell:∀x∈sc.names,x.2≠.cell
 all:∀x,sc.names.lookup x=some .free->∃c,cl.lookup x=some c
 inj:∀x y c,cl.lookup x=some c->cl.lookup y=some c->x=y
def cxL(CX:CXT)(P:Program)(w:World)(K:Ñ)(mg:Str->Option Value)(base:Heap)(N:List Str)(qual:Str)(scope:Scope)(f:Addr)(cd:Value)(cl:List (Str×Addr))(A:Around)(outer:List Env)(s:Shared)(H:Hp)(E:XK):Cx where
 prog:=P
 w:=w
 K:=K
 mg:=mg
 base:=base
 A:=A.deeper (W.envX qual scope s.heap.objs.size f cd cl)
 N:=N
 s₀:=s
 H₀:=H
 env:=W.envX qual scope s.heap.objs.size f cd cl
 outer:=outer
 stack:=W.envX qual scope s.heap.objs.size f cd cl::outer
 ex:=[]
 calm:=true
 fn:=λ_=>false
 pn:=[]
 xe:=λe s'=>wpAny (model P w) (A.deeper (W.envX qual scope s.heap.objs.size f cd cl)) (leaving (W.envX qual scope s.heap.objs.size f cd cl) e) (λ_ s''=>CX outer H s E e s'') (λe' s''=>CX outer H s E e' s'') s'
structure Caps(base:Heap)(cl:List (Str×Addr))(ys:List Str)(cvs:List V):Prop where
 len:cvs.length=ys.length
 cells:∀x c,cl.lookup x=some c->∃v,base.IsCell c v
 val:∀(j:Nat) (y:Str) (v:V),ys[j]?=some y->cvs[j]?=some v->∃c u,cl.lookup y=some c/\base.IsCell c (some u)/\RelV v u
def zZ{CX:CXT}{P:Program}{w:World}{K:Ñ}{mg:Str->Option Value}{base:Heap}{ps ys:List Str}{qual:Str}{scope:Scope}{f:Addr}{cd:Value}{cl:List (Str×Addr)}{A:Around}{outer:List Env}{s:Shared}{h1:Heap}{tk:Nat}{H:Hp}{E:XK}{us:List Value}{vs cvs:List V}(S:LamScope ps ys scope cl)(hd:A.handled=none)(e0:Env0 P w K mg base A outer s H)(hl:vs.length=ps.length)(r:Vals vs us)(C:Caps base cl ys cvs)(hn:h1.Ns s.heap.objs.size (λx=>(ps.zip us).reverse.lookup x))(hk:∀b o,s.heap.get? b=some o->h1.get? b=some o) :
  Inv (cxL CX P w K mg base (ps++ys) qual scope f cd cl A outer s H E) [] (start (ps++ys) (vs++cvs)) H { s with heap:=h1,toks:=tk }:=by
 have noA:∀b:Addr,b∉(cxL CX P w K mg base (ps++ys) qual scope f cd cl A outer s H E).ex:=λb z=>absurd (show b∈([]:List Addr) from z) (by simp)
 have bk:∀b o,base.get? b=some o->h1.get? b=some o:=λb o e=>hk b o (e0.bs b o e).1
 have cne:∀x c,cl.lookup x=some c->H c=none:=λx c e=>by
  obtain⟨v,o,ho,_⟩:=C.cells x c e
  exact(e0.bs c o ho).2
 refine⟨⟨e0.mod,S.kind,rfl,rfl,Ì _,S.inj,λy hy=>?_,(λy c z _=>(nomatch z)),λ_=>hd,Around.frames_deeper e0.frames,.inr ⟨rfl,rfl⟩,λb z=>absurd z (noA b),e0.bs,e0.bsz,λb _ _=>noA b,λb z=>absurd z (noA b),e0.gY,e0.frf,λq z=>nomatch (show q∈([]:List (Addr×Obj×HO)) from z)⟩,
  rfl,e0.bare,Un.kept hk,⟨_,hn,λi y v h1 h2 h3=>?_⟩,λy c h=>?_,e0.hok.fresh (Ì _),λy c h=>cne y c h,λp hp=>absurd (show p∈([]:List (Addr×Obj)) from hp) (by simp),e0.hok.kept hk,?_⟩
 ·have hy:scope.names.lookup y=some .cell\/scope.names.lookup y=some .free:=hy
  rcases hy with hy|hy
  ·exact absurd rfl (S.nocell _ (đ hy))
  ·exact S.all y hy
 ·have ha:(vs++cvs)[i]?=some v:=by
   unfold start at h2
   by_cases hi:i<(vs++cvs).length
   ·rw[ď (by simpa using hi),à] at h2
    cases e:(vs++cvs)[i]? with
    |none=>rw[e] at h2;cases h2
    |some a=>rw[e] at h2;cases h2;rfl
   ·rw[ù (by simpa using hi)] at h2
    rw[ĺ] at h2
    split at h2 <;> cases h2
  have h1:(ps++ys)[i]?=some y:=h1
  by_cases hi:i<ps.length
  ·rw[ď (by omega)] at h1 ha
   obtain⟨u,hu,rv⟩:=r.get ha
   have ndP:ps.Nodup:=(List.nodup_append.mp S.nd).1
   refine⟨u,rv,.inl ⟨S.par y (Ó h1),?_⟩⟩
   have rl:∀(l:List (Str×Value)) (x:Str) (u:Value),(l.map (·.1)).Nodup->(x,u)∈l->l.lookup x=some u:=λl x u=>by
    induction l with
    |nil=>intro _ z;cases z
    |cons p l ih =>
     intro nd z
     obtain⟨a,b⟩:=p
     rw[û,List.nodup_cons] at nd
     rcases â.mp z with z|z
     ·cases z;rw[ÿ];simp
     ·have:x≠a:=λe=>nd.1 (by rw[←e];exact Ă.mpr ⟨(x,u),z,rfl⟩)
      rw[ÿ,show(x == a)=false by simpa using this]
      exact ih nd.2 z
   refine rl _ _ _ ?_ (List.mem_reverse.mpr ?_)
   ·rw[List.map_reverse,List.map_fst_zip (by rw[←r.length,hl];exact Ì _)]
    exact List.pairwise_reverse.mpr (ndP.imp λh e=>h e.symm)
   ·exact Ó (i:=i) (by rw[List.getElem?_zip_eq_some];exact⟨h1,hu⟩)
  ·rw[ù (by omega)] at h1 ha
   rw[hl] at ha
   obtain⟨c,u,e,hc,rv⟩:=C.val _ _ _ h1 ha
   exact⟨u,rv,.inr ⟨.inr (S.fre y (Ó h1)),c,e,hc.keeps bk⟩⟩
 ·obtain⟨v,hc⟩:=C.cells y c h
  exact⟨v,hc.keeps bk⟩
 ·unfold start
  show _=(ps++ys).length
  rw[Ð,Ã,Ň,Ð,Ð,C.len,hl]
  omega
def U9(x:Obj)(qual:Str):Prop:=∃vs t,x.data=.fields vs/\vs[1]?=some (.str qual t)
def rD(H:Hp)(c':Addr)(qual:Str):Prop:=∃x φ,H c'=some (.frz x (.ext φ))/\U9 x qual
def Ry{CX:CXT}{P:Program}{w:World}{K:Ñ}{mg:Str->Option Value}{base:Heap}{k:Nat}{f c':Addr}{name qual:Str}{params:Arguments}{body:Expr}{scope:Scope}{pm ctv:Value}{cl:List (Str×Addr)}{ps ys:List Str}{cvs:List V}{sp:Sp}(lk:base.get? f=some (Ų name qual params body scope cl pm c' ctv))(hcd:∀vs H Q E,sp vs H Q E->rD H c' qual)(S:LamScope ps ys scope cl)(C:Caps base cl ys cvs)(len:∀vs H Q E,sp vs H Q E->vs.length=ps.length)(hbody:∀(A:Around) (outer:List Env) (s:Shared) (H:Hp) (vs:List V) (Q:VK) (E:XK),Room k (A.deeper (W.envX qual scope s.heap.objs.size f (.ref c') cl))->sp vs H Q E ->
   ∃t,PE (cxL CX P w K mg base (ps++ys) qual scope f (.ref c') cl A outer s H E) body t/\t (start (ps++ys) (vs++cvs)) H Q) :
  FnOk P w K mg base CX (k+1) f (W.kla_fn name qual params body scope cl pm (.ref c') ctv) ps sp:=by
 refine⟨len,λA outer s H args us vs Q E hr e0 hb r hsp=>?_⟩
 have hl:=len _ _ _ _ hsp
 have bk:∀b o,base.get? b=some o->s.heap.get? b=some o:=λb o e=>(e0.bs b o e).1
 have lim:s.heap.NoLimit:=e0.mod.nolimit.keeps bk
 have hcd':s.heap.CodeRec (.ref c') qual:=by
  obtain⟨x,φ,e,vs,t,h1,h2⟩:=hcd _ _ _ _ hsp
  exact⟨c',x,vs,t,rfl,(e0.hok _ _ e).1,h1,h2⟩
 refine W.kla_callFunE hr.depth (bk _ _ lk) rfl S.co S.gen rfl hcd' (hb _ _ _ _ ?_)
 have hloc:∀y∈ps.zip us,scope.names.lookup y.1=some .local:=λ⟨n,v⟩ hy=>S.par n (List.of_mem_zip hy).1
 refine wpAny_newFunctionEnv S.nocell hloc (λh₁ hns hsb=>?_) S.kind
 have hk₁:∀b o,s.heap.get? b=some o->h₁.get? b=some o:=λb o e=>hsb.extBut b o (ß (Ç e)) (Æ _ e)
 refine⟨lim.keeps hk₁,?_⟩
 show codeAny _ _ (.expr body (W.envX qual scope s.heap.objs.size f (.ref c') cl)) _ _
 obtain⟨t,ht,hq⟩:=hbody A outer s H vs Q E (hr.deeper _) hsp
 have I:Inv (cxL CX P w K mg base (ps++ys) qual scope f (.ref c') cl A outer s H E) [] (start (ps++ys) (vs++cvs)) H { s with heap:=h₁,toks:=s.toks+(ps.zip us).length }:=zZ S hr.hd e0 hl r C hns hk₁
 refine W.kla_codeExpr (ĩ (ht [] _ _ H _ I hq) (λu s' hs=>?_) λe s' hs=>hs)
 obtain⟨v,H',J,rv,q⟩:=hs
 exact⟨v,H',J.os,J.bare,J.base,J.hok,rv,q⟩
def reb(base h:Heap)(L:List Addr):Heap:=Ŵ h ((á h.objs.size).filter λb=>(base.get? b).isNone&&!decide (b∈L))
def uE{base h:Heap}{L:List Addr}{b:Addr}:b∉((á h.objs.size).filter λb=>(base.get? b).isNone&&!decide (b∈L))↔(h.objs.size<=b\/(∃o,base.get? b=some o)\/b∈L):=by
 rw[ġ,Ķ,Î,Option.isNone_iff_eq_none,ī,decide_eq_false_iff_not]
 constructor
 ·intro z
  by_cases h1:b<h.objs.size
  ·cases e:base.get? b with
   |some o=>exact .inr (.inl ⟨o,rfl⟩)
   |none =>
    by_cases h2:b∈L
    ·exact .inr (.inr h2)
    ·exact absurd ⟨h1,e,h2⟩ z
  ·exact .inl (Nat.le_of_not_lt h1)
 ·rintro(z|⟨o,z⟩|z) ⟨a,b,c⟩
  ·exact absurd a (Nat.not_lt.mpr z)
  ·rw[z] at b;cases b
  ·exact c z
def GD{base h:Heap}{L:List Addr}{b:Addr}{o:Obj}(e:h.get? b=some o)(m:b∈L):(reb base h L).get? b=some o:=W.hideAll_get _ e (uE.mpr (.inr (.inr m)))
def GF{base h:Heap}{L:List Addr}(bk:∀b o,base.get? b=some o->h.get? b=some o):∀b o,base.get? b=some o->(reb base h L).get? b=some o:=λb o e=>W.hideAll_get _ (bk b o e) (uE.mpr (.inr (.inl ⟨o,e⟩)))
def HS{base h:Heap}{L:List Addr}{b:Addr}{o:Obj}(e:(reb base h L).get? b=some o):h.get? b=some o/\((∃o,base.get? b=some o)\/b∈L):=by
 have e1:=W.of_hideAll _ e
 refine⟨e1,?_⟩
 have n:b∉((á h.objs.size).filter λb=>(base.get? b).isNone&&!decide (b∈L)):=λz=>by
  have:=W.hideAll_none (h:=h) _ z
  rw[show(Ŵ h ((á h.objs.size).filter λb=>(base.get? b).isNone&&!decide (b∈L))).get? b=some o from e] at this
  cases this
 exact(uE.mp n).resolve_left (λz=>absurd (Ç e1) (Nat.not_lt.mpr z))
def Mod.reb{K:Ñ}{mg:Str->Option Value}{base h:Heap}{L:List Addr}(m:Mod K mg base)(bk:∀b o,base.get? b=some o->h.get? b=some o):Mod K mg (reb base h L):=by
 have k:=GF (L:=L) bk
 obtain⟨mb,hb,hx⟩:=m.blt
 exact⟨m.kin.keeps k,m.glob.keeps k,⟨mb,hb.keeps k,hx⟩,m.nolimit.keeps k⟩
def Env0.reb{P:Program}{w:World}{K:Ñ}{mg:Str->Option Value}{base:Heap}{A:Around}{outer:List Env}{s:Shared}{H:Hp}{L:List Addr}(e:Env0 P w K mg base A outer s H)(hL:∀b∈L,H b=none)(hf:∀b∈L,b∉frs outer):Env0 P w K mg (reb base s.heap L) A outer s H:=by
 have bk:∀b o,base.get? b=some o->s.heap.get? b=some o:=λb o z=>(e.bs b o z).1
 refine⟨e.frames,e.mod.reb bk,λb o z=>?_,?_,?_,e.frf,e.hok,e.bare⟩
 ·obtain⟨h1,h2⟩:=HS z
  refine⟨h1,?_⟩
  rcases h2 with ⟨o',h2⟩|h2
  ·exact(e.bs b o' h2).2
  ·exact hL b h2
 ·unfold L2.reb
  rw[W.hideAll_size]
  exact Ì _
 ·have all:∀l:List Env,(∀b∈L,b∉frs l)->s.heap.FunFrames base l->s.heap.FunFrames (L2.reb base s.heap L) l:=by
   intro l
   induction l with
   |nil=>intro _ _;trivial
   |cons env r ih =>
    intro hs hl
    obtain⟨hk,⟨F,o,hf,hn,ho,hd⟩,hr⟩:=hl
    refine⟨hk,⟨F,o,hf,?_,ho,hd⟩,ih (λb hb z=>hs b hb ?_) hr⟩
    ·cases q:(L2.reb base s.heap L).get? F with
     |none=>rfl
     |some u =>
      obtain⟨_,h2⟩:=HS q
      rcases h2 with ⟨o',h2⟩|h2
      ·rw[hn] at h2;cases h2
      ·exact absurd (by unfold frs;rw[Ĭ,hf];exact Ö) (hs F h2)
    ·unfold frs at z ⊢
     rw[Ĭ,hf]
     exact Ô _ z
  exact all outer hf e.gY
section
variable {X:Cx}{CX:CXT}{k i:Nat}{f:Addr}{fd:FuncData}{ps:List Str}{sp:Sp}{E:XK}{x:Str}{p pos:Pos}{e:Expr}{es:List Expr}{t:TA}
end
def oE(P:Addr)(pos:Pos)(qual:Str)(H:Hp):Prop:=∃ps,H P=some (.tbl ps)/\(ps=#[]\/∃c',ps=#[rawInt pos.line,rawInt pos.col,.ref c']/\rD H c' qual)
def Va{h h':Heap}{L:Addr}{m:Str->Option Value}(x:h.Ns L m)(k:∀o,h.get? L=some o->h'.get? L=some o):h'.Ns L m:=by
 obtain⟨o,es,ep,ho,r⟩:=x
 exact⟨o,es,ep,k o ho,r⟩
section
variable {X:Cx}{pins:List (Addr×Obj)}{σ:St}{H:Hp}{s:Shared}{c P:Addr}{pos:Pos}{qual:Str}{params:Arguments}{body:Expr}{scope:Scope}{cl:List (Str×Addr)}{Q:Value->Shared->Prop}{E:Value->Shared->Prop}
def Ek(I:Inv X pins σ H s)(hq:X.env.qual++"<lambda>"=qual)(hdef:defaultsOf params X.env=([],[]))(hcl:closureFor scope X.env=pure cl)(hcode:X.env.code=.ref c)(hC:X.K.In X.base->W.CodeHd X.base c P)(hB:X.K.In X.base->X.base.BuiltinsAt X.mg P)(T:oE P pos qual H)(h:∀f c' ctv pm s' H',Inv X pins σ H' s'->oE P pos qual H'->rD H' c' qual->H' f=none->s'.heap.get? f=some (Ų "<lambda>" qual params body scope cl pm c' ctv)->f∉frs X.stack->(∀b o,H b=some o->b≠P->H' b=some o) ->
   (∀b o,s.heap.get? b=some o->H b=none->s'.heap.get? b=some o/\H' b=none)->Q (.ref f) s') :
  wpAny (model X.prog X.w) X.A (eval (.Lambda params body scope pos) X.env) Q E s:=by
 have hC:=hC I.ok.mod.kin
 have hB:=hB I.ok.mod.kin
 obtain⟨ps,hP,hps⟩:=T
 have hPh:s.heap.get? P=some (W.tabObj ps):=I.hok P _ hP
 have neP:∀b,H b=none->b≠P:=λb e z=>by rw[z,hP] at e;cases e
 have hgs:s.heap.Ns mainGlobals X.mg:=I.mod.glob.keeps I.bk
 have hgP:mainGlobals≠P:=by
  obtain⟨o,_,_,ho,_⟩:=I.mod.glob
  exact neP _ (I.bs _ _ ho).2
 have hB':s.heap.BuiltinsAt X.mg P:=by
  obtain⟨bm,o,h1,h2,h3,h4,h5,r⟩:=hB
  exact⟨bm,o,h1,h2,h3,h4,I.bk _ _ h5,r⟩
 have fsz:∀b,s.heap.objs.size<=b->b∉frs X.stack:=λb hb z=>by
  obtain⟨_,o,ho,_⟩:=I.stack.mem z
  exact absurd (Ç ho) (Nat.not_lt.mpr hb)
 refine W.kla_eval hdef ?_
 rw[hq]
 rcases hps with rfl|⟨c',rfl,kn⟩
 ·refine W.kla_makeFunction (mg:=X.mg) hcl I.ok.glob hgs hcode (hC.keeps I.bk) hPh (by trivial) (by rfl) hgP hB' λc' ctv h' tk hx hge hlt hrec htb=>?_
  obtain⟨c₂,oc,vs,t,e2,hoc,hd,hv⟩:=hrec
  cases e2
  have keep:∀b o,b≠P->s.heap.get? b=some o->(h'.push (Ų "<lambda>" qual params body scope cl ((X.mg "__name__").getD .none) c' ctv)).get? b=some o:=λb o n e=>Æ _ (hx b o n e)
  have hc0:H c'=none:=I.hok.fresh hge
  have cP:c'≠P:=neP c' hc0
  have cS:∀b o,s.heap.get? b=some o->b≠c':=λb o e z=>by subst z;exact absurd (Ç e) (Nat.not_lt.mpr hge)
  have htb':(h'.push (Ų "<lambda>" qual params body scope cl ((X.mg "__name__").getD .none) c' ctv)).get? P=some (W.tabObj (#[]++#[rawInt pos.line,rawInt pos.col,.ref c'])):=Æ _ htb
  have hoc':=Æ (Ų "<lambda>" qual params body scope cl ((X.mg "__name__").getD .none) c' ctv) hoc
  let H':Hp:=upd (upd H P (.tbl #[rawInt pos.line,rawInt pos.col,.ref c'])) c' (.frz oc (.ext λ_=>True))
  have u0:∀b,b≠P->b≠c'->H' b=H b:=λb h1 h2=>by show upd _ _ _ b=_;rw[ak h2,ak h1]
  have uP:H' P=some (.tbl #[rawInt pos.line,rawInt pos.col,.ref c']):=by show upd _ _ _ P=_;rw[ak (ă cP),ao]
  have uc:H' c'=some (.frz oc (.ext λ_=>True)):=ao
  have nc:∀b o,H b=some o->b≠c':=λb o e z=>by rw[z,hc0] at e;cases e
  have kn:rD H' c' qual:=⟨oc,_,uc,vs,t,hd,hv⟩
  have J:Inv X pins σ H' { s with heap:=h'.push (Ų "<lambda>" qual params body scope cl ((X.mg "__name__").getD .none) c' ctv),toks:=tk }:=by
   refine I.step (g':=s.gens) (d':=s.drawn) (ch:=[]) (λ_ z=>nomatch z) (λb o _ _ _ e n=>keep b o (neP b n) e) (λb o _ _ _ e n=>⟨o.slots,keep b o (neP b n) e⟩) (λb o _ e n=>by rw[u0 b (neP b n) (cS b o e)];exact n) (λb o _ e=>?_) (λb xs e=>?_) (λb o u e=>?_) (λb ps e=>?_) (λm hm=>Va hm λo e=>keep _ o (neP _ I.free) e) (λa o e=>?_) I.bare
   ·by_cases z:b=P
    ·subst z;exact⟨_,htb'⟩
    ·exact⟨o,keep b o z e⟩
   ·rw[u0 b (λz=>by rw[z,hP] at e;cases e) (nc b _ e)];exact e
   ·rw[u0 b (λz=>by rw[z,hP] at e;cases e) (nc b _ e)];exact e
   ·by_cases z:b=P
    ·subst z
     rw[hP] at e
     cases e
     exact⟨#[rawInt pos.line,rawInt pos.col,.ref c'],by rw[uP];simp⟩
    ·exact⟨#[],by rw[u0 b z (nc b _ e),e];simp⟩
   ·by_cases z:a=c'
    ·subst z
     rw[uc] at e
     cases e
     exact⟨hoc',trivial,⟨_,hoc'⟩,λ_ _ _ _=>trivial⟩
    ·by_cases z2:a=P
     ·subst z2
      rw[uP] at e
      cases e
      exact htb'
     ·rw[u0 a z2 z] at e
      have ow:∀b,H b=some (.own a)->b≠P:=λb q y=>by rw[y,hP] at q;cases q
      exact(I.hok a o e).stay (λb u hb q=>keep b u (hb.elim (λy=>y ▸ z2) (ow b)) q) (λb q=>by rw[u0 b (ow b q) (nc b _ q)];exact q) λb xs q=>by rw[u0 b (λy=>by rw[y,hP] at q;cases q) (nc b _ q)];exact q
  have hsz:s.heap.objs.size<=h'.objs.size:=Nat.le_of_lt (Nat.lt_of_le_of_lt hge hlt)
  have fP:h'.objs.size≠P:=λz=>absurd (Ç hPh) (Nat.not_lt.mpr (z ▸ hsz))
  refine h h'.objs.size c' ctv _ _ H' J ⟨_,uP,.inr ⟨c',rfl,kn⟩⟩ kn (by rw[u0 _ fP (ł hlt)];exact I.hok.fresh hsz) (Õ _ rfl) (fsz _ hsz) (λb o e n=>by rw[u0 b n (nc b _ e)];exact e) λb o e n=>⟨keep b o (neP b n) e,by rw[u0 b (neP b n) (cS b o e)];exact n⟩
 ·refine W.kla_makeFunctionHit (mg:=X.mg) (cv:=.ref c') hcl I.ok.glob hgs hcode (hC.keeps I.bk) hPh (by trivial) (codeAmong_snoc (pos:=pos) (c:=.ref c') [] trivial rfl) hB' λctv h' tk hk hsz=>?_
  have keep:∀b o,s.heap.get? b=some o->(h'.push { cls:=.type "function",data:=.func (W.kla_fn "<lambda>" qual params body scope cl ((X.mg "__name__").getD .none) (.ref c') ctv) }).get? b=some o:=λb o e=>Æ _ (hk b o e)
  exact h h'.objs.size c' ctv _ _ H (I.kept (t':=tk) keep) ⟨_,hP,.inr ⟨c',rfl,kn⟩⟩ kn (I.hok.fresh hsz) (Õ _ rfl) (fsz _ hsz) (λb o e _=>e) λb o e n=>⟨keep b o e,n⟩
end
structure LamAt(base:Heap)(f c':Addr)(qual:Str)(params:Arguments)(body:Expr)(scope:Scope)(cl:List (Str×Addr))(ys:List Str)(cvs:List V)(H:Hp):Prop where
 fn:∃pm ctv,base.get? f=some (Ų "<lambda>" qual params body scope cl pm c' ctv)
 caps:Caps base cl ys cvs
 kn:rD H c' qual
section
variable {X:Cx}{k:Nat}{fh c P:Addr}{fdh:FuncData}{ps ys:List Str}{sp:Heap->Sp}{x:Str}{p pos lpos:Pos}{e:Expr}{te:TE}{qual:Str}{params:Arguments}{body:Expr}{scope:Scope}{cl:List (Str×Addr)}
end
end L2
namespace Dl
open PySem L2 PyProof.Rows
def wJ(P:Addr)(pos:Pos)(qual:Str):Pn where
 fp:=λb=>b=P
 PI:=oE P pos qual
 pv:=.non
 mono:=λH H' ⟨ps,h,r⟩ k=>⟨ps,k _ _ (.inl rfl) h,r.imp id λ⟨c',e,x,φ,hc,cx⟩=>⟨c',e,x,φ,k _ _ (.inr ⟨x,φ,rfl⟩) hc,cx⟩⟩
 is:=λH b ⟨ps,h,_⟩ hb=>by
  subst hb
  exact⟨_,h,(λxs z=>(nomatch z)),λ⟨_,_,z⟩=>(nomatch z)⟩
def spT(T:Pn)(f:List D->(D->Prop)->Prop):Sp:=λvs H Q _=>∃ds P,T.PI H/\Rps (λa=>¬T.fp a) H vs ds/\f ds P/\∀d v H',P d->Kp T H H'->T.PI H'->Rp (λa=>H a=none) H' v d->Q v H'
def vd{T:Pn}{f:List D->(D->Prop)->Prop}{n:Nat}(hn:∀ds P,f ds P->ds.length=n:=by intro _ _ h;repeat (first|(obtain⟨rfl,_⟩:=h;rfl)|obtain⟨_,h⟩:=h)):∀vs H Q E,spT T f vs H Q E->vs.length=n:=λvs H Q E ⟨ds,P,_,r,t,_⟩=>by
 rw[r.length]
 exact hn ds P t
def Pn.plus(p T:Pn):Pn where
 fp:=λb=>p.fp b\/T.fp b
 PI:=λH=>p.PI H/\T.PI H
 pv:=p.pv
 mono:=λH H' h k=>⟨p.mono H H' h.1 λb o z e=>k b o (z.imp .inl id) e,T.mono H H' h.2 λb o z e=>k b o (z.imp .inr id) e⟩
 is:=λH b h z=>z.elim (p.is H b h.1) (T.is H b h.2)
section
variable [Gr] {X:Cx}{k j:Nat}{x:Str}{ps:List Str}{e:Expr}{es:List Expr}{t:DA}{p pos:Pos}{C:Pn->Prop}{T:Pn}{i:Nat}{f:List D->(D->Prop)->Prop}
end
section
variable {X:Cx}{k j:Nat}{x:Str}{ps:List Str}{e:Expr}{es:List Expr}{t:DA}{p pos:Pos}{Z:Hp->Prop}{i:Nat}{f:Addr}{fd:FuncData}{g:List D->(D->Prop)->Prop}
end
end Dl
namespace Wr
open PySem L2 PyProof.Rows Dl
variable {X:Cx}{k j:Nat}{x:Str}{ps:List Str}{e:Expr}{es:List Expr}{t:DA}{p pos:Pos}{Z:Hp->Prop}{i:Nat}{f:Addr}{fd:FuncData}{g:List D->(D->Prop)->Prop}
end Wr
namespace Dl
open PySem L2 PyProof.Rows
section
variable [Gr] {X:Cx}{st:Stmt}{i k a b:Nat}{f:List D->(D->Prop)->Prop}
end
end Dl
namespace Wr
open PySem L2 PyProof.Rows Dl
section
variable [Gr] {X:Cx}{i k a b lv j:Nat}{f:List D->(D->Prop)->Prop}{x g y z1 z2:Str}{ps:List Str}{apos cpos np pos gp gpos py px pa pb:Pos}
end
end Wr
namespace L2
open PySem PySem.Spec PyProof.Rows
def Ep{P:Program}{w:World}{K:Ñ}{mg mb:Str->Option Value}{k:Nat}{fa a c PT:Addr}{fd:FuncData}{x:Str}{sp:Sp}{s₁:Shared}{vs:List Value}{ns:List Int}(KX:K.In s₁.heap)(hKP:K.lookup PT=none)(hC:W.CodeHd s₁.heap c PT)(hPT:s₁.heap.get? PT=some (W.tabObj #[]))(hns:s₁.heap.Ns mainGlobals mg)(hb:s₁.heap.Ns builtinsNs mb)(hbb:∀x:Str,x≠"__name__"->mb x=bootBuiltins x)(hlim:s₁.heap.NoLimit)(hBm:s₁.heap.BuiltinsAt mg PT)(hg:s₁.gens=#[])(ha:s₁.heap.get? a=some { cls:=.type "list",data:=.seq vs.toArray })(hi:IntsAre vs ns)(hl:ns.length<=sizeLine)(hr:Room k callerA)(F:∀base:Heap,K.In base->base.Ns mainGlobals mg->base.BuiltinsAt mg PT->(∀(b:Addr) (m:Str->Option Value),s₁.heap.Ns b m->base.Ns b m)->FnOk P w K mg base CX0 k fa fd [x] sp)(hbind:∀(s:Shared) (u:Value),BindsTo s fd ⟨[u],[]⟩ [(x,u)])(hsp:∀H:Hp,SqL K H a (ns.map V.int)->H PT=some (.tbl #[])->sp [.ref a] H (λv _=>v=.bl true) λ_ _ _=>False) :
  codeAny (model P w) callerA (.call (.ref fa) ⟨[.ref a],[]⟩) (λr s'=>r=.ok (.ret (.bool true))/\OldK s₁.heap s'.heap/\s'.os=s₁.os/\AllBare s'.gens) s₁:=by
 have rv:=rW hi
 have lenV:=hi.length
 have aP:a≠PT:=λz=>by rw[z,hPT] at ha;cases ha
 have core:∀H:Hp,SqL K H a (ns.map V.int)->HOk P w H s₁.heap->H PT=some (.tbl #[])->(∀b u,H b=some u->b≠PT->b=a/\K.lookup a=none/\∃o u',u=.frz o u') ->
   codeAny (model P w) callerA (.call (.ref fa) ⟨[.ref a],[]⟩) (λr s'=>r=.ok (.ret (.bool true))/\OldK s₁.heap s'.heap/\s'.os=s₁.os/\AllBare s'.gens) s₁:=by
  intro H hS hok hT hA
  have nD:∀{b:Addr}{o:Obj}{es:Array DictEntry}{ep:Nat},s₁.heap.get? b=some o->o.data=.dict es ep->H b=none:=λ{b o es ep} e d=>by
   cases q:H b with
   |none=>rfl
   |some u =>
    by_cases z:b=PT
    ·rw[z,hPT] at e;cases e;cases d
    ·have:=(hA b u q z).1
     subst this
     rw[ha] at e;cases e;cases d
  have nsK:∀{b:Addr}{m:Str->Option Value},s₁.heap.Ns b m->(vp s₁.heap H).Ns b m:=λ{b m} ⟨o,es,ep,e,d,r⟩=>⟨o,es,ep,qT e (nD e d),d,r⟩
  have hKb:K.In (vp s₁.heap H):=λb o e=>qT (KX b o e) (by
   cases q:H b with
   |none=>rfl
   |some u =>
    by_cases z:b=PT
    ·rw[z,hKP] at e;cases e
    ·obtain⟨z1,z2,_⟩:=hA b u q z
     rw[z1,z2] at e;cases e)
  have hM:Mod K mg (vp s₁.heap H):=⟨hKb,nsK hns,⟨mb,nsK hb,hbb⟩,let ⟨mc,h1,h2⟩:=hlim;⟨mc,nsK h1,h2⟩⟩
  have e0:Env0 P w K mg (vp s₁.heap H) callerA [] s₁ H:=⟨rfl,hM,λb o e=>Lr e,Nat.le_of_eq (Eu _ _),trivial,λb hb=>absurd (show b∈([]:List Addr) from hb) (by simp),hok,.of_eq hg⟩
  have hBb:(vp s₁.heap H).BuiltinsAt mg PT:=by
   obtain⟨bm,o,h1,h2,h3,h4,h5,h6,h7⟩:=hBm
   refine⟨bm,o,h1,h2,h3,h4,qT h5 ?_,h6,h7⟩
   cases q:H bm with
   |none=>rfl
   |some u =>
    have:=(hA bm u q h4).1
    subst this
    rw[ha] at h5;cases h5
    have h6:ć "list"=ć "module":=h6
    exact absurd h6 (by decide)
  refine codeAny_mono ((F _ hKb (nsK hns) hBb λb m z=>nsK z).run callerA [] s₁ H ⟨[.ref a],[]⟩ [.ref a] [.ref a] _ _ hr e0 (hbind s₁ (.ref a)) (.cons rfl .nil) (hsp H hS hT)) λr s' h=>?_
  cases r with
  |error e=>exact h.elim
  |ok fl =>
   cases fl with
   |next=>exact è h
   |brk=>exact è h
   |cont=>exact è h
   |ret u =>
    obtain⟨v,H',os,bare,un,hok',r',q⟩:=h
    have q':v=.bl true:=q
    subst q'
    obtain rfl:u=ŕ true:=r'
    obtain⟨more,hT'⟩:=un.tbls PT _ hT
    have eT:s'.heap.get? PT=some { cls:=.none,data:=.fields (#[]++more) }:=hok' PT _ hT'
    have kept:∀b o,s₁.heap.get? b=some o->b≠PT->s'.heap.get? b=some o:=λb o e nb=>by
     cases q:H b with
     |none=>exact un.keep b o e q (by intro z;exact absurd (show b∈([]:List Addr) from z) (by simp)) (by simp)
     |some u =>
      obtain⟨_,_,ob,u',rfl⟩:=hA b u q nb
      have e1:=(hok b _ q).1
      rw[e] at e1;cases e1
      exact(hok' b _ (un.frzs b _ _ q)).1
    refine⟨rfl,⟨λb o e=>?_,λb o e=>?_⟩,os,bare⟩
    ·by_cases z:b=PT
     ·subst z
      rw[hPT] at e
      cases e
      exact .inr (.inl ⟨(hC.tab hPT).isCodeTable,rfl,#[],more,rfl,eT⟩)
     ·exact .inl (kept b o e z)
    ·by_cases z:b=PT
     ·subst z;exact⟨_,eT⟩
     ·exact⟨o,kept b o e z⟩
 cases hk:K.lookup a with
 |some o =>
  have e:=KX a o hk
  rw[ha] at e
  cases e
  refine core (λb=>if b=PT then some (.tbl #[]) else none) (.inr ⟨_,vs.toArray,_,hk,rfl,rfl,rfl,by rw[Ï,lenV];exact hl,by simpa using rv⟩) (λb u z=>?_) (if_pos rfl) λb u z nb=>?_
  ·by_cases hb:b=PT
   ·have z':=(if_pos hb).symm.trans z
    cases z'
    subst hb
    exact hPT
   ·have z':=(if_neg hb).symm.trans z
    cases z'
  ·have z':=(if_neg nb).symm.trans z
   cases z'
 |none =>
  let H:Hp:=λb=>if b=PT then some (.tbl #[]) else if b=a then some (.frz { cls:=.type "list",data:=.seq vs.toArray } (.lst (ns.map V.int))) else none
  have hP1:H PT=some (.tbl #[]):=if_pos rfl
  have hA1:H a=some (.frz { cls:=.type "list",data:=.seq vs.toArray } (.lst (ns.map V.int))):=(if_neg aP).trans (if_pos rfl)
  have hN1:∀b,b≠PT->b≠a->H b=none:=λb h1 h2=>(if_neg h1).trans (if_neg h2)
  refine core H (.inl (.inr ⟨_,hA1⟩)) (λb u z=>?_) hP1 λb u z nb=>?_
  ·by_cases hb:b=PT
   ·subst hb
    rw[hP1] at z
    cases z
    exact hPT
   ·by_cases hb2:b=a
    ·subst hb2
     rw[hA1] at z
     cases z
     exact⟨ha,by rw[Ã];exact hl,vs,_,rv,ha⟩
    ·rw[hN1 b hb hb2] at z;cases z
  ·by_cases hb2:b=a
   ·subst hb2
    rw[hA1] at z
    cases z
    exact⟨rfl,hk,_,_,rfl⟩
   ·rw[hN1 b nb hb2] at z;cases z
def FZ{l:W.OpenLaw}{n k:Nat}{q:Program}{loose:List Str}{XP:(Str->Option Value)->Heap->Prop}{YP:World->Heap->Prop}{d:DefRec}{K:Params->Ñ}{x:Str}(hi:importsNone q=true)(hn:l.most=some n)(hn2:n<=sizeLine)(hdf:d.params.defaults=[])(hr:Room k callerA)(hY:∀(w:World) (h:Heap),YP w h->(K w.params).In h)(F:∀(w:World) (mg:Str->Option Value) (fa:Addr) (h:Heap),(K w.params).In h->h.Ns mainGlobals mg->mg d.name=some (.ref fa) ->
   ∃(K':Ñ) (c PT:Addr) (fd:FuncData) (sp:Sp),K'.In h/\K'.lookup PT=none/\W.CodeHd h c PT/\h.get? PT=some (W.tabObj #[])/\(∀(s:Shared) (u:Value),BindsTo s fd ⟨[u],[]⟩ [(x,u)]) /\
    (∀base:Heap,K'.In base->base.Ns mainGlobals mg->base.BuiltinsAt mg PT->(∃o,base.get? sysModules=some o)->FnOk l.prog w K' mg base CX0 k fa fd [x] sp)/\∀(H:Hp) (a:Addr) (ns:List Int),SqL K' H a (ns.map V.int)->H PT=some (.tbl #[])->sp [.ref a] H (λv _=>v=.bl true) λ_ _ _=>False) :
  W.WalkO q loose XP YP l.row.toRowW d [] (λf vs=>PySem.call f vs):=by
 refine Att.yg hn hdf λw s₀ s₁ mg mb fa o pm cd doc a vs ns G Y ho hd hcd hmg hobj hints hlen hg=>?_
 obtain⟨K',c,PT,fd,sp,k1,k2,k3,k4,hb,hF,hsp⟩:=F w mg fa _ (hY w _ Y) G.T.g hmg
 have hBm:s₁.heap.BuiltinsAt mg PT:=by
  obtain⟨bm,ob,b1,b2,b3,b4,b5,b6⟩:=G.T.bmain
  have n1:bm≠PT:=λz=>by rw[z,k4] at b3;cases b3;cases b4
  have n2:bm≠mainGlobals:=λz=>by
   obtain⟨o,es,ep,e,hd,_⟩:=G.T.g
   rw[z,e] at b3;cases b3;rw[hd] at b6;cases b6
  exact⟨bm,ob,b1,b2,n2,n1,b3,b4,b5,b6⟩
 obtain⟨mm,hm,_⟩:=(G.T.seer hi).mods
 exact Ep k1 k2 k3 k4 G.T.g G.T.b G.T.builtins G.T.nolimit hBm hg hobj hints (î hlen hn2) hr (λbase h1 h2 h3 h4=>hF base h1 h2 h3 (let ⟨o,_,_,e,_⟩:=h4 _ _ hm;⟨o,e⟩)) hb λH hS hT=>hsp H a ns hS hT
section
variable {K:Ñ}{PT b f:Addr}{h:Heap}
end
def O7{K:Ñ}{PT:Addr}{h:Heap}(X:W.Frag.In ((([PT]:List Addr).map λa=>(a,W.tabObj #[]))++K) h)(n:K.lookup PT=none):K.In h/\h.get? PT=some (W.tabObj #[]):=by
 refine⟨λa o e=>X a o ?_,X PT _ ?_⟩
 ·have:a≠PT:=λz=>by rw[z,n] at e;cases e
  show List.lookup a ((PT,W.tabObj #[])::K)=some o
  rw[ÿ,show(a == PT)=false by simpa using this]
  exact e
 ·show List.lookup PT ((PT,W.tabObj #[])::K)=_
  rw[ÿ,beq_self_eq_true]
end L2
namespace Dl
open PySem L2 PyProof.Rows
variable [Gr]
section
variable {X:Cx}{tg:Expr}{pos:Pos}{ta:DA}
end
end Dl
namespace Wr
open PySem L2 PyProof.Rows Dl
variable [Gr] {X:Cx}{pos:Pos}{ta:DA}
end Wr
set_option autoImplicit true
namespace Dl
open PySem L2 PyProof.Rows
class Tb where
 T:Pn
instance (priority:=low) noTb:Tb:=⟨eF⟩
def aq[Tb](a:Addr)(n:Nat):Pn where
 fp:=λb=>b=a\/Tb.T.fp b
 PI:=λH=>(∃x y c:Int,H a=some (.lst [.int x,.int y,.int c])/\0<=c/\c+(n:Int)<=1152921504606846976)/\Tb.T.PI H/\¬Tb.T.fp a
 pv:=.ref a
 mono:=λH H' ⟨⟨x,y,c,h,r⟩,t,na⟩ k=>⟨⟨x,y,c,k _ _ (.inl (.inl rfl)) h,r⟩,Tb.T.mono H H' t λb o z e=>k b o (z.imp .inr id) e,na⟩
 is:=λH b ⟨⟨x,y,z,h,_⟩,t,_⟩ hb=>hb.elim (λhb=>by
  subst hb
  exact⟨_,h,(λxs z=>(nomatch z)),λ⟨_,_,z⟩=>(nomatch z)⟩) (Tb.T.is H b t)
def aD[Tb]{a:Addr}{n m:Nat}{H:Hp}(h:(aq a n).PI H)(hm:m<=n):(aq a m).PI H:=by
 obtain⟨⟨x,y,c,h,c0,c1⟩,t⟩:=h
 exact⟨⟨x,y,c,h,c0,by omega⟩,t⟩
def KR[Tb]{a:Addr}{n:Nat}:aq a n≠eF:=λh=>by
 have:=congrFun (congrArg Pn.fp h) a
 have h2:(a=a\/Tb.T.fp a)=False:=this
 exact cast h2 (.inl rfl)
def TP:Pn->Prop:=λ_=>True
def Pk:Sl->Sl
 |.pen _=>.pen TP
 |s=>s
def stp(ρ:List Sl):List Sl:=ρ.map Pk
def yG(ρ:List Sl):stp (stp ρ)=stp ρ:=by
 unfold stp
 rw[ï]
 refine Ő λs _=>?_
 cases s <;> rfl
section
variable [Tb] {X:Cx}{a:Addr}{n m m1 m2 m3:Nat}{H0 Hb H H1 H':Hp}{own:Addr->Option Nat}{σ:L2.St}{ρ:List Sl}
def EnvD.lv(E:EnvD (aq a n) H0 own σ H ρ)(h:(aq a m).PI H):EnvD (aq a m) H0 own σ H (stp ρ):=by
 refine⟨E.k0,h,E.ow,λj s e=>?_,by simp[stp,E.len],trivial⟩
 unfold stp at e
 rw[à] at e
 cases e1:ρ[j]? with
 |none=>rw[e1] at e;cases e
 |some s1 =>
  rw[e1] at e
  have e:=Ý e
  subst e
  have q:=E.slot j s1 e1
  cases s1 with
  |pen C=>exact⟨q.1,trivial⟩
  |scr v b=>exact⟨q.1,λhb=>absurd (q.2 hb) KR⟩
  |_=>exact q
def At.lv(A:At (aq a n) H0 own Hb H)(h:m<=n):At (aq a m) H0 own Hb H:=⟨A.k0,A.kp,aD A.penb h,aD A.pen h,A.ow⟩
def Hz{k:Kd}:okK (aq a n) H0 own Hb k=okK (aq a m) H0 own Hb k:=by cases k <;> rfl
def Gx{k:Kd}{v:V}{d:D}(r:Rp (okK (aq a n) H0 own Hb k) H v d):Rp (okK (aq a m) H0 own Hb k) H v d:=by
 rw[Hz (m:=m)] at r
 exact r
structure EnvB(a:Addr)(n m:Nat)(H0:Hp)(own:Addr->Option Nat)(σ:L2.St)(H:Hp)(ρ:List Sl):Prop where
 st:stp ρ=ρ
 pi:(aq a (n+m)).PI H
 env:EnvD (aq a n) H0 own σ H ρ
def EnvB.up(E:EnvB a n m H0 own σ H ρ)(hm:m1+m2<=m):EnvB a (n+m2) m1 H0 own σ H ρ:=⟨E.st,aD E.pi (by omega),by
 have:=E.env.lv (m:=n+m2) (aD E.pi (by omega))
 rw[E.st] at this
 exact this⟩
def EnvB.first(E:EnvB a n (m1+m2) H0 own σ H ρ):EnvB a (n+m2) m1 H0 own σ H ρ:=E.up (Ì _)
def EnvB.next(E:EnvB a n m H0 own σ H ρ)(A:At (aq a (n+m2)) H0 own H H1):EnvB a n m2 H0 own σ H1 ρ:=⟨E.st,A.pen,E.env.go A.kp (aD A.pen (by omega))⟩
def EnvB.low(E:EnvB a n m H0 own σ H ρ)(h:m1<=m):EnvB a n m1 H0 own σ H ρ:=⟨E.st,aD E.pi (by omega),E.env⟩
def fG(m:Nat)(t:DE):TE:=λσ H Q=>∃a n H0 own ρ P,EnvB a n m H0 own σ H ρ/\t ρ P/\∀k d v H',P k d->At (aq a n) H0 own H H'->Rp (okK (aq a n) H0 own H k) H' v d->Q v H'
def zV(m:Nat)(t:DA):TA:=λσ H Q=>∃a n H0 own ρ P,EnvB a n m H0 own σ H ρ/\t ρ P/\∀ks vs H',P ks->At (aq a n) H0 own H H'->RpK (aq a n) H0 own H H' vs ks->Q vs H'
def qP(m:Nat)(t:DT):TT:=λσ H Q=>∃a n H0 own ρ P,EnvB a n m H0 own σ H ρ/\t ρ P/\∀b H',P b->At (aq a n) H0 own H H'->Q b H'
def Iu(m:Nat)(t:DI):TI:=λσ H R=>∃a n H0 own ρ P,EnvB a n m H0 own σ H ρ/\t ρ P/\∀k ds J H1 Ok,P k ds->At (aq a n) H0 own H H1->Wlk Ok J ds (okA (aq a n) H0 own H k H1)->Ok H1->R J H1
def zU(m:Nat)(t:DS):TS:=λQ σ H=>∃a n H0 own ρ P,EnvB a n m H0 own σ H ρ/\t P ρ/\Wish (aq a n) H0 own H P Q
end
end Dl
namespace Wb
open PySem L2 PyProof.Rows Dl Wr
section
variable [Tb]
structure BE(X:Cx)(m:Nat)(e:Expr)(t:DE):Prop where
 h:PE X e (fG m t)
structure BA(X:Cx)(m:Nat)(e:List Expr)(t:DA):Prop where
 h:PA X e (zV m t)
structure BT(X:Cx)(m:Nat)(e:Expr)(t:DT):Prop where
 h:PT X e (qP m t)
structure BW(X:Cx)(m:Nat)(e:Expr)(t:DT):Prop where
 h:PW X e (qP m t)
structure BTs(X:Cx)(m:Nat)(e:List Expr)(t:DT):Prop where
 h:PTs X e (qP m t)
structure BI(X:Cx)(m:Nat)(tg e:Expr)(t:DI):Prop where
 h:PI X tg e (Iu m t)
structure BS(X:Cx)(m:Nat)(s:Stmt)(t:DS):Prop where
 h:PS X s (zU m t)
structure BSs(X:Cx)(m:Nat)(s:List Stmt)(t:DS):Prop where
 h:PSs X s (zU m t)
end
section
variable [Tb] {X:Cx}{n m m1 m2 m3:Nat}{H0 Hb H H1 H':Hp}{own:Addr->Option Nat}{σ:L2.St}{ρ:List Sl}{pos:Pos}{a b e:Expr}{es:List Expr}{ta tb te:DE}{t:DA}
def e0(h:WD X e te):BE X 0 e te:=⟨PE.wk h.h (by
 rintro σ H Q ⟨a,n,H0,own,ρ,P,E,t,q⟩
 exact⟨aq a n,H0,own,ρ,P,E.env,t,q⟩)⟩
def a0(h:WDA X es t):BA X 0 es t:=⟨PA.wk h.h (by
 rintro σ H Q ⟨a,n,H0,own,ρ,P,E,t,q⟩
 exact⟨aq a n,H0,own,ρ,P,E.env,t,q⟩)⟩
def t0{t:DT}(h:WDT X e t):BT X 0 e t:=⟨PT.wk h.h (by
 rintro σ H Q ⟨a,n,H0,own,ρ,P,E,t,q⟩
 exact⟨aq a n,H0,own,ρ,P,E.env,t,q⟩)⟩
def i0{t:DI}{tg:Expr}(h:WDI X tg e t):BI X 0 tg e t:=⟨PI.wk h.h (by
 rintro σ H Q ⟨a,n,H0,own,ρ,P,E,t,q⟩
 exact⟨aq a n,H0,own,ρ,P,E.env,t,q⟩)⟩
def s0{t:DS}{s:Stmt}(h:WDS X s t):BS X 0 s t:=⟨PS.wk' h.h (by
 rintro Q σ H ⟨a,n,H0,own,ρ,P,E,t,w⟩
 exact⟨aq a n,H0,own,ρ,P,E.env,t,w⟩)⟩
def ss0{t:DS}{s:List Stmt}(h:WDSs X s t):BSs X 0 s t:=⟨PSs.wk' h.h (by
 rintro Q σ H ⟨a,n,H0,own,ρ,P,E,t,w⟩
 exact⟨aq a n,H0,own,ρ,P,E.env,t,w⟩)⟩
def ts1{t:DT}(h:BT X m e t):BTs X m [e] t:=⟨Bu h.h⟩
def cW(ha:BE X m1 e te)(hr:BA X m2 es t)(hs:zS X e es:=by rfl):BA X (m1+m2) (e::es) (iZ te t):=⟨PA.wk (bN ha.h hr.h hs) (by
 rintro σ H Q ⟨a,n,H0,own,ρ,P,E,t,q⟩
 refine⟨a,n+m2,H0,own,ρ,_,E.first,t,λk d v H1 h A r=>?_⟩
 refine⟨a,n,H0,own,ρ,_,E.next A,h,λks vs H2 h2 A2 r2=>?_⟩
 have A':=A.lv (m:=n) (by omega)
 exact q _ _ H2 h2 (A'.base A2) (.cons (fK A' A2.kp (Gx r)) (RpK.base A' r2)))⟩
def lst(h:BA X m es t):BE X m (.List es pos) (Gf t):=⟨PE.wk (qb h.h) (by
 rintro σ H Q ⟨a,n,H0,own,ρ,P,E,t,q⟩
 refine⟨a,n,H0,own,ρ,_,E,t,λks vs H1 h A r=>?_⟩
 have h24:=ì
 have hl:=r.length
 refine⟨by have:=h.1;omega,λl hl=>?_⟩
 obtain⟨k2,i2,nw⟩:=A.new hl (.lst vs)
 have j:=cQ (joins ks) .new
 refine q _ _ _ _ h.2 (A.go k2 i2) (.lst (bw A j.2 nw) ao ?_)
 exact(aX A k2 (RpK.all A (Kd.le_refl _) r)).mono (λa o=>bw A j.1 o) (λ_ _ _ e=>e) λ_ _ e=>e)⟩
def tup{x1:Nat}(h:BA X m es t):BE X m (.Tuple es x1 pos) (yE t):=⟨PE.wk (yR h.h) (by
 rintro σ H Q ⟨a,n,H0,own,ρ,P,E,t,q⟩
 refine⟨a,n,H0,own,ρ,_,E,t,λks vs H1 h A r=>?_⟩
 have h24:=ì
 have hl:=r.length
 refine⟨by have:=h.1;omega,λl hl=>?_⟩
 obtain⟨k2,i2,nw⟩:=A.new hl (.tup vs)
 exact q _ _ _ _ h.2 (A.go k2 i2) (aM (.tup ao (aX A k2 (RpK.all A (Kd.le_refl _) r)))))⟩
def lB{g:G2}{r:R2}(ok:Ok2 g r):∀σ H Q,fG (m1+m2) (t2 g ta tb) σ H Q->tOp r (fG m1 ta) (fG m2 tb) σ H Q:=by
 rintro σ H Q ⟨a,n,H0,own,ρ,P,E,t,q⟩
 refine⟨a,n+m2,H0,own,ρ,_,E.first,t,λk1 d1 v1 H1 t1 A1 r1=>?_⟩
 refine⟨a,n,H0,own,ρ,_,E.next A1,t1,λk2 d2 v2 H2 t2 A2 r2=>?_⟩
 have A1':=A1.lv (m:=n) (by omega)
 have A:At (aq a n) H0 own H H2:=A1'.base A2
 exact ok (aq a n) H0 own H H2 v1 v2 k1 d1 k2 d2 P Q A (fK A1' A2.kp (Gx r1)) (gn A1' r2) t2 λk d v H' h k3 i3 r3=>q k d v H' h (A.go k3 i3) r3
def op{o:Operator}{r:R2}{g:G2}(ho:OpR X (binaryOp o) r)(ok:Ok2 g r)(ha:BE X m1 a ta)(hb:BE X m2 b tb):BE X (m1+m2) (.BinOp a o b pos) (t2 g ta tb):=⟨PE.wk (aW ho ha.h hb.h) (lB ok)⟩
def kY{t:DE}:∀σ H Q,qP m (dD t) σ H Q->(fG m t) σ H (λx H'=>∃k,x=.bl k/\Q k H'):=by
 rintro σ H Q ⟨a,n,H0,own,ρ,P,E,t,q⟩
 refine⟨a,n,H0,own,ρ,_,E,t,λk d v H' h A r=>?_⟩
 cases d with
 |bool b=>exact⟨b,r.bl',q b H' h A⟩
 |_=>exact h.elim
def O6{o:CmpOp}{r:R2}{g:G2}(ho:OpR X (compareOp o) r)(ok:Ok2 g r)(ha:BE X m1 a ta)(hb:BE X m2 b tb)(hm:behindInMarks o b=false):BT X (m1+m2) (.Compare a [o] [b] pos) (dD (t2 g ta tb)) :=
 ⟨PT.wk (eH ho ha.h hb.h hm) λσ H Q h=>lB ok σ H _ (kY σ H Q h)⟩
section
variable {rest:List Expr}{t u:DT}
def R5(ha:BT X m a t):BW X m (.BoolOp .And [a] pos) t:=⟨Bs ha.h⟩
def or1(ha:BT X m a t):BW X m (.BoolOp .Or [a] pos) t:=⟨GP ha.h⟩
def R4(ha:BT X m1 a t)(hb:BW X m2 (.BoolOp .And (b::rest) pos) u):BW X (m1+m2) (.BoolOp .And (a::b::rest) pos) (JQ t u):=⟨PW.wk (GQ ha.h hb.h) (by
 rintro σ H Q ⟨a,n,H0,own,ρ,P,E,t,q⟩
 refine⟨a,n+m2,H0,own,ρ,_,E.first,t,λb H' h A=>?_⟩
 have A':=A.lv (m:=n) (by omega)
 cases b with
 |true=>exact aH ⟨a,n,H0,own,ρ,P,E.next A,by simpa using h,λc H2 h2 A2=>q c H2 h2 (A'.base A2)⟩
 |false=>exact aL (q false H' (by simpa using h) A'))⟩
def or2(ha:BT X m1 a t)(hb:BW X m2 (.BoolOp .Or (b::rest) pos) u):BW X (m1+m2) (.BoolOp .Or (a::b::rest) pos) (dOr t u):=⟨PW.wk (N6 ha.h hb.h) (by
 rintro σ H Q ⟨a,n,H0,own,ρ,P,E,t,q⟩
 refine⟨a,n+m2,H0,own,ρ,_,E.first,t,λb H' h A=>?_⟩
 have A':=A.lv (m:=n) (by omega)
 cases b with
 |true=>exact aH (q true H' (by simpa using h) A')
 |false=>exact aL ⟨a,n,H0,own,ρ,P,E.next A,by simpa using h,λc H2 h2 A2=>q c H2 h2 (A'.base A2)⟩)⟩
def wt(h:BW X m e t):BT X m e t:=⟨PW.pt h.h⟩
end
end
end Wb
namespace Dl
open PySem L2 PyProof.Rows
section
variable [Tb]
def dF(m:Nat)(f:List D->(D->Prop)->Prop):Sp:=λvs H Q _=>∃(a:Addr) (n:Nat) (vs':List V) (ds:List D) (P:D->Prop),vs=.ref a::vs'/\(aq a (n+m)).PI H/\Rps (λb=>¬(aq a n).fp b) H vs' ds/\f ds P/\∀d v H',P d->Kp (aq a n) H H'->(aq a n).PI H'->Rp (λb=>H b=none) H' v d->Q v H'
def fW{m:Nat}{f:List D->(D->Prop)->Prop}{n:Nat}(hn:∀ds P,f ds P->ds.length=n:=by intro _ _ h;repeat (first|(obtain⟨rfl,_⟩:=h;rfl)|obtain⟨_,h⟩:=h)):∀vs H Q E,dF m f vs H Q E->vs.length=n+1:=λvs H Q E h=>by
 obtain⟨p,_,vs',ds,P,rfl,_,r,t,_⟩:=h
 rw[ç,r.length,hn ds P t]
end
end Dl
namespace Wb
open PySem L2 PyProof.Rows Dl Wr
section
variable [Tb]
def dcP{f:List D->(D->Prop)->Prop}{t:DA}{ps:List Str}{x y:Str}{pp py:Pos}{k j i:Nat}(C:Cal X.prog X.w X.K X.mg X.base k x ps (dF m f))(hr:Room j X.A)(hi:WV X (.Name y py) i)(ha:BA X m1 es t)(hk:k<=j:=by decide)(hg:Gl X x:=by rfl)(hdb:zB x:=by decide)(he:starEach (.Name y py::es) X.env=(false,eval (.Name y py) X.env)::starEach es X.env:=by rfl)(hpl:zP X pos es:=by rfl):BE X (m1+m) (.Call (.Name x pp) (.Name y py::es) [] pos) (Vt TP f i t):=⟨PE.wk (pcS C hr (bN hi.h ha.h) hk hg hdb he hpl) (by
 rintro σ H Q ⟨a,n,H0,own,ρ,P,E,⟨hp,t⟩,q⟩
 obtain⟨hs,_⟩:=E.env.slot i _ hp
 refine⟨.ref a,hs,a,n+m,H0,own,ρ,_,E.first,t,λks vs H1 h A r=>?_⟩
 show dF m f ((.ref a::vs)++[]) H1 Q E0
 rw[í]
 have A':=A.lv (m:=n) (by omega)
 have rr:Rps (λb=>¬(aq a n).fp b) H1 vs (ks.map (·.2)):=(RpK.rps A r).mono (λ_ o=>o) (λ_ _ _ e=>e) λ_ _ e=>e
 refine⟨a,n,vs,ks.map (·.2),_,rfl,A.pen,rr,h,λd v H' h2 k2 i2 r2=>?_⟩
 exact q _ d v H' h2 (A'.go k2 i2) (aM (r2.mono (λa o=>A'.free o) (λ_ _ _ e=>e) λ_ _ e=>e)))⟩
def GJ{tg:Expr}{ta:DA}{ps:Pos}(hm:X.mg "range"=none)(ha:BA X m [a] ta)(hg:Gl X "range":=by rfl)(hs:starEach [a] X.env=[(false,eval a X.env)]:=by rfl):BI X m tg (.Call (.Name "range" ps) [a] [] pos) (iR1 ta):=⟨PI.wk (ji hg hm ha.h hs) (by
 rintro σ H R ⟨a,n,H0,own,ρ,P,E,t,q⟩
 refine⟨a,n,H0,own,ρ,_,E,t,λks vs H1 h A r=>?_⟩
 split at h
 ·rename_i k j
  obtain⟨v,rfl,r'⟩:=dN r
  exact⟨j,by rw[r'.int'],h.1.1,h.1.2,q _ _ _ H1 _ h.2 A pI trivial⟩
 ·exact h.elim)⟩
def sT(t:DT):DT:=λρ P=>t (stp ρ) P
def sE(t:DE):DE:=λρ P=>t (stp ρ) P
def xr{l i M:Nat}(h:i<l):(l - i) * M=(l - (i+1)) * M+M:=by
 have:l - i=(l - (i+1))+1:=by omega
 rw[this,Nat.add_mul,Nat.one_mul]
def kZ{k0 mi mt me:Nat}{ti:DI}{g:DG}{tt:DT}{te:DE}:∀σ H Q,fG (mi+1000 * (mt+me)) (dLC k0 ti g (sT tt) (sE te)) σ H Q->tLC k0 (Iu mi ti) (λ_=>Iw g) (λ_=>qP mt tt) (λ_=>fG me te) σ H Q:=by
 rintro σ H Q ⟨a,n,H0,own,ρ,P,E,t,q⟩
 refine⟨a,n+1000 * (mt+me),H0,own,ρ,_,E.first,t,λk ds J H1 Ok h A W o1=>?_⟩
 obtain⟨hlen,ke,Iv,i0,step,done⟩:=h
 have A0:At (aq a n) H0 own H H1:=A.lv (by omega)
 have okS:∀H',Kp (aq a n) H1 H'->Ok H':=λH' K=>W.stab H1 H' o1 (λb o n e=>K b o e (eX A n.1)) (iM A0 K)
 refine⟨λi m ys H'=>m=ds.length - i/\i<=ds.length/\Kp (aq a n) H1 H'/\(aq a (n+(ds.length - i) * (mt+me))).PI H'/\∃es,Rps (okK (aq a n) H0 own H ke) H' ys es/\es.length<=i/\Iv i es,⟨_,rfl,ä _,Kp.refl,aD A.pen (Nat.add_le_add_left (Nat.mul_le_mul_right _ (by omega)) _),[],.nil,Ì _,i0⟩,?_⟩
 rintro c i m ys H' ⟨rfl,hi,K',I',es,rs,hl,iv⟩
 have oH:=okS H' K'
 have A':At (aq a n) H0 own H H':=A0.go K' (aD I' (by omega))
 have h24:=ì
 by_cases hlt:i<ds.length
 ·rw[xr hlt] at I'
  refine .inr ⟨W.go i H' oH hlt,by have:=rs.length;omega,λys' H2=>Kp (aq a n) H1 H2/\(aq a (n+(ds.length - (i+1)) * (mt+me))).PI H2/\∃es,Rps (okK (aq a n) H0 own H ke) H2 ys' es/\es.length<=i+1/\Iv (i+1) es,λys' H2 h=>⟨_,by omega,rfl,hlt,h⟩,λx H2 y=>?_⟩
  generalize hN:n+(ds.length - (i+1)) * (mt+me)=N at *
  obtain⟨sm,rx⟩:=W.yld i H' x H2 oH y
  have rx:=rx ds[i] (È hlt)
  have I2:(aq a (N+(mt+me))).PI H2:=(aq a (N+(mt+me))).mono H' H2 (by rw[←hN,Nat.add_assoc];exact I') λb o _ e=>sm b o e
  have K2:Kp (aq a n) H1 H2:=K'.trans (Kp.of sm)
  have A2:At (aq a n) H0 own H H2:=A0.go K2 (aD I2 (by omega))
  have E2:EnvD (aq a n) H0 own σ H2 ρ:=E.env.go A2.kp A2.pen
  have rs2:=aX A' (Kp.of sm) rs
  have rxc:Rp (okB (aq a n) H0 own (elC k)) H2 x ds[i]:=Oe A rx
  refine⟨aq a n,H0,own,_,_,_,_,E2.comp k0,fM rxc,step i ds[i] es (È hlt) iv,λσ3 ρ3 E3 t3=>?_⟩
  have B3:EnvB a (N+me) mt H0 own σ3 H2 (stp ρ3):=⟨yG _,by rw[show N+me+mt=N+(mt+me) by omega];exact I2,E3.lv (aD I2 (by omega))⟩
  refine⟨a,N+me,H0,own,stp ρ3,_,B3,t3,λb H4 h4 A4=>?_⟩
  have A4':At (aq a n) H0 own H2 H4:=A4.lv (by omega)
  have A5:At (aq a n) H0 own H H4:=A2.base A4'
  have rs4:=aX A2 A4'.kp rs2
  cases b with
  |true =>
   have E4:EnvD (aq a N) H0 own σ3 H2 (stp ρ3):=E3.lv (aD I2 (by omega))
   refine aH ⟨a,N,H0,own,stp ρ3,_,⟨yG _,A4.pen,E4.go A4.kp (aD A4.pen (by omega))⟩,(show sE te ρ3 _ by simpa using h4),λk' d' v H6 h6 A6 r6=>?_⟩
   have A6':At (aq a n) H0 own H4 H6:=A6.lv (by omega)
   refine⟨(K2.trans A4'.kp).trans A6'.kp,A6.pen,es++[d'],(aX A5 A6'.kp rs4).snoc (iw (A5.base A6') h6.1 (aM (gn A5 (Gx r6)))),by simp;omega,h6.2⟩
  |false=>exact aL ⟨K2.trans A4'.kp,aD A4.pen (by omega),es,rs4,by omega,by simpa using h4⟩
 ·have e:i=ds.length:=by omega
  subst e
  refine .inl ⟨W.stop H' oH,λl hl'=>?_⟩
  obtain⟨k7,i7,nw⟩:=A'.new hl' (.lst ys)
  have j:=cQ ke .new
  refine q _ _ _ _ (done es iv) (A'.go k7 i7) (.lst (bw A' j.2 nw) ao ?_)
  exact(aX A' k7 rs).mono (λa o=>bw A' j.1 o) (λ_ _ _ e=>e) λ_ _ e=>e
def lc{mi mt me:Nat}{tg iter elt:Expr}{ifs:List Expr}{scope:Scope}{ti:DI}{g:DG}{tt:DT}(own:List Str)(hc:X.calm=true)(hi:BI X mi tg iter ti)(hg:∀c,WDG (X.comp own scope c) tg g)(ht:∀c,BTs (X.comp own scope c) mt ifs tt)(he:∀c,BE (X.comp own scope c) me elt te)(hk:dh X.env scope X.N=true:=by rfl)(hs:zF X iter:=by intro _;rfl) :
  BE X (mi+1000 * (mt+me)) (.ListComp elt [⟨tg,iter,ifs,0⟩] scope pos) (dLC own.length ti g (sT tt) (sE te)):=⟨PE.wk (G6 own hc hi.h (λc=>(hg c).h) (λc=>(ht c).h) (λc=>(he c).h) hk hs) kZ⟩
end
section
variable [Tb] {X:Cx}{n m m1 m2 m3:Nat}{H0 Hb H H1 H':Hp}{own:Addr->Option Nat}{σ:L2.St}{ρ:List Sl}{pos:Pos}{a b e:Expr}{es:List Expr}{ta tb te:DE}
def VL{K:Ñ}:Ok2 gIx (λx y H Q=>TF K x y H Q\/Tz K x y H Q):=by
 intro p H0 own Hb H x y k1 d1 k2 d2 P Q A r1 r2 t q
 unfold gIx at t
 split at t
 ·rename_i ds i
  obtain⟨d,hd,t⟩:=t
  obtain⟨c,vs,rfl,o,hc,rs⟩:=r1.cj
  obtain⟨v,hv,rv⟩:=rs.atI hd
  exact .inl ⟨c,vs,i,v,rfl,r2.int',SqL.of hc,hv,q _ _ _ _ t Kp.refl A.pen (aM rv)⟩
 ·rename_i ds i
  obtain⟨d,hd,t⟩:=t
  obtain⟨c,vs,rfl,hc,rs⟩:=r1.d7
  obtain⟨v,hv,rv⟩:=rs.atI hd
  exact .inr ⟨c,vs,i,v,rfl,r2.int',SqT.of hc,hv,q _ _ _ _ t Kp.refl A.pen (aM rv)⟩
 ·exact t.elim
def ix(ha:BE X m1 a ta)(hb:BE X m2 b tb)(hs:lY b:=by exact λ_ _=>rfl):BE X (m1+m2) (.Subscript a b pos) (t2 gIx ta tb):=⟨PE.wk (eN (IxR.or bZ zX) ha.h hb.h hs) (lB VL)⟩
def plus(ha:BE X m1 a ta)(hb:BE X m2 b tb):BE X (m1+m2) (.BinOp a .Add b pos) (t2 Jo ta tb):=op (Dl.OpR.or dJ (Dl.OpR.or zA Ce)) (by
 intro p H0 own Hb H x y k1 d1 k2 d2 P Q A r1 r2 t q
 cases d1 with
 |int i =>
  cases d2 with
  |int j=>exact .inl ⟨i,j,r1.int',r2.int',q _ _ _ _ t Kp.refl A.pen (.int _)⟩
  |_=>exact t.elim
 |list ds=>exact .inr (.inl (HN p H0 own Hb H x y k1 _ k2 d2 P Q A r1 r2 t q))
 |tuple ds=>exact .inr (.inr (HJ p H0 own Hb H x y k1 _ k2 d2 P Q A r1 r2 t q))
 |_=>exact t.elim) ha hb
def times(ha:BE X m1 a ta)(hb:BE X m2 b tb):BE X (m1+m2) (.BinOp a .Mult b pos) (t2 Ae ta tb):=op (Dl.OpR.or cN Hl) (by
 intro p H0 own Hb H x y k1 d1 k2 d2 P Q A r1 r2 t q
 cases d1 with
 |int i =>
  cases d2 with
  |int j=>exact .inl ⟨i,j,r1.int',r2.int',t.1,q _ _ _ _ t.2 Kp.refl A.pen (.int _)⟩
  |_=>exact t.elim
 |list ds=>exact .inr (Ob p H0 own Hb H x y k1 _ k2 d2 P Q A r1 r2 t q)
 |_=>exact t.elim) ha hb
def sub(ha:BE X m1 a ta)(hb:BE X m2 b tb):BE X (m1+m2) (.BinOp a .Sub b pos) (t2 (gI0 λi j=>.int (i - j)) ta tb):=op Hj (qG λi j _=>.int _) ha hb
def mod(ha:BE X m1 a ta)(hb:BE X m2 b tb):BE X (m1+m2) (.BinOp a .Mod b pos) (t2 (gI (λ_ j=>0<j) λi j=>.int (i % j)) ta tb):=op d9 (okI λi j _=>.int _) ha hb
def tgt(ha:BE X m1 a ta)(hb:BE X m2 b tb):BT X (m1+m2) (.Compare a [.Gt] [b] pos) (dD (t2 (gI0 λi j=>.bool (decide (j<i))) ta tb)):=O6 wN (qG λi j _=>.bl _) ha hb (bx _)
def teq(hu:X.A.units+64<cLine)(ha:BE X m1 a ta)(hb:BE X m2 b tb):BT X (m1+m2) (.Compare a [.Eq] [b] pos) (dD (t2 (iR false) ta tb)):=O6 (Dl.OpR.or wO (zy hu)) HD ha hb (bx _)
def tne(hu:X.A.units+64<cLine)(ha:BE X m1 a ta)(hb:BE X m2 b tb):BT X (m1+m2) (.Compare a [.NotEq] [b] pos) (dD (t2 (iR true) ta tb)):=O6 (Dl.OpR.or Ca (zx hu)) Hy ha hb (bx _)
def sEn(P:DEnds):DEnds:={ nx:=λr=>P.nx (stp r),rt:=P.rt,bk:=λr=>P.bk (stp r),ct:=λr=>P.ct (stp r) }
def sS(t:DS):DS:=λP ρ=>t (sEn P) (stp ρ)
def V9(ti:DI):DI:=λρ P=>ti ρ λk ds=>ds.length<=1000/\P k ds
def gP{A:Addr}{o1 o2:Addr->Option Nat}{H H':Hp}(f:FrS (aq A n) o1 H o2 H'):FrS (aq A m) o1 H o2 H':=⟨f.keep,f.tup⟩
def pR{A:Addr}{v:V}{d:D}(r:RPost (aq A n) H0 H v d)(h:m<=n):RPost (aq A m) H0 H v d:=⟨r.k0,aD r.pen h,r.rp⟩
def JK(t u:DS):DS:=λP ρ=>t { nx:=λr=>u P (stp r),rt:=P.rt,bk:=λr=>P.bk (stp r),ct:=λr=>P.ct (stp r) } ρ
section
variable {st:Stmt}{rest:List Stmt}{t u:DS}
def cons(h1:BS X m1 st t)(h2:BSs X m2 rest u):BSs X (m1+m2) (st::rest) (JK t u):=⟨PSs.wk' (aQ h1.h h2.h) (by
 rintro Q σ H ⟨a,n,H0,own,ρ,P,E,t,w⟩
 refine⟨a,n+m2,H0,own,ρ,_,E.first,t,⟨λo s h r e g nn=>⟨a,n,H0,o,stp r,P,⟨yG _,e.pen,e.lv (aD e.pen (by omega))⟩,nn,w.go (gP g)⟩,λd v H' h r=>w.rt d v H' h (pR r (by omega)),
  λo s h r e g nn=>w.bk o s h (stp r) (e.lv (aD e.pen (by omega))) (gP g) nn,λo s h r e g nn=>w.ct o s h (stp r) (e.lv (aD e.pen (by omega))) (gP g) nn⟩⟩)⟩
def U6(t u:DS):DS:=λP ρ=>∃Mid:List Sl->Prop,t { nx:=λr=>Mid (stp r),rt:=P.rt,bk:=λr=>P.bk (stp r),ct:=λr=>P.ct (stp r) } ρ/\∀ρ',Mid ρ'->u P ρ'
def lV(h1:BS X m1 st t)(h2:BSs X m2 rest u):BSs X (m1+m2) (st::rest) (U6 t u):=⟨PSs.wk' (aQ h1.h h2.h) (by
 rintro Q σ H ⟨a,n,H0,own,ρ,P,E,⟨Mid,t,k⟩,w⟩
 refine⟨a,n+m2,H0,own,ρ,_,E.first,t,⟨λo s h r e g nn=>⟨a,n,H0,o,stp r,P,⟨yG _,e.pen,e.lv (aD e.pen (by omega))⟩,k _ nn,w.go (gP g)⟩,λd v H' h r=>w.rt d v H' h (pR r (by omega)),
  λo s h r e g nn=>w.bk o s h (stp r) (e.lv (aD e.pen (by omega))) (gP g) nn,λo s h r e g nn=>w.ct o s h (stp r) (e.lv (aD e.pen (by omega))) (gP g) nn⟩⟩)⟩
def one(h1:BS X m st t):BSs X m [st] t:=⟨bH h1.h⟩
def Az{j:Nat}{s:Sl}(h:stp ρ=ρ)(hs:Pk s=s):stp (ρ.set j s)=ρ.set j s:=by
 unfold stp at h ⊢
 rw[List.map_set,h,hs]
def su:∀(js:List Nat) {ρ:List Sl},stp ρ=ρ->stp (js.foldl (λρ j=>ρ.set j .any) ρ)=js.foldl (λρ j=>ρ.set j .any) ρ
 |[],_,h=>h
 |_::js,_,h=>su js (Az h rfl)
def drops(js:List Nat)(h:BSs X m rest t):BSs X m rest (Ai js t):=⟨PSs.wk' h.h (by
 rintro Q σ H ⟨a,n,H0,own,ρ,P,E,q,w⟩
 exact⟨a,n,H0,own,_,P,⟨su js E.st,E.pi,E.env.drops js⟩,q,w⟩)⟩
def ret(he:BE X m e te):BS X m (.Return (some e) pos) (JL te):=⟨PS.wk' (gq he.h) (by
 rintro Q σ H ⟨a,n,H0,own,ρ,P,E,t,w⟩
 refine⟨a,n,H0,own,ρ,_,E,t,λk d v H' h A r=>w.rt d v H' h.2 ⟨λb o e n=>A.kp b o (A.k0 b o e n) n,A.pen,?_⟩⟩
 exact iw A h.1 r)⟩
def if_{c:Expr}{a b:List Stmt}{tc:DT}{mc:Nat}(hc:BT X mc c tc)(ha:BSs X m1 a t)(hb:BSs X m2 b u):BS X (mc+(m1+m2)) (.If c a b pos) (dIf tc t u):=⟨PS.wk' (pY hc.h ha.h hb.h) (by
 rintro Q σ H ⟨a,n,H0,own,ρ,P,E,t,w⟩
 refine⟨a,n+(m1+m2),H0,own,ρ,_,E.first,t,λb H' h A=>?_⟩
 have A':=A.lv (m:=n) (by omega)
 have E1:=E.next A
 cases b with
 |true=>exact aH ⟨a,n,H0,own,ρ,P,E1.low (by omega),by simpa using h,w.go A'.frs⟩
 |false=>exact aL ⟨a,n,H0,own,ρ,P,E1.low (by omega),by simpa using h,w.go A'.frs⟩)⟩
def Vu{i:Nat}(rg:Option Nat)(h:PS X st (rG (fG m te) (iQ i))):BS X m st (vL i rg te):=⟨PS.wk' h (by
 rintro Q σ H ⟨a,n,H0,own,ρ,P,EB,t,w⟩
 have E:=EB.env
 refine⟨a,n,H0,own,ρ,_,EB,t,λk d v H1 h A r=>?_⟩
 generalize aq a n=p at *
 have r:=aM r
 generalize norm k d=k' at h r
 show Q.nx (σ.set i (some v)) H1
 have E1:=E.go A.kp A.pen
 have fin:∀s,gR p H0 own (σ.set i (some v)) H1 i s\/¬i<σ.length->P.nx (ρ.set i s)->Q.nx (σ.set i (some v)) H1:=λs hs hn =>
  w.nx own _ H1 _ (E1.set λhl=>hs.elim id λz=>absurd hl z) A.frs hn
 have here:i<σ.length->(σ.set i (some v))[i]?=some (some v):=λhl=>ą hl
 by_cases hl:i<σ.length
 ·cases k' with
  |imm=>exact fin (.im d) (.inl ⟨v,here hl,r⟩) h
  |new =>
   cases rg with
   |none=>exact fin (.sn d) (.inl ⟨v,here hl,iw A (k:=.snw) rfl r⟩) h
   |some q =>
    simp only[Dl.stK] at h
    by_cases hf:Jr q ρ i=true
    ·rw[if_pos hf] at h
     have E2:EnvD p H0 (bR q own) σ H (ρ.set i .any):=(E.drop (i:=i)).clear hf
     have A2:At p H0 (bR q own) H H1:=⟨A.k0,A.kp,A.penb,A.pen,E2.ow⟩
     have E3:=E2.adopt q A2
     have r2:Rp (okK p H0 (bR q own) H .new) H1 v d:=r
     have E4:EnvD p H0 (cu q H H1 (bR q own)) (σ.set i (some v)) H1 ((ρ.set i .any).set i (.dw q d)):=E3.set λ_=>⟨v,here hl,yq (k:=.new) rfl A2 r2⟩
     rw[List.set_set] at E4
     exact w.nx _ _ H1 _ E4 (tW.trans (nH A2)) h
    ·rw[if_neg hf] at h
     exact h.elim
  |reg q=>exact fin (.dw q d) (.inl ⟨v,here hl,r⟩) h
  |n0=>exact h.elim
  |snw=>exact fin (.sn d) (.inl ⟨v,here hl,r⟩) h
  |shr=>exact fin (.sh d) (.inl ⟨v,here hl,r⟩) h
  |wk=>exact h.elim
 ·cases hs:stK rg ρ i k' d with
  |none=>rw[hs] at h;exact h.elim
  |some s=>rw[hs] at h;exact fin s (.inr hl) h)⟩
def set{i:Nat}{x:Str}{pos':Pos}(rg:Option Nat)(hN:X.N.Nodup)(hi:X.N[i]?=some x)(hx:Loc X.env.scope x)(he:BE X m e te)(hs:swapsWith e (some (.Name x pos')) pos.line X.env=pure false:=by rfl)(hf:zL X x:=by first|exact .inl rfl|exact .inr rfl|assumption) :
  BS X m (.Assign [.Name x pos'] e pos) (vL i rg te):=Vu rg (dg hN hi hx he.h hs hf)
def Wf{i:Nat}(h:PS X st (wj (tBM X.K "list" oU (rF i) (zV m (iZ te vU))))):BS X m st (Aj i te):=⟨PS.wk' h (by
 rintro Q σ H ⟨a,n,H0,own,ρ,P,EB,t,w⟩
 have E:=EB.env
 unfold Aj at t
 split at t
 ·rename_i r ds hr
  obtain⟨v,hv,x⟩:=E.slot i _ hr
  obtain⟨l,vs,rfl,hl,ho,rs⟩:=x.cj
  refine⟨.ref l,hv,.inl ⟨rfl,vs,SqL.of ho⟩,a,n,H0,own,ρ,_,EB,Cg t,?_⟩
  rintro ks ws H1 ⟨k,d,rfl,hk,hlen,hn⟩ A rk
  obtain⟨y,rfl,ry⟩:=dN rk
  have ry:=iw A hk (aM ry)
  have h1:H1 l=some (.lst vs):=A.kp l _ ho (E.ow l r hl).2.1
  have h24:=ì
  have hln:=rs.length
  refine⟨l,vs,y,rfl,rfl,h1,by omega,?_⟩
  obtain⟨E2,F2⟩:=E.uD (vs':=vs++[y]) (ds':=ds++[d]) A hv hl ho rs λH2 f g=>(jU f rs λd hd=>je hd).snoc (g ry)
  exact w.nx _ σ _ _ E2 F2 hn
 ·exact t.elim)⟩
def append{i:Nat}{x:Str}{apos cpos np:Pos}(hv:WV X (.Name x np) i)(ha:BA X m (e::es) (iZ te vU))(hbase:attributeBase (.Name x np) "append" X.env (eval (.Name x np) X.env)=eval (.Name x np) X.env:=by rfl)(hfew:zW X cpos (e::es):=by rfl)(hline:(apos.endLine == cpos.line)=true:=by rfl)(hst:zS X e es:=by rfl)(hplain:zP X cpos es:=by rfl)(hs:swapsWith (.Call (.Attribute (.Name x np) "append" apos) (e::es) [] cpos) none pos.line X.env=pure false:=by rfl) :
  BS X m (.Expr (.Call (.Attribute (.Name x np) "append" apos) (e::es) [] cpos) pos) (Aj i te):=Wf (dz (qe ģ Ō ŋ fV hv.h ha.h hbase hfew hline hst hplain) hs)
def Wc{i:Nat}(h:PS X st (wj (tBM X.K "list" Br (rF i) (zV m (iZ te vU))))):BS X m st (RN i te):=⟨PS.wk' h (by
 rintro Q σ H ⟨a,n,H0,own,ρ,P,EB,t,w⟩
 have E:=EB.env
 unfold RN at t
 split at t
 ·rename_i r ds hr
  obtain⟨v,hv,x⟩:=E.slot i _ hr
  obtain⟨l,vs,rfl,hl,ho,rs⟩:=x.cj
  refine⟨.ref l,hv,.inl ⟨rfl,vs,SqL.of ho⟩,a,n,H0,own,ρ,_,EB,Cg t,?_⟩
  rintro ks ws H1 ⟨k,d,rfl,hh⟩ A rk
  cases d with
  |list es =>
   obtain⟨hk,hlen,hn⟩:=hh
   obtain⟨y,rfl,ry⟩:=dN rk
   obtain⟨b,zs,e1,o1,hb,rz⟩:=Rp.cj ry
   subst e1
   have rz2:Rps (okK (aq a n) H0 own H .new) H1 zs es:=by
    rcases Bool.or_eq_true_iff.mp hk with q|q
    ·exact rz.mono (λa o=>bw A q o) (λ_ _ _ e=>e) λ_ _ e=>e
    ·exact(Rps.imm rz q).mono (λa o=>o.elim) (λ_ _ _ e=>e) λ_ _ e=>e
   have h1:H1 l=some (.lst vs):=A.kp l _ ho (E.ow l r hl).2.1
   have h24:=ì
   have l1:=rs.length
   have l2:=rz.length
   refine⟨l,b,vs,zs,rfl,rfl,h1,hb,by omega,?_⟩
   obtain⟨E2,F2⟩:=E.uD (vs':=vs++zs) (ds':=ds++es) A hv hl ho rs λH2 f g=>(jU f rs λd hd=>je hd).app (wD g rz2)
   exact w.nx _ σ _ _ E2 F2 hn
  |_=>exact hh.elim
 ·exact t.elim)⟩
def extend{i:Nat}{x:Str}{apos cpos np:Pos}(hv:WV X (.Name x np) i)(ha:BA X m (e::es) (iZ te vU))(hbase:attributeBase (.Name x np) "extend" X.env (eval (.Name x np) X.env)=eval (.Name x np) X.env:=by rfl)(hfew:zW X cpos (e::es):=by rfl)(hline:(apos.endLine == cpos.line)=true:=by rfl)(hst:zS X e es:=by rfl)(hplain:zP X cpos es:=by rfl)(hs:swapsWith (.Call (.Attribute (.Name x np) "extend" apos) (e::es) [] cpos) none pos.line X.env=pure false:=by rfl) :
  BS X m (.Expr (.Call (.Attribute (.Name x np) "extend" apos) (e::es) [] cpos) pos) (RN i te):=Wc (dz (qe ģ PySem.F.slot_list_extend PySem.F.type_list_extend Ej hv.h ha.h hbase hfew hline hst hplain) hs)
def QV{A:Addr}{k:Kd}:okB (aq A n) H0 own k=okB (aq A m) H0 own k:=by cases k <;> rfl
def for_{tg iter:Expr}{body:List Stmt}{ti:DI}{g:DG}{tb:DS}{mi mb:Nat}(hp:PassesOwn (model X.prog X.w) X.A X.env X.xe)(hc:X.calm=true)(hi:BI X mi tg iter ti)(hg:WDG X tg g)(hb:BSs X mb body tb)(hs:zF X iter:=by intro _;rfl):BS X (mi+1000 * mb) (.For tg iter body [] pos) (Nj (V9 ti) g (sS tb)):=⟨PS.wk' (yN hp hc hi.h hg.h hb.h hs) (by
 rintro Q σ H ⟨a,n,H0,own,ρ,P,E,t,w⟩
 refine⟨a,n+1000 * mb,H0,own,ρ,_,E.first,t,λk ds J H1 Ok h A W o1=>?_⟩
 obtain⟨hlen,hk,Iv,i0,step,done⟩:=h
 have A0:At (aq a n) H0 own H H1:=A.lv (by omega)
 have w1:=w.go A0.frs
 have okS:∀own' H',FrS (aq a n) own H1 own' H'->Ok H':=λown' H' F=>W.stab H1 H' o1 (λb o n e=>by
  have o2:=bw A (k:=.shr) hk n.1
  exact(F.keep b o e o2.1 o2.2).1) F.tup
 refine⟨λi m σ' H'=>m=ds.length - i/\i<=ds.length/\∃own' ρ',stp ρ'=ρ'/\(aq a (n+(ds.length - i) * mb)).PI H'/\EnvD (aq a n) H0 own' σ' H' ρ'/\FrS (aq a n) own H1 own' H'/\Iv i ρ',⟨_,rfl,ä _,own,ρ,E.st,aD A.pen (Nat.add_le_add_left (Nat.mul_le_mul_right _ (by omega)) _),E.env.go A0.kp A0.pen,FrS.refl,i0⟩,?_⟩
 rintro i m σ' H' ⟨rfl,hi,own',ρ',hst,I',E',F',iv⟩
 have oH:=okS own' H' F'
 by_cases hlt:i<ds.length
 ·rw[xr hlt] at I'
  refine .inr ⟨W.go i H' oH hlt,λσ2 H2=>∃own' ρ',stp ρ'=ρ'/\(aq a (n+(ds.length - (i+1)) * mb)).PI H2/\EnvD (aq a n) H0 own' σ2 H2 ρ'/\FrS (aq a n) own H1 own' H2/\Iv (i+1) ρ',λσ2 H2 h=>⟨_,by omega,rfl,hlt,h⟩,λx H2 y=>?_⟩
  generalize hN:n+(ds.length - (i+1)) * mb=N at *
  have nN:n<=N:=by omega
  obtain⟨sm,rx⟩:=W.yld i H' x H2 oH y
  have rx:=rx ds[i] (È hlt)
  have I2:(aq a (N+mb)).PI H2:=(aq a (N+mb)).mono H' H2 (by rw[←hN,Nat.add_assoc];exact I') λb o _ e=>sm b o e
  have E2:EnvD (aq a n) H0 own' σ' H2 ρ':=E'.go (Kp.of sm) (aD I2 (by omega))
  have F2:FrS (aq a n) own H1 own' H2:=⟨λb o e n z=>let ⟨x,y⟩:=F'.keep b o e n z;⟨sm b o x,y⟩,λa xs e=>sm a _ (F'.tup a xs e)⟩
  have rb:Rp (okB (aq a n) H0 own' (elK k)) H2 x ds[i]:=by
   have:=Og hk A (gP F2) rx
   rw[QV (m:=n)] at this
   exact this
  refine⟨aq a n,H0,own',ρ',_,_,_,E2,fM rb,step i ds[i] ρ' (È hlt) iv,λσ3 ρ3 E3 t3=>?_⟩
  have nxt:∀own4 σ4 H4 ρ4,EnvD (aq a N) H0 own4 σ4 H4 ρ4->FrS (aq a N) own' H2 own4 H4->Iv (i+1) (stp ρ4)->∃own' ρ',stp ρ'=ρ'/\(aq a N).PI H4/\EnvD (aq a n) H0 own' σ4 H4 ρ'/\FrS (aq a n) own H1 own' H4/\Iv (i+1) ρ':=λown4 σ4 H4 ρ4 E4 F4 v4=>⟨own4,stp ρ4,yG _,E4.pen,E4.lv (aD E4.pen nN),F2.trans (gP F4),v4⟩
  exact⟨a,N,H0,own',stp ρ3,_,⟨yG _,I2,E3.lv (aD I2 (by omega))⟩,t3,⟨nxt,λd v H' h r=>w.rt d v H' h (pR r nN),λo s h r e f nn=>w1.nx o s h (stp r) (e.lv (aD e.pen nN)) (F2.trans (gP f)) nn,nxt⟩⟩
 ·have e:i=ds.length:=by omega
  subst e
  exact .inl ⟨W.stop H' oH,w1.nx own' σ' H' ρ' E' F' (done ρ' iv)⟩)⟩
end
def wz:∀(ds:List D) (k:Nat),stp (ds.map aB++Ë k .any)=ds.map aB++Ë k .any:=λds k=>by
 unfold stp
 rw[ó,List.map_replicate,ï]
 congr 1
 refine Ő λd _=>?_
 show Pk (aB d)=aB d
 unfold aB
 split <;> rfl
def vI{f:List D->(D->Prop)->Prop}{T:DS}{N:List Str}{vs:List V}{H:Hp}{Q:VK}{E:XK}{M M':Nat}(h:dF M' f vs H Q E)(hm:Nat.ble M M'=true)(body:∀ds P,f ds P->∃ρ,ds.map aB++Ë (N.length - (ds.length+1)) .any=ρ/\T { nx:=λ_=>P .none,rt:=P } (.pen TP::ρ)):zU M T { nx:=λ_ H'=>Q .non H',rt:=Q } (L2.start N vs) H:=by
 have hm:=Nat.le_of_ble_eq_true hm
 obtain⟨a,n,vs',ds,P,rfl,pi,r,t,k⟩:=h
 obtain⟨ρ,e,b⟩:=body ds P t
 have E:=CP (C:=TP) (p:=aq a n) (N:=N) trivial trivial (aD pi (by omega)) r
 rw[e] at E
 have st:stp (.pen TP::ρ)=.pen TP::ρ:=by
  rw[←e]
  exact congrArg (List.cons (Sl.pen TP)) (wz ds _)
 exact⟨a,n,H,λ_=>none,_,_,⟨st,aD pi (by omega),E⟩,b,⟨λo s h' r' e' _ nn=>k _ _ h' nn e'.k0 e'.pen .non,λd v h' nn w=>k d v h' nn w.k0 w.pen (w.rp.mono (λ_ o=>o.1) (λ_ _ _ e=>e) λ_ _ e=>e),λ_ _ _ _ _ _ n=>n.elim,λ_ _ _ _ _ _ n=>n.elim⟩⟩
end
def Kg(K:Ñ)(pre:List D->Prop):Sp:=λvs H Q _=>∃(sc:Addr) (ns:List Int) (vs':List V) (ds:List D),vs=.ref sc::vs'/\SqL K H sc (ns.map V.int)/\Rps (λ_=>True) H vs' ds/\pre ds /\
 ∀a H',(aq a 1152921504606846976).PI H'->Same H H'->H a=none->Q (.ref a) H'
def Nb{G:Gr}{p:Pn}{H0 H:Hp}{own:Addr->Option Nat}{σ:L2.St}{ρ:List Sl}(E:@EnvD G p H0 own σ H ρ):@EnvD grT p H0 own σ H ρ:=@EnvD.mk grT _ _ _ _ _ _ E.k0 E.pen E.ow E.slot E.len trivial
def JC{G:Gr}{p:Pn}{H0 H:Hp}{own:Addr->Option Nat}{σ:L2.St}{ρ:List Sl}(g:G.G p H0)(E:@EnvD grT p H0 own σ H ρ):@EnvD G p H0 own σ H ρ:=@EnvD.mk G _ _ _ _ _ _ (@EnvD.k0 grT _ _ _ _ _ _ E) (@EnvD.pen grT _ _ _ _ _ _ E) (@EnvD.ow grT _ _ _ _ _ _ E) (@EnvD.slot grT _ _ _ _ _ _ E) (@EnvD.len grT _ _ _ _ _ _ E) g
variable {X:Cx}{K:Ñ}{sc:Addr}{ns:List Int}{pre:List D->Prop}
def anyI{G:Gr}{tg e:Expr}{t:DI}(h:@WDI grT X tg e t):@PDI G X tg e t:=PI.wk (@WDI.h grT _ _ _ _ h) (by
 rintro σ H Q ⟨p,H0,own,ρ,P,E,t,q⟩
 exact⟨p,H0,own,ρ,P,Nb E,t,q⟩)
def Wg{G:Gr}{e:Expr}{g:DG}(h:@WDG grT X e g):@PDG G X e g:=PG.wk (@WDG.h grT _ _ _ h) (by
 rintro v σ H Q ⟨p,H0,own,ρ,k,d,P,E,r,t,q⟩
 exact⟨p,H0,own,ρ,k,d,P,Nb E,r,t,λσ' ρ' E' h=>q σ' ρ' (JC E.gr E') h⟩)
def Vc{G:Gr}{ss:List Stmt}{t:DS}(h:@WDSs grT X ss t):@lZ G X ss t:=PSs.wk' (@WDSs.h grT _ _ _ h) (by
 rintro Q σ H ⟨p,H0,own,ρ,P,E,t,w⟩
 exact⟨p,H0,own,ρ,P,Nb E,t,@Wish.mk grT _ _ _ _ _ _ (λo s h r e f n=>w.nx o s h r (JC E.gr e) f n) w.rt (λo s h r e f n=>w.bk o s h r (JC E.gr e) f n) (λo s h r e f n=>w.ct o s h r (JC E.gr e) f n)⟩)
def vm:Sl->Sl
 |.im d=>.im d
 |.scr v _=>.scr v false
 |_=>.any
def QD(sc:Addr)(ρ:List Sl):List Sl:=.scr (.ref sc) false::Ë (ρ.length - 1) .any
def Wd(sc:Addr)(pre:List D->Prop)(i:Nat)(t1:DA)(t:DS):DS:=λP ρ=>(∃b,ρ[0]?=some (.scr (.ref sc) b))/\i<ρ.length/\t1 ρ λks=>pre (ks.map (·.2))/\t { nx:=λr=>(∃b,r[0]?=some (.scr (.ref sc) b))/\r.length=ρ.length/\P.nx (QD sc ρ),rt:=P.rt } ((ρ.map vm).set i (.pen TP))
end Wb
namespace Wr
open PySem L2 PyProof.Rows Dl
variable [Gr] {X:Cx}{pos:Pos}{a b:Expr}{ta tb:DE}
end Wr
namespace Dl
open PySem L2 PyProof.Rows
@[reducible] def grE(a CN:Addr):Gr:=⟨λp H0=>p=eF/\H0 a=some (jx a (.ref CN))⟩
variable {X:Cx}{pos:Pos}
structure RefK(K:Ñ)(mg:Str->Option Value)(xN:Str)(xs:List Str)(CN CF c1 c2 c3 c4 c5 c6 c7 c8 c9:Addr):Prop where
 mF:mg "FallError"=some (.ref CF)
 mN:mg xN=some (.ref CN)
 m1:mg (xs.getD 0 "")=some (.ref c1)
 m2:mg (xs.getD 1 "")=some (.ref c2)
 m3:mg (xs.getD 2 "")=some (.ref c3)
 m4:mg (xs.getD 3 "")=some (.ref c4)
 m5:mg (xs.getD 4 "")=some (.ref c5)
 m6:mg (xs.getD 5 "")=some (.ref c6)
 m7:mg (xs.getD 6 "")=some (.ref c7)
 m8:mg (xs.getD 7 "")=some (.ref c8)
 m9:mg (xs.getD 8 "")=some (.ref c9)
 mV:mg "ValueError"=none
 exm:W.exmOne K (.ref CN) (.ref CF)=some true
 kx:ExcK K CN
 no:∀c∈[ü c1,.ref c2,.ref c3,.ref c4,.ref c5,.ref c6,.ref c7,.ref c8,.ref c9],Ŕ K (.ref CN) c=some false
 one:Ŕ K (.ref CN) (.ref CN)=some true
 val:Ŕ K (.ref CN) (.type "ValueError")=some true
def rR:bootBuiltins "ValueError"=some (.type "ValueError"):=by decide +kernel
end Dl
namespace L2
open PySem PySem.Spec PyProof.Rows
variable {X:Cx}{k:Nat}{f CF:Addr}{fd:FuncData}{ps:List Str}{sp:Sp}{x hx n:Str}{p np cpos epos hpos:Pos}{e:Expr}{es:List Expr}{t:TA}{b₀:Stmt}{suite:List Stmt}{ts:TS}{j:Nat}
end L2
namespace PySem
open PyProof.Rows
section
variable {prog:Program}{w:World}{A:Around}{E:Value->Shared->Prop}{s:Shared}
def mY:entryFor table "proto.unchain"=some Builtin.«proto.unchain»:=entryFor_of_tree (by kernel_rfl)
def Ac{e h:Value}{a:Addr}{oh:Obj}{ws:Array Value}{Q:Value->Shared->Prop}(hH:s.heap.get? a=some oh)(hD:oh.data=.fields ws)(hc:ws[2]?=some .none)(q:Q .none s) :
  wpAny (model prog w) A (runValue (.builtin "proto.unchain" ⟨[e,.ref a,h,.bool false],[]⟩)) Q E s:=by
 refine wpAny_runValue (codeAny_builtin mY ?_)
 unfold Builtin.«proto.unchain»
 refine Â (Ĳ hH hD hc ?_)
 rw[if_pos (show(ý == ý)=true from rfl)]
 exact Ê q
def xP{α:Type}{e h:Addr}{oe:Obj}{vs:Array Value}{Q:α->Shared->Prop}(hh:A.handled=some (.ref h))(ne:h≠e)(he:s.heap.get? e=some oe)(hd:oe.data=.fields vs)(hs:2<vs.size)(nc:gb s.heap h)(q:E (.ref e) { s with heap:=s.heap.update e (Obj.mapFields (·.setIfInBounds 2 (.ref h))) }):wpAny (model prog w) A (raiseNew (.ref e):Sem α) Q E s:=by
 obtain⟨oh,ws,hH,hD,hc⟩:=nc
 unfold raiseNew
 refine Â (wpAny_handled ?_)
 rw[hh]
 dsimp only
 rw[if_pos (show(ü h != ü e)=true from by simpa using ne)]
 refine Â (ö (Ac hH hD hc (Â ?_)))
 unfold updateField
 refine Â (wpAny_load he ?_)
 rw[hd]
 dsimp only
 rw[if_pos hs]
 exact wpAny_update he (wpAny_throw q)
def Cw{α:Type}{h:Addr}{Q:α->Shared->Prop}(hh:A.handled=some (.ref h))(nc:gb s.heap h)(q:∀(e:Addr) (g:Heap),(∀b o,s.heap.get? b=some o->g.get? b=some o)->(∃oe,g.get? e=some oe/\oe.cls=.type "StopIteration")->E (.ref e) { s with heap:=g }) :
  wpAny (model prog w) A (newExc (.type "StopIteration") [] >>= λe=>(raiseNew e:Sem α)) Q E s:=by
 refine Â ?_
 simp only[newExc,newTuple]
 refine Â (Ŀ ?_ (by size_fits))
 refine Â (m:=firstArgMember _ _) (wpAny_of_eq (a:=ý) (by simp only[firstArgMember];rfl) ?_)
 refine Ŀ ?_ (by size_fits)
 have hlt:h<s.heap.objs.size:=by obtain⟨_,_,e,_⟩:=nc;exact Ç e
 refine xP hh (ß (by rw[Ĵ];exact Ā hlt)) (Õ _ rfl) rfl (by simp;omega) ?_ (q _ _ (λb o eb=>?_) ⟨_,ğ _ (Õ _ rfl) (Obj.isFreed_of_fields (Obj.data_mapFields rfl _)),Obj.cls_mapFields _ _⟩)
 ·obtain⟨oh,ws,a,b,c⟩:=nc
  exact⟨oh,ws,Æ _ (Æ _ a),b,c⟩
 ·refine(æ _ _ (ł ?_)).trans (Æ _ (Æ _ eb))
  rw[Ĵ]
  exact Ā (Ç eb)
def xQ{it l h:Addr}{i:Nat}{items:Array Value}{Q:Option Value->Shared->Prop}(hh:A.handled=some (.ref h))(nc:gb s.heap h)(ne:h≠it)(hit:s.heap.IsListIter it l i)(hl:s.heap.IsList l items)(hx:items[i]?=none)(q:∀g,Heap.ExtBut it s.heap g->Q none { s with heap:=g }):wpAny (model prog w) A (pyNext (.ref it)) Q E s:=by
 obtain⟨o,ho,hc,hd⟩:=id hit
 obtain⟨ol,hol,_,nl,hdl⟩:=hl
 unfold pyNext
 refine Â (wpAny_attempt (ŀ (name:=ð "__next__") hit.typeIs slot_listiter_next (Ŗ slot_listiter_next hit.typeIs entry_listiter_next ?_ (args_listiter_next _))))
 refine Â (m:=field (.ref it) 0) (Ĳ ho hd (x:=.ref l) rfl ?_)
 rw[if_neg (show ¬((ü l == ý)=true) by exact É)]
 refine Â (m:=field (.ref it) 1) (Ĳ ho hd (x:=.int i 0) rfl ?_)
 refine Â (m:=seqItems? (.ref l)) (wpAny_seqItems hol hdl ?_)
 simp only[Ļ,hx]
 refine Â (wpAny_rule (Â (wpAny_setField ho hd (by simp) ?_)))
 refine Cw (A:=A.in1) hh (nc.other (ă ne)) λe g k ⟨oe,ge,ce⟩=>?_
 refine Â (wpAny_isInstance (T:="StopIteration") (b:=true) ⟨oe,ge,ce⟩ isSubtype_stop ?_)
 exact Ê (q _ λb o nb eb=>k b o ((æ _ _ (ă nb)).trans eb))
def vA{it t h:Addr}{i:Nat}{items:Array Value}{Q:Option Value->Shared->Prop}(hh:A.handled=some (.ref h))(nc:gb s.heap h)(ne:h≠it)(hit:IsTupIter s.heap it t i)(ht:IsTup s.heap t items)(hx:items[i]?=none)(q:∀g,Heap.ExtBut it s.heap g->Q none { s with heap:=g }):wpAny (model prog w) A (pyNext (.ref it)) Q E s:=by
 obtain⟨o,ho,hc,hd⟩:=id hit
 obtain⟨ol,hol,_,nl,hdl⟩:=ht
 unfold pyNext
 refine Â (wpAny_attempt (ŀ (name:=ð "__next__") hit.typeIs slot_tupleiter_next (Ŗ slot_tupleiter_next hit.typeIs entry_tupleiter_next ?_ (args_tupleiter_next _))))
 refine Â (m:=field (.ref it) 0) (Ĳ ho hd (x:=.ref t) rfl ?_)
 rw[if_neg (show ¬((ü t == ý)=true) by exact É)]
 refine Â (m:=field (.ref it) 1) (Ĳ ho hd (x:=.int i 0) rfl ?_)
 refine Â (m:=seqItems? (.ref t)) (wpAny_seqItems hol hdl ?_)
 simp only[Ļ,hx]
 refine Â (wpAny_rule (Â (wpAny_setField ho hd (by simp) ?_)))
 refine Cw (A:=A.in1) hh (nc.other (ă ne)) λe g k ⟨oe,ge,ce⟩=>?_
 refine Â (wpAny_isInstance (T:="StopIteration") (b:=true) ⟨oe,ge,ce⟩ isSubtype_stop ?_)
 exact Ê (q _ λb o nb eb=>k b o ((æ _ _ (ă nb)).trans eb))
def oM{env:Env}{elts:List Expr}{x1:Nat}{pos:Pos}{t h:Addr}{items:Array Value}{Q:Unit->Shared->Prop}(hh:A.handled=some (.ref h))(nc:gb s.heap h)(ht:IsTup s.heap t items)(hn:(assignEach elts env).length=items.size)(hstar:(assignEach elts env).findIdx? (·.1)=none)(q:∀g,Heap.ExtBut s.heap.objs.size s.heap g->wpAny (model prog w) A (assignInOrder ((assignEach elts env).map (·.2)) items.toList) Q E { s with heap:=g }):wpAny (model prog w) A (assign (.Tuple elts x1 pos) env (.ref t)) Q E s:=by
 have nt:t≠s.heap.objs.size:=by obtain⟨o,ho,_⟩:=ht;exact ß (Ç ho)
 have nh:h≠s.heap.objs.size:=by obtain⟨_,_,e,_⟩:=nc;exact ß (Ç e)
 rw[assign_Tuple]
 refine Â (wpAny_standAt ?_)
 unfold unpack
 rw[hn,hstar]
 refine Â (ö ?_)
 unfold unpackItems
 refine Â ?_
 unfold notIterableAtAll
 refine Â (wpAny_specialOf ht.typeIs slot_tuple_iter.lookup (Ê ?_))
 simp only[Ĥ,if_false]
 refine Â (ö (iter_tuple ht (Â (ö (draw_tuple nt items.size 0 _ _ ⟨_,Õ _ rfl,rfl,rfl⟩ (ht.push _) (by omega) λg1 it1 s1=>?_)))))
 have all:ś items.size (ū 0 items.toList)=items.toList:=by
  rw[List.drop_zero]
  exact Ł (by simp)
 rw[all,if_neg (by simp)]
 have nc1:gb g1 h:=by
  obtain⟨oh,ws,a,b,c⟩:=nc
  exact⟨oh,ws,s1.extBut _ _ nh (Æ _ a),b,c⟩
 refine Â (ö (vA hh nc1 nh it1 ((ht.push _).extBut s1.extBut nt) (by simp) λg2 e2=>?_))
 simp only[Option.isSome_none,Ĥ,if_false]
 exact Ê (q g2 λb o nb eb=>e2 b o nb (s1.extBut b o nb (Æ _ eb)))
end
end PySem
namespace L2
open PySem PySem.Spec PyProof.Rows
def SC(X:Cx):Prop:=∃q,q∈X.sf
def NoC(o:Obj):Prop:=∃ws,o.data=.fields ws/\ws[2]?=some .none
def SC.at{X:Cx}{pins:List (Addr×Obj)}{σ:St}{H:Hp}{s:Shared}(S:SC X)(I:Inv X pins σ H s):∃e,X.A.handled=some (.ref e)/\gb s.heap e/\∃u,H e=some u:=by
 obtain⟨q,hq⟩:=S
 obtain⟨a,b,ws,c,d⟩:=I.ok.sof q hq
 have z:=I.base.frzs _ _ _ b
 exact⟨q.1,a,⟨q.2.1,ws,(I.hok _ _ z).1,c,d⟩,_,z⟩
def Di{P:Program}{w:World}{K:Ñ}{tg:Expr}(a it:Addr):TurnG SC P w K tg (Itl K a) [it] it (λi h=>h.IsListIter it a i) where
 mem:=by simp
 obj:=(mD (P:=P) (w:=w) (K:=K) (tg:=tg) a it).obj
 keep:=(mD (P:=P) (w:=w) (K:=K) (tg:=tg) a it).keep
 item:=by
  rintro X rfl rfl rfl hc i pins s σ H E I hf st ⟨xs,x,hq,hx⟩
  obtain⟨its,rv,p,hz⟩:=I.list hq
  obtain⟨u,hu,ru⟩:=rv.get hx
  obtain⟨f0,f1,f2,f3,f4,f5⟩:=hf it (by simp)
  refine wpAny_pyNext_list_item st p.isList (x:=u) (by simpa using hu) λg st' sb=>?_
  obtain⟨o,e,c,d⟩:=id st'
  exact⟨u,rfl,Cy (s:={ s with heap:=g }) e c d (by decide) ⟨x,H,I.turned (t':=s.toks) (λb o hb e=>(sb.2 b hb).trans e) f0 f1 f3 f4 f5,ru,⟨rfl,λys hy=>by rw[I.xG hy hq];exact hx⟩,st',λb hb=>(hf b hb).1⟩⟩
 done:=by
  rintro X rfl rfl rfl hc i pins s σ H E I hf st ⟨xs,hq,hx⟩
  obtain⟨its,rv,p,hz⟩:=I.list hq
  obtain⟨f0,f1,f2,f3,f4,f5⟩:=hf it (by simp)
  have hl:=rv.length
  obtain⟨e,hh,nc,u,eu⟩:=hc.at I
  exact xQ hh nc (λz=>by rw[z,f0] at eu;cases eu) st p.isList (by simp;omega) λg eb=>⟨rfl,I.turned (t':=s.toks) (λb o hb e=>eb b o hb e) f0 f1 f3 f4 f5⟩
 self:=λ_ _ _ _ _ st h=>wpAny_pyIter_listiter st h
section
variable {X:Cx}{tg:Expr}
def KJ{l:Expr}{tl:TE}(hl:PE X l tl):PIG SC X tg l (Uu X.K tl):=by
 intro pins s σ H R I h
 refine thn (hl pins s σ H _ I h) λv s1 ⟨x,H1,I1,r1,a,e,⟨xs,hq⟩,q⟩=>?_
 subst e
 cases r1
 obtain⟨its,rv,p,hz⟩:=I1.list hq
 refine wpAny_pyIter_list p.isList ⟨s1.heap.objs.size,[s1.heap.objs.size],_,_,H1,rfl,I1.kept (t':=s1.toks) λb o e=>Æ _ e,Di a _,⟨_,Õ _ rfl,rfl,rfl⟩,λb hb=>?_,q⟩
 rw[Ò.mp hb]
 exact I1.MP (Ì _) (I1.hok.fresh (Ì _))
def KQ{es:List Expr}{k:Nat}{t:TGs}{n:Nat}{pos:Pos}(hc:SC X)(h:PGs X es t)(hn:(assignEach es X.env).length=n:=by rfl)(hst:(assignEach es X.env).findIdx? (·.1)=none:=by rfl):PG X (.Tuple es k pos) (Uw X.K n t):=by
 rintro pins s σ H v u Q I r ⟨a,xs,rfl,hq,hl,hw⟩
 cases r
 obtain⟨its,rv,ht,hz⟩:=I.tuple hq
 obtain⟨e,hh,nc,_⟩:=hc.at I
 refine oM hh nc ht (by simp[hn,←hl,rv.length]) hst λg hx=>?_
 exact h pins _ σ H xs _ Q (I.kept (t':=s.toks) λb o e=>hx b o (ß (Ç e)) e) (by simpa using rv) hw
end
structure RoomD(k:Nat)(A:Around):Prop where
 dp:A.depth+3 * k+5<recursionLimit
 un:A.units+16 * k+200<cLine
def RoomD.units{k:Nat}{A:Around}(r:RoomD k A):A.units+64<cLine:=by have:=r.un;omega
abbrev cxH(P:Program)(w:World)(K:Ñ)(mg:Str->Option Value)(base:Heap)(N:List Str)(qual:Str)(scope:Scope)(f:Addr)(cd:Value)(A:Around)(outer:List Env)(s:Shared)(H:Hp)(q:Addr×Obj×HO):Cx :=
 { rP CX0 P w K mg base N qual scope f cd A outer s H E0 with calm:=false,xe:=λ_ _=>False,sf:=[q] }
structure FnOkH(P:Program)(w:World)(K:Ñ)(mg:Str->Option Value)(base:Heap)(k:Nat)(f:Addr)(fd:FuncData)(ps:List Str)(sp:Addr×Obj×HO->Sp):Prop where
 len:∀q vs H Q E,sp q vs H Q E->vs.length=ps.length
 run:∀(A:Around) (outer:List Env) (s:Shared) (H:Hp) (args:Args) (us:List Value) (vs:List V) (Q:VK) (q:Addr×Obj×HO),A.handled=some (.ref q.1)->H q.1=some (.frz q.2.1 q.2.2)->NoC q.2.1->RoomD k A->Env0 P w K mg base A outer s H->BindsTo s fd args (ps.zip us)->Vals vs us->sp q vs H Q E0 ->
  codeAny (model P w) A (.call (.ref f) args) (CR CX0 outer P w H s Q E0) s
def Aa{P:Program}{w:World}{K:Ñ}{mg:Str->Option Value}{base:Heap}{N ps:List Str}{qual:Str}{scope:Scope}{f:Addr}{cd:Value}{A:Around}{outer:List Env}{s s1:Shared}{H:Hp}{us:List Value}{vs:List V}{q:Addr×Obj×HO}(S:FnScope N ps scope)(hd:A.handled=some (.ref q.1))(hz:H q.1=some (.frz q.2.1 q.2.2))(nc:NoC q.2.1)(e0:Env0 P w K mg base A outer s H)(hl:vs.length=ps.length)(r:Vals vs us)(x:InCallC s s.heap.objs.size (bindL (envOfC qual scope s.heap.objs.size f cd).kindOf (ps.zip us) λ_=>none) (cellsFrom (s.heap.objs.size+1) scope.names []) (bindC (envOfC qual scope s.heap.objs.size f cd).kindOf (ps.zip us) λ_=>none) s1) :
  Inv (cxH P w K mg base N qual scope f cd A outer s H q) [] (start N vs) H s1:=by
 have i:=tu (CX:=CX0) (A:={ A with handled:=none }) (E:=E0) S rfl ⟨e0.frames,e0.mod,e0.bs,e0.bsz,e0.gY,e0.frf,e0.hok,e0.bare⟩ hl r x
 exact⟨⟨i.ok.mod,i.ok.kind,i.ok.glob,i.ok.blt,i.ok.above,i.ok.inj,i.ok.has,i.ok.cab,(λh=>nomatch h),Around.frames_deeper e0.frames,i.ok.stk,i.ok.exf,i.ok.bs,i.ok.bsz,i.ok.noex,i.ok.exfs,i.ok.gY,i.ok.frf,λy hy=>by
  rw[Ò.mp hy]
  exact⟨hd,hz,nc⟩⟩,i.os,i.bare,i.base,i.loc,i.cell,i.free,i.freeC,i.pin,i.hok,i.len⟩
def Fun.okH{P:Program}{w:World}{K:Ñ}{mg:Str->Option Value}{base:Heap}{x qual:Str}{st:Stmt}{f:Addr}{fd:FuncData}{N ps:List Str}{k:Nat}{sp:Addr×Obj×HO->Sp}(F:Fun K x qual st f fd)(S:FnScope N ps (aj st))(len:∀q vs H Q E,sp q vs H Q E->vs.length=ps.length)(hbody:∀(cdv:Value) (A:Around) (outer:List Env) (s:Shared) (H:Hp) (vs:List V) (Q:VK) (q:Addr×Obj×HO),RoomD k (A.deeper (envOfC qual (aj st) s.heap.objs.size f cdv))->H q.1=some (.frz q.2.1 q.2.2)->sp q vs H Q E0 ->
   ∃t,PSs (cxH P w K mg base N qual (aj st) f cdv A outer s H q) (bO st) t/\t { nx:=λ_ H'=>Q .non H',rt:=Q } (start N vs) H):FnOkH P w K mg base (k+1) f fd ps sp:=by
 obtain⟨oc,od,kV,doc,pm,an,cdv,ct,osl,rfl,lk,hcd⟩:=F.ex
 refine⟨len,λA outer s H args us vs Q q hd hz nc hr e0 hb r hsp=>?_⟩
 have hl:=len _ _ _ _ _ hsp
 have KX:K.In s.heap:=e0.mod.kin.keeps λb o e=>(e0.bs b o e).1
 have lim:s.heap.NoLimit:=e0.mod.nolimit.keeps λb o e=>(e0.bs b o e).1
 have hkind:∀y∈ps.zip us,(aj st).names.lookup y.1=some .local\/((aj st).names.lookup y.1=some .cell/\((cellsFrom (s.heap.objs.size+1) (aj st).names []).lookup y.1).isSome=true):=λ⟨n,v⟩ hy=>by
  rcases S.par n (List.of_mem_zip hy).1 with q|q
  ·exact .inl q
  ·exact .inr ⟨q,W.cellsFrom_some _ _ _ (.inl q)⟩
 have hdp:A.depth<recursionLimit:=by have:=hr.dp;omega
 refine codeAny_call_function hdp (KX _ _ lk) rfl S.co S.gen rfl (W.codeRec_of KX hcd) (hb _ _ _ _ ?_)
 refine wpAny_newFunctionEnv_cells S.kind hkind λenv he s1 x=>?_
 subst he
 refine⟨lim.keeps x.toInCall.keep,codeAny_func ?_⟩
 obtain⟨t,ht,hq⟩:=hbody cdv A outer s H vs Q q ⟨by have:=hr.dp;show A.depth+1+3 * k+5<_;omega,by have:=hr.un;show A.units+3+16 * k+200<_;omega⟩ hz hsp
 have I:=Aa (f:=f) (cd:=cdv) (qual:=qual) S hd hz nc e0 hl r x
 refine ĩ (ht [] s1 (start N vs) H _ I hq) (λfl s' hs=>?_) λe s' hs=>è hs
 cases fl with
 |ret u =>
  obtain⟨v,σ',H',J,rv,q⟩:=hs
  exact⟨v,H',J.os,J.bare,J.base,J.hok,rv,q⟩
 |next =>
  obtain⟨σ',H',J,q⟩:=hs
  exact⟨.non,H',J.os,J.bare,J.base,J.hok,rfl,q⟩
 |brk =>
  obtain⟨_,_,_,q⟩:=hs
  exact è q
 |cont =>
  obtain⟨_,_,_,q⟩:=hs
  exact è q
structure CalH(P:Program)(w:World)(K:Ñ)(mg:Str->Option Value)(base:Heap)(k:Nat)(x:Str)(ps:List Str)(sp:Addr×Obj×HO->Sp):Prop where
 ex:∃f fd,FnOkH P w K mg base k f fd ps sp/\Binds K fd ps []/\W.keepIn K (.ref f)=true/\mg x=some (.ref f)
def Gi(a:Addr)(sp:Addr×Obj×HO->Sp)(t:TA):TE:=λσ H Q=>t σ H λvs H1=>∃oe u,H1 a=some (.frz oe u)/\NoC oe/\sp (a,oe,u) vs H1 Q E0
def qd{X:Cx}{a:Addr}{k j:Nat}{x:Str}{ps:List Str}{sp:Addr×Obj×HO->Sp}{e:Expr}{es:List Expr}{t:TA}{p pos:Pos}(C:CalH X.prog X.w X.K X.mg X.base k x ps sp)(hr:Room j X.A)(ha:PA (X.handling (.ref a)) (e::es) t)(hk:k<=j)(hg:Gl X x)(hdb:zB x)(he:zS X e es)(hpl:zP X pos es) :
  PE (X.handling (.ref a)) (.Call (.Name x p) (e::es) [] pos) (Gi a sp t):=by
 intro pins s σ H Q I h
 obtain⟨f,fd,F,hb,kp,hm⟩:=C.ex
 refine ĸ (jm I hg hm ?_ hdb)
 refine W.callWith_K (h₀:=X.base) I.ok.mod.kin kp (thn (ha pos pins s σ H _ I h) λus s1 ⟨vs,H1,I1,r,oe,u,hz,nc,q⟩=>⟨I1.kIn,?_⟩) he hpl
 have hl:us.length=ps.length:=by rw[←r.length];exact F.len _ _ _ _ _ q
 have hb1:=hb s1 us I1.kIn (by rw[í];exact hl)
 rw[í] at hb1
 refine wpAny_call (codeAny_mono (F.run (X.handling (.ref a)).A X.stack s1 H1 ⟨us,[]⟩ us vs Q (a,oe,u) rfl hz nc ⟨by have:=hr.dp;show X.A.depth+3 * k+5<_;omega,by have:=hr.un;show X.A.units+16 * k+200<_;omega⟩ I1.env0 hb1 r q) λrr s' hq=>?_)
 cases rr with
 |error e=>exact è hq
 |ok fl =>
  cases fl with
  |ret u=>exact I1.after hq
  |next=>exact è hq
  |brk=>exact è hq
  |cont=>exact è hq
section
variable {X:Cx}{k:Nat}{f CF:Addr}{fd:FuncData}{ps:List Str}{sp:Sp}{x hx n:Str}{p np cpos epos hpos pos:Pos}{e:Expr}{es:List Expr}{t:TA}{b₀:Stmt}{suite:List Stmt}{ts:Addr->TS}{j:Nat}
def Sv(K:Ñ)(CF:Addr)(sp:Sp)(t:TA)(ts:Addr->TS)(j:Nat):TS:=λD σ H=>∃E:XK,(∀cls H',E cls none H'->W.exmOne K cls (.ref CF)=some true)/\t σ H λvs H1=>sp vs H1 (λ_ H2=>D.nx σ H2) E/\∀cls H2 a oe,E cls none H2->H2 a=none->NoC oe ->
 ts a { nx:=λσ3 H3=>D.nx (σ3.set j none) H3,rt:=D.rt } (σ.set j (some (.ref a))) (upd H2 a (.frz oe (jx a cls)))
def caught{pins:List (Addr×Obj)}{σ:St}{H1:Hp}{s1 s':Shared}{E:XK}{er:Value}{D:Ends}(hstk:X.stack=X.env::X.outer)(hfr:X.env.frame=some X.env.locals)(hgF:Gl X hx)(hmF:X.mg hx=some (.ref CF))(hN:X.N.Nodup)(hj:X.N[j]?=some n)(hloc:X.env.kindOf n=some .local)(hsu:∀a,PSs (X.handling (.ref a)) (b₀::suite) (ts a))(hdF:zB hx)(hex:X.ex=[])(hE:∀cls H',E cls none H'->W.exmOne X.K cls (.ref CF)=some true)(I1:Inv X pins σ H1 s1)(hq:CX1 X.prog X.w X.stack H1 s1 E er s')(qE:∀cls H2 a oe,E cls none H2->H2 a=none->NoC oe->ts a { nx:=λσ3 H3=>D.nx (σ3.set j none) H3,rt:=D.rt } (σ.set j (some (.ref a))) (upd H2 a (.frz oe (jx a cls)))) :
  Vd X [.ExceptHandler (some (.Name hx np)) (some n) (b₀::suite) hpos] pins D er s':=by
 obtain⟨a,cls,a0,H2,hb,rfl,os,bare,un,hok,⟨st,hn,fs,tr,nc⟩,k1,k4,hq⟩:=hq
 have hmem:∀b∈frs X.stack,∃o,s'.heap.get? b=some o/\∀vs,o.data≠.fields vs:=λb z=>(fs.mem z).2
 refine Cq (base:=hb) (by rw[I1.ok.frames,hstk]) (hstk ▸ fs) hfr tr nc st hn λh2 ⟨n1,n2,n3,n4⟩ c2=>?_
 refine jk (base:=hb) (l:=X.env::X.outer) n1 n2 n3 c2 λh3 m1 m2 m3 m4 c3=>?_
 have up3:∀b o,s'.heap.get? b=some o->(∀vs,o.data≠.fields vs)->∃sl,h3.get? b=some { o with slots:=sl }:=λb o e nf=>let ⟨sl,z⟩:=n4 b o e nf;⟨sl,m4 b _ z nf⟩
 have I3:Inv X pins σ H2 { s' with heap:=h3 }:=I1.call' (s':={ s' with heap:=h3 }) os (Ax un k1 k4 m1 hmem up3) (hok.kept m1) bare (λb z=>absurd z (by simp))
 have hH2:H2 a=none:=by
  cases z:H2 a with
  |none=>rfl
  |some u=>obtain⟨ob,e⟩:=(hok a u z).there;rw[hn] at e;cases e
 obtain⟨oe',vs',T',oT',ts',tr1,_,tr3,_⟩:=id tr
 have newA:∀ob,s1.heap.get? a≠some ob:=λob e=>by
  by_cases hf:a∈frs X.stack
  ·obtain⟨o,e2,nf⟩:=hmem a hf
   rw[tr1] at e2
   cases e2
   exact nf _ tr3
  ·obtain⟨o',e'⟩:=k4 a ob e hf
   rw[hn] at e'
   cases e'
 have look:W.Looks (model X.prog X.w) h3 (typeOf (.ref a)) cls:=λA Q E' s k q=>by
  obtain⟨oe,vs,_,_,_,e1,⟨e2,_⟩,_⟩:=m3
  refine wpAny_typeOf_ref (k _ _ e1) ?_
  rw[e2]
  exact q
 refine wpAny_handleBy_cons (codeAny_handlers_test (jm (X:=X.handling (.ref a)) (I3.handling _) hgF hmF ?_ hdF)) (by intro z;cases z)
 refine W.exm_one (K:=X.K) I3.kIn look (hE cls H2 hq) _ _ _ _ (λ_ _ z=>z) (codeAny_handlers_suite_as ?_)
 refine jk (base:=hb) (l:=X.env::X.outer) m1 m2 m3 c3 λh4 p1 p2 p3 p4 c4=>?_
 have I4:Inv X pins σ H2 { s' with heap:=h4 }:=I1.call' (s':={ s' with heap:=h4 }) os (Ax un k1 k4 p1 hmem λb o e nf=>let ⟨sl,z⟩:=up3 b o e nf;⟨sl,p4 b _ z nf⟩) (hok.kept p1) bare (λb z=>absurd z (by simp))
 obtain⟨oe,vs,_,_,_,e1,⟨e2,_⟩,e3,_⟩:=p3
 obtain⟨oe2,vs2,g1,g2,g3⟩:=c4
 rw[e1] at g1
 cases g1
 have isE:jd a cls h4:=⟨oe,vs,e1,e2,e3⟩
 have J4:Inv X pins σ (upd H2 a (.frz oe (jx a cls))) { s' with heap:=h4 }:=I4.track hH2 (λob e=>by
   obtain⟨o',e'⟩:=I1.base.there a ob e (by rw[hex];simp)
   exact newA o' e') (λz=>by
   obtain⟨m,⟨o,_,_,e,_⟩,_⟩:=I1.loc
   exact newA o (by rw[z];exact e)) (λy c e z=>by
   obtain⟨v,o,eo,_⟩:=I1.cell y c e
   exact newA o (by rw[←z];exact eo)) (λp hp z=>newA p.2 (by rw[←z];exact(I1.pin p hp).1)) ⟨e1,isE.ok⟩
 refine pJ (X:=X.handling (.ref a)) (v:=.ref a) (J4.handling _) hN hj (Ń hloc) rfl (λs5 J5=>?_) (.inr hloc)
 refine ĩ (hsu a pins s5 _ _ _ J5 (qE cls H2 a oe hq hH2 ⟨vs2,g2,g3⟩)) (λfl s6 sp6=>?_) λ_ _ z=>è z
 have hknd:(X.env.scope.kind == .class || (X.env.scope.kind == .module&&X.env.locals != X.env.globals))=false:=by rw[I1.ok.kind];rfl
 cases fl with
 |next =>
  obtain⟨σ6,H6,I6,q6⟩:=sp6
  have I6:=I6.handled I1.ok
  obtain⟨m,hm6,_⟩:=id I6.loc
  exact wpAny_nameGoes_keeps hloc hm6 hknd λh7 v hns hsb=>⟨_,H6,I6.unbound hN hj hm6 hns hsb,q6⟩
 |ret u =>
  obtain⟨v6,σ6,H6,I6,r6,q6⟩:=sp6
  have I6:=I6.handled I1.ok
  obtain⟨m,hm6,_⟩:=id I6.loc
  exact wpAny_nameGoes_keeps hloc hm6 hknd λh7 v hns hsb=>⟨v6,_,H6,I6.unbound hN hj hm6 hns hsb,r6,q6⟩
 |brk =>
  obtain⟨_,_,_,q6⟩:=sp6
  exact è q6
 |cont =>
  obtain⟨_,_,_,q6⟩:=sp6
  exact è q6
def qx(hstk:X.stack=X.env::X.outer)(hfr:X.env.frame=some X.env.locals)(F:FnOk X.prog X.w X.K X.mg X.base (CX1 X.prog X.w) k f fd ps sp)(hr:Room k X.A)(hg:Gl X x)(hm:X.mg x=some (.ref f))(hk:W.keepIn X.K (.ref f)=true)(hb:Binds X.K fd ps [])(ha:PA X.nox (e::es) t)(hgF:Gl X hx)(hmF:X.mg hx=some (.ref CF))(hN:X.N.Nodup)(hj:X.N[j]?=some n)(hloc:X.env.kindOf n=some .local)(hsu:∀a,PSs (X.handling (.ref a)) (b₀::suite) (ts a))(hdb:zB x:=by decide)(hdF:zB hx:=by decide)(he:zS X e es:=by rfl)(hpl:zP X cpos es:=by rfl)(hs:swapsWith (.Call (.Name x p) (e::es) [] cpos) none epos.line X.env=pure false:=by rfl)(hex:X.ex=[]:=by rfl) :
  PB X [.ExceptHandler (some (.Name hx np)) (some n) (b₀::suite) hpos] [.Expr (.Call (.Name x p) (e::es) [] cpos) epos] (Sv X.K CF sp t ts j):=by
 rintro pins s σ H D I ⟨E,hE,h⟩ Q hQ
 refine wpAny_execs_cons (wpAny_Expr_any (ĸ (jm I hg hm ?_ hdb)) I.quiet hs)
 refine W.callWith_K (h₀:=X.base) I.ok.mod.kin hk (ĩ (ha cpos pins s σ H _ (I.wish _) h) (λus s1 ⟨vs,H1,I1,r,q,qE⟩=>⟨I1.kIn,?_⟩) λ_ _ z=>è z) he hpl
 have I1:=I1.fC
 have hb1:=hb s1 us I1.kIn (by rw[í,←r.length];exact F.len _ _ _ _ q)
 rw[í] at hb1
 refine wpAny_call (codeAny_mono (F.run X.A X.stack s1 H1 ⟨us,[]⟩ us vs _ E hr I1.env0 hb1 r q) λrr s' hq=>?_)
 cases rr with
 |ok fl =>
  cases fl with
  |ret u =>
   obtain⟨v,H',I',r',q'⟩:=I1.after hq
   exact ţ (hQ _ σ H' I' q')
  |next=>exact è hq
  |brk=>exact è hq
  |cont=>exact è hq
 |error er=>exact caught hstk hfr hgF hmF hN hj hloc hsu hdF hex hE I1 hq qE
end
end L2
namespace Dl
open PySem L2 PyProof.Rows
@[reducible] def grH(q:Addr×Obj×HO):Gr:=⟨λp H0=>p=eF/\H0 q.1=some (.frz q.2.1 q.2.2)⟩
section
variable {X:Cx}{pos:Pos}
def JW{a:Addr}{oe:Obj}:bC X (.builtin "isinstance") (λxs H Q=>∃(C:Addr) (c:V) (cv:Value) (b:Bool),xs=[.ref a,c]/\H a=some (.frz oe (jx a (.ref C)))/\ExcK X.K C/\Ŕ X.K (.ref C) cv=some b/\(∀u,RelV c u->u=cv)/\Q (.bl b) H):=by
 rintro pins s σ H xs us Q I r ⟨C,c,cv,b,rfl,ha,k,e,hu,q⟩
 obtain⟨u,u2,rfl,rx,rc⟩:=vals2 r
 cases rx
 obtain rfl:=hu u2 rc
 have z:aU X.prog X.w H s.heap a (.frz oe (jx a (.ref C))):=I.hok a _ ha
 exact š (Jz k) I.kIn (show jd a (.ref C) s.heap from z.2.1) e (λz=>nomatch z) λtk=>⟨.bl b,H,I.tok _,rfl,q⟩
def Vq(i:Nat)(a:Addr)(b:Bool):DE:=λρ P=>ρ[i]?=some (.scr (.ref a) false)/\P .imm (.bool b)
def Qz{i:Nat}{a CN:Addr}{oe:Obj}{b:Bool}{c:V}{cv:Value}{x y:Str}{ps px py:Pos}(hm:X.mg "isinstance"=none)(hk:ExcK X.K CN)(hi:Wr.WV X (.Name y py) i)(hc:PE X (.Name x px) (tC c))(e:Ŕ X.K (.ref CN) cv=some b)(hu:∀u,RelV c u->u=cv)(hg:Gl X "isinstance":=by rfl)(h1:starEach [.Name y py,.Name x px] X.env=(false,eval (.Name y py) X.env)::starEach [.Name x px] X.env:=by rfl)(h2:starEach [.Name x px] X.env=(false,eval (.Name x px) X.env)::starEach [] X.env:=by rfl)(hpl:(backTo pos (starEach [.Name x px] X.env)).any (·.1)=false:=by rfl) :
  @Wr.WD (grH (a,oe,jx a (.ref CN))) X (.Call (.Name "isinstance" ps) [.Name y py,.Name x px] [] pos) (Vq i a b):=@Wr.WD.mk (grH (a,oe,jx a (.ref CN))) _ _ _ (PE.wk (dG (JW (a:=a) (oe:=oe)) hg hm boot_isinstance (bN hi.h (bN hc jH h2) h1) (by decide) (by decide) h1 hpl) (by
 letI:=grH (a,oe,jx a (.ref CN))
 rintro σ H Q ⟨p,H0,own,ρ,P,E,⟨hs,t⟩,q⟩
 obtain⟨rfl,g⟩:=E.gr
 obtain⟨e1,_⟩:=E.slot i _ hs
 exact⟨.ref a,e1,CN,c,cv,b,rfl,E.k0 a _ g (λz=>z),hk,e,hu,q _ _ _ _ t E.at (.bl b)⟩))
def oR(CN:Addr)(w:Str):Addr×Obj×HO->Sp:=λq vs H Q _=>vs=[.ref q.1]/\q.2.2=jx q.1 (.ref CN)/\∀H',Same H H'->Q (.str w) H'
def RL{T:DS}{N:List Str}{H:Hp}{Q:VK}{q0:Addr×Obj×HO}{w:Str}(ha:H q0.1=some (.frz q0.2.1 q0.2.2))(q:∀H',Same H H'->Q (.str w) H')(hN:1<=N.length)(body:T { nx:=λ_=>False,rt:=λd=>d=.str w } (.scr (.ref q0.1) false::Ë (N.length - 1) .any)):@nU (grH q0) T { nx:=λ_ H'=>Q .non H',rt:=Q } (L2.start N [.ref q0.1]) H:=by
 letI:=grH q0
 refine⟨eF,H,λ_=>none,_,_,?_,body,⟨λ_ _ _ _ _ _ n=>n.elim,λd v H' n r=>?_,λ_ _ _ _ _ _ n=>n.elim,λ_ _ _ _ _ _ n=>n.elim⟩⟩
 ·refine⟨λb o e _=>e,trivial,λa r e=>(nomatch e),λj s e=>?_,by unfold L2.start;simp,rfl,ha⟩
  cases j with
  |zero =>
   have e:=Ý e
   subst e
   exact⟨rfl,λz=>nomatch z⟩
  |succ j =>
   rw[Ž] at e
   have e2:=(List.mem_replicate.mp (Ó e)).2
   subst e2
   trivial
 ·have n:d=.str w:=n
  subst n
  have e:=r.rp
  cases e
  exact q H' λb o e=>r.k0 b o e λz=>z
end
section
variable [Gr] {X:Cx}{tg l iter elt:Expr}{ifs:List Expr}{scope:Scope}{pos:Pos}{tl:DE}{ti:DI}{g:DG}{tt:DT}{te:DE}{es:List Expr}
def Ur(tl:DE):DI:=λρ P=>tl ρ λk d=>match d with
 |.list ds=>P k ds
 |_=>False
def vJ(hl:PD X l tl):PIG SC X tg l (xH (Ur tl)):=λpins s σ H R I h=>KJ hl pins s σ H R I (by
 obtain⟨p,H0,own,ρ,P,E,t,q⟩:=h
 refine⟨p,H0,own,ρ,_,E,t,λk d v H1 h A r=>?_⟩
 cases d with
 |list ds =>
  obtain⟨a,vs,rfl,o,ha,rs⟩:=r.cj
  exact⟨a,rfl,⟨vs,SqL.of ha⟩,q k ds _ H1 _ h A vZ (rpA r)⟩
 |_=>exact h.elim)
def vK{gs:DGs}{k n:Nat}(hc:SC X)(h:PGs X es (mW gs))(hn:(assignEach es X.env).length=n:=by rfl)(hst:(assignEach es X.env).findIdx? (·.1)=none:=by rfl):PDG X (.Tuple es k pos) (gTp n gs):=PG.wk (KQ hc h hn hst) (by
 rintro v σ H Q ⟨p,H0,own,ρ,k,d,P,E,r,t,q⟩
 cases d with
 |tuple ds =>
  obtain⟨a,vs,rfl,ha,rs⟩:=r.d7
  exact⟨a,vs,rfl,SqT.of ha,by rw[rs.length];exact t.1,p,H0,own,ρ,k,ds,P,E,rs,t.2,q⟩
 |_=>exact t.elim)
def Kz(own:List Str){i:Nat}{y:Str}{py spos:Pos}(hc:SC X)(hN:X.N.Nodup)(hiN:X.N[i]?=some y)(hx:Loc X.env.scope y)(hi:PIG SC X tg iter (xH ti))(hg:∀c,PDG (X.comp own scope c) tg g)(ht:∀c,FJ (X.comp own scope c) ifs tt)(he:∀c,PD (X.comp own scope c) elt te)(hsw:swapsWith (.ListComp elt [⟨tg,iter,ifs,0⟩] scope pos) (some (.Name y py)) spos.line X.env=pure true)(hk:dh X.env scope X.N=true)(hs:zF X iter)(hf:zL X y) :
  PS X (.Assign [.Name y py] (.ListComp elt [⟨tg,iter,ifs,0⟩] scope pos) spos) (rG (cI (dLC own.length ti g tt te)) (iQ i)):=PS.wk' (Bw (Cm:=SC) own X.N (λ_=>hc) hN hiN hx hi hg ht he hsw (rm hk) hs hf) λD σ H q=>kZ σ H _ q
end
end Dl
namespace Wr
open PySem L2 PyProof.Rows Dl
section
variable [Gr] {X:Cx}{tg l iter elt:Expr}{ifs:List Expr}{scope:Scope}{pos:Pos}{tl:DE}{ti:DI}{g:DG}{tt:DT}{te:DE}{es:List Expr}
structure WDIH(X:Cx)(tg e:Expr)(t:DI):Prop where
 h:PIG SC X tg e (xH t)
def vJ(hl:WD X l tl):WDIH X tg l (Ur tl):=⟨Dl.vJ hl.h⟩
def vK{gs:DGs}{k n:Nat}(hc:SC X)(h:WDGs X es gs)(hn:(assignEach es X.env).length=n:=by rfl)(hst:(assignEach es X.env).findIdx? (·.1)=none:=by rfl):WDG X (.Tuple es k pos) (gTp n gs):=⟨Dl.vK hc h.h hn hst⟩
def Fd(rg:Option Nat)(own:List Str){i:Nat}{y:Str}{py spos:Pos}(hc:SC X)(hN:X.N.Nodup)(hiN:X.N[i]?=some y)(hx:Loc X.env.scope y)(hi:WDIH X tg iter ti)(hg:∀c,WDG (X.comp own scope c) tg g)(ht:∀c,WDTs (X.comp own scope c) ifs tt)(he:∀c,WD (X.comp own scope c) elt te)(hsw:swapsWith (.ListComp elt [⟨tg,iter,ifs,0⟩] scope pos) (some (.Name y py)) spos.line X.env=pure true:=by rfl)(hk:dh X.env scope X.N=true:=by rfl)(hs:zF X iter:=by intro _;rfl)(hf:zL X y:=by first|exact .inl rfl|exact .inr rfl|assumption) :
  WDS X (.Assign [.Name y py] (.ListComp elt [⟨tg,iter,ifs,0⟩] scope pos) spos) (vL i rg (dLC own.length ti g tt te)):=⟨Dl.jL rg (Kz own hc hN hiN hx hi.h (λc=>(hg c).h) (λc=>(ht c).h) (λc=>(he c).h) hsw hk hs hf)⟩
end
end Wr
namespace L2
open PySem PySem.Spec PyProof.Rows
section
variable {X:Cx}{st:Stmt}{rest:List Stmt}{t:TS}
def pX(h1:PS X st t):PSs X (st::rest) (λD σ H=>t { D with nx:=λ_ _=>False } σ H):=by
 intro pins s σ H D I h
 refine wpAny_execs_cons (thn (h1 pins s σ H _ I h) λf s1 q=>?_)
 cases f with
 |next =>
  obtain⟨_,_,_,q⟩:=q
  exact q.elim
 |ret v=>exact q
 |brk=>exact q
 |cont=>exact q
end
section
variable {P:Program}{w:World}{K:Ñ}{mg:Str->Option Value}{base:Heap}{CX:CXT}{k:Nat}{f:Addr}{fd:FuncData}{ps:List Str}{sp sp':Sp}
def FnOk.up1(F:FnOk P w K mg base CX0 k f fd ps sp):FnOk P w K mg base (CX1 P w) k f fd ps sp:=⟨F.len,λA outer s H args us vs Q E hr he hb hv hs=>codeAny_mono (F.run A outer s H args us vs Q E hr he hb hv hs) λr s' h=>by
 cases r with
 |ok fl=>cases fl <;> exact h
 |error e=>exact è h⟩
def FnOk.or(F:FnOk P w K mg base CX k f fd ps sp)(G:FnOk P w K mg base CX k f fd ps sp'):FnOk P w K mg base CX k f fd ps (λvs H Q E=>sp vs H Q E\/sp' vs H Q E):=⟨λvs H Q E h=>h.elim (F.len vs H Q E) (G.len vs H Q E),λA outer s H args us vs Q E hr he hb hv hs=>hs.elim (F.run A outer s H args us vs Q E hr he hb hv) (G.run A outer s H args us vs Q E hr he hb hv)⟩
end
def Ht{X:Cx}:OpR X (binaryOp .FloorDiv) (rI (λ_ j=>0<j/\j<1267650600228229401496703205376) λi j=>.int (i / j)):=opI λi j _ _ _ _ _ hc q=>by
 have h1:(0:Int)<j:=hc.1
 have h2:j<1267650600228229401496703205376:=hc.2
 refine floordiv_int (by omega) (by rw[Int.fdiv_eq_ediv_of_nonneg i (by omega)];exact q) (.inl (PyProof.noPylong_of_log2 ?_))
 have h3:j.natAbs<2 ^ 100:=by
  have:(2:Nat) ^ 100=1267650600228229401496703205376:=by decide
  omega
 have:=(Nat.log2_lt (by omega)).mpr h3
 omega
end L2
namespace Dl
open PySem L2 PyProof.Rows
variable [Gr] {X:Cx}{st:Stmt}{tj:DE}
end Dl
namespace Wr
open PySem L2 PyProof.Rows Dl
variable [Gr] {X:Cx}{pos:Pos}
end Wr
namespace Wb
open PySem L2 PyProof.Rows Dl Wr
section
variable [Tb] {X:Cx}{m1 m2:Nat}{pos:Pos}{te tj:DE}{st:Stmt}
def Ox(i:Nat)(te tj:DE):DS:=λP ρ=>te ρ λ_ d=>bU d=true/\match ρ[i]? with
 |some (.dw r (.list ds))=>tj ρ λ_ dj=>match dj with
  |.int j=>∃m,ixN ds.length j=some m/\P.nx ((forget r ρ).set i (.dw r (.list (ds.set m d))))
  |_=>False
 |_=>False
def VH{i:Nat}(h:PS X st (rG (fG m1 te) (Ux (rF i) (fG m2 tj) NZ))):BS X (m1+m2) st (Ox i te tj):=⟨PS.wk' h (by
 rintro Q σ H ⟨a,n,H0,own,ρ,P,EB,t,w⟩
 refine⟨a,n+m2,H0,own,ρ,_,EB.first,t,λk d v H1 h A r=>?_⟩
 obtain⟨im,h⟩:=h
 split at h
 ·rename_i rg ds hr
  have E:=EB.env
  obtain⟨vv,hv,x⟩:=E.slot i _ hr
  obtain⟨l,vs,rfl,hl,ho,rs⟩:=x.cj
  refine⟨.ref l,hv,a,n,H0,own,ρ,_,EB.next A,h,λk2 dj vj H2 h2 A2 r2=>?_⟩
  have A12:=(A.lv (m:=n) (by omega)).base A2
  cases dj with
  |int j =>
   obtain⟨m,hm,hn⟩:=h2
   have ej:=Rp.int' r2
   have h1:H2 l=some (.lst vs):=A12.kp l _ ho (E.ow l rg hl).2.1
   have rd:Rp (λ_=>False) H2 v d:=(r.imm im).mono (λ_ o=>o) (λ_ _ o=>o.elim) A2.tups
   refine⟨l,vs,j,m,rfl,ej,h1,by rw[rs.length];exact hm,?_⟩
   obtain⟨E2,F2⟩:=E.uD (vs':=vs.set m v) (ds':=ds.set m d) A12 hv hl ho rs λH3 f g=>Dl.Rps.set (g (rd.mono (λ_ o=>o.elim) (λ_ _ o=>o.elim) λ_ _ e=>e)) _ (jU f rs λd hd=>je hd)
   exact w.nx _ σ _ _ E2 F2 hn
  |_=>exact h2.elim
 ·exact h.elim)⟩
def put{i:Nat}{x:Str}{ej e:Expr}{np p1:Pos}(hv:WV X (.Name x np) i)(hj:BE X m2 ej tj)(he:BE X m1 e te)(ha:∀v,assign (.Subscript (.Name x np) ej p1) X.env v=(do
   let ov ←holding [v] (eval (.Name x np) X.env)
   let iv ←holding [v,ov] (eval ej X.env)
   standAt p1
   holding [v,ov,iv] (setItem ov iv v)
   release [v,ov,iv] []):=by intro _;rfl)(hs:swapsWithSole [.Subscript (.Name x np) ej p1] e pos.line X.env=pure false:=by rfl)(hw:swappedStores [.Subscript (.Name x np) ej p1] e X.env=pure none:=by rfl)(h1:(assignEach [.Subscript (.Name x np) ej p1] X.env).map (·.2)=[assign (.Subscript (.Name x np) ej p1) X.env]:=by rfl) :
  BS X (m1+m2) (.Assign [.Subscript (.Name x np) ej p1] e pos) (Ox i te tj):=VH (yO he.h (yQ hv.h hj.h set_list ha) hs hw h1)
end
end Wb
namespace Dl
open PySem L2 PyProof.Rows
section
variable {X:Cx}{pos:Pos}{a:Expr}{t:DA}
def Fg(hc:X.calm=true):bC X (.builtin "sum") (λxs H Q=>∃(p:Addr) (ns:List Int),xs=[.ref p]/\SqL X.K H p (ns.map V.int)/\Q (.int ns.sum) H):=by
 intro pins s σ H xs us Q I r h
 obtain⟨p,ns,rfl,hp,q⟩:=h
 obtain⟨u,rfl,rx⟩:=vals1 r
 cases rx
 obtain⟨its,rv,pl,hz⟩:=I.list hp
 have hlen:its.length=ns.length:=by have:=rv.length;rw[Ã] at this;exact this.symm
 have hlt:p≠s.heap.objs.size:=by obtain⟨o,ho,_⟩:=pl.isList;exact ß (Ç ho)
 have hltp:p<s.heap.objs.size:=by obtain⟨o,ho,_⟩:=pl.isList;exact Ç ho
 have at':∀i v,its[i]?=some v->∃t,v=ĕ (ns.getD i 0) t:=λi v e=>by
  have hi:i<its.length:=(Þ.mp e).1
  have hv:(ns.map V.int)[i]?=some (V.int ns[i]):=by rw[à,È (show i<ns.length by omega)];rfl
  obtain⟨u,eu,ru⟩:=rv.get hv
  rw[e] at eu
  cases eu
  obtain⟨t,rfl⟩:=ru
  exact⟨t,by rw[ò,È (show i<ns.length by omega)];rfl⟩
 refine call_sum_walkAnyS (wpAny_pyIter_list pl.isList ?_)
 refine⟨_,_,_,_,_,_,_,λi=>ns.getD i 0,rfl,(Walks.list (A:=X.A.in1) (I.ok.hd hc) _ p hlt _).toS,⟨⟨_,Õ _ rfl,rfl,rfl⟩,pl.isList.push _⟩,?_,λi v e=>at' i v (by simpa using e),λs' t' mv=>?_⟩
 ·intro b hb
  show b<(s.heap.push _).objs.size
  rw[Ĵ]
  simp at hb
  rcases hb with rfl|rfl
  ·exact Ŭ _
  ·exact Ā hltp
 ·have e:PySem.preSum (λi=>ns.getD i 0) its.toArray.size=ns.sum:=by
   rw[Ï,hlen,Bx ns ns.length (Ì _),Ĩ]
  rw[e]
  obtain⟨hp',g',d',k',o'⟩:=s'
  obtain⟨m1,m2,m3,m4,m5⟩:=mv
  have m2:g'=s.gens:=m2
  have m3:d'=s.drawn:=m3
  have m4:o'=s.os:=m4
  subst m2 m3 m4
  refine⟨.int ns.sum,H,I.kept λb o eb=>m1 b o ?_ (Æ _ eb),⟨_,rfl⟩,q⟩
  intro hm
  have:b=s.heap.objs.size:=by simpa using hm
  exact absurd (this ▸ Ç eb) (ø _)
variable [Gr]
def Jk:GC:=λks P=>match ks with
 |[(_,.list ds)]=>∃ns:List Int,ds=ns.map Í/\P .imm (.int ns.sum)
 |_=>False
def j5{ps:Pos}(hc:X.calm=true)(hm:X.mg "sum"=none)(ha:PDA X [a] t)(hg:Gl X "sum":=by rfl)(he:zS X a []:=by rfl)(hpl:zP X pos []:=by rfl):PD X (.Call (.Name "sum" ps) [a] [] pos) (tCl Jk t) :=
 cM (Fg hc) (by
  intro p H0 own Hb H vs ks P Q A r t q
  unfold Jk at t
  split at t
  ·rename_i k ds
   obtain⟨v,rfl,r'⟩:=dN r
   obtain⟨ns,rfl,t⟩:=t
   obtain⟨c,vs,rfl,o,hc,rs⟩:=r'.cj
   have e:=Rps.ints rs
   subst e
   exact⟨c,ns,rfl,SqL.of hc,q _ _ _ _ t Kp.refl A.pen (.int _)⟩
  ·exact t.elim) hg hm boot_sum ha (by decide) (by decide) he hpl
end
end Dl
namespace Wr
open PySem L2 PyProof.Rows Dl
variable [Gr] {X:Cx}{pos:Pos}{a:Expr}{t:DA}
def j5{ps:Pos}(hc:X.calm=true)(hm:X.mg "sum"=none)(ha:WDA X [a] t)(hg:Gl X "sum":=by rfl)(he:zS X a []:=by rfl)(hpl:zP X pos []:=by rfl):WD X (.Call (.Name "sum" ps) [a] [] pos) (tCl Jk t):=⟨Dl.j5 hc hm ha.h hg he hpl⟩
end Wr
namespace Dl
open PySem L2 PyProof.Rows
def grU(T:Pn):Gr:=⟨λp _=>p=T⟩
def Kf(f:List D->(D->Prop)->Prop)(t:DA):DE:=λρ P=>t ρ λks=>f (ks.map (·.2)) λd=>P (norm .new d) d
section
variable {X:Cx}{k j:Nat}{x:Str}{ps:List Str}{e:Expr}{es:List Expr}{t:DA}{p pos:Pos}{T:Pn}{f:List D->(D->Prop)->Prop}
def Im:∀σ H Q,@cI (grU T) (Kf f t) σ H Q->rZ (spT T f) [] E0 (@sV (grU T) t) σ H Q:=by
 letI:=grU T
 rintro σ H Q ⟨q,H0,own,ρ,P,E,t,k⟩
 have eq:q=T:=E.gr
 subst eq
 refine⟨_,H0,own,ρ,_,E,t,λks vs H1 h A r=>?_⟩
 show spT q f (vs++[]) H1 Q E0
 rw[í]
 refine⟨ks.map (·.2),_,A.pen,(RpK.rps A r).mono (λ_ o z=>o z) (λ_ _ _ e=>e) (λ_ _ e=>e),h,λd v H' h2 kp pi' r2=>?_⟩
 exact k _ d v H' h2 (A.go kp pi') (aM (r2.mono (λa o=>A.free o) (λ_ _ _ e=>e) λ_ _ e=>e))
def dcU(CC:Cal X.prog X.w X.K X.mg X.base k x ps (spT T f))(hr:Room j X.A)(ha:@PDA (grU T) X (e::es) t)(hk:k<=j:=by decide)(hg:Gl X x:=by rfl)(hdb:zB x:=by decide)(he:zS X e es:=by rfl)(hpl:zP X pos es:=by rfl) :
  @PD (grU T) X (.Call (.Name x p) (e::es) [] pos) (Kf f t):=PE.wk (pcS CC hr ha hk hg hdb he hpl) Im
def JD{Tm:DS}{N:List Str}{vs:List V}{H:Hp}{Q:VK}{E:XK}(h:spT T f vs H Q E)(body:∀ds P,f ds P->∃ρ,ds.map aB++Ë (N.length - ds.length) .any=ρ/\Tm { nx:=λ_=>P .none,rt:=P } ρ):@nU (grU T) Tm { nx:=λ_ H'=>Q .non H',rt:=Q } (L2.start N vs) H:=by
 letI:=grU T
 obtain⟨ds,P,pi,r,t,q⟩:=h
 obtain⟨ρ,e,b⟩:=body ds P t
 have E:=nq (p:=T) (N:=N) rfl pi r
 rw[r.length,e] at E
 exact⟨T,H,λ_=>none,_,_,E,b,⟨λo s h' r' e' _ n=>q _ _ h' n e'.k0 e'.pen .non,λd v h' n w=>q d v h' n w.k0 w.pen (w.rp.mono (λ_ o=>o.1) (λ_ _ _ e=>e) λ_ _ e=>e),λ_ _ _ _ _ _ n=>n.elim,λ_ _ _ _ _ _ n=>n.elim⟩⟩
end
end Dl
namespace Wr
open PySem L2 PyProof.Rows Dl
variable {X:Cx}{k j:Nat}{x:Str}{ps:List Str}{e:Expr}{es:List Expr}{t:DA}{p pos:Pos}{T:Pn}{f:List D->(D->Prop)->Prop}
def dcU(CC:Cal X.prog X.w X.K X.mg X.base k x ps (spT T f))(hr:Room j X.A)(ha:@WDA (grU T) X (e::es) t)(hk:k<=j:=by decide)(hg:Gl X x:=by rfl)(hdb:zB x:=by decide)(he:zS X e es:=by rfl)(hpl:zP X pos es:=by rfl) :
  @WD (grU T) X (.Call (.Name x p) (e::es) [] pos) (Kf f t):=@WD.mk (grU T) _ _ _ (Dl.dcU CC hr (@WDA.h (grU T) _ _ _ ha) hk hg hdb he hpl)
end Wr
set_option maxHeartbeats 4000000
namespace L2
open PySem PySem.Spec PyProof.Rows
section
variable {X:Cx}{pins:List (Addr×Obj)}{σ:St}{H:Hp}{s:Shared}{it:Addr}
structure Mine(X:Cx)(pins:List (Addr×Obj))(H:Hp)(it:Addr):Prop where
 h0:H it=none
 h1:it≠X.env.locals
 h2:X.s₀.heap.objs.size<=it
 h3:∀x c,X.env.cells.lookup x=some c->c≠it
 h4:∀p∈X.pn++pins,p.1≠it
 h5:it∉frs X.stack
def Inv.mine(I:Inv X pins σ H s)(h:s.heap.objs.size<=it):Mine X pins H it :=
 have no:∀o,s.heap.get? it≠some o:=λo e=>absurd (Ç e) (Nat.not_lt.mpr h)
 ⟨I.hok.fresh h,ł (Û I.lt h),î I.sz h,λx c e z=>by
  obtain⟨v,o,ho,_⟩:=I.cell x c e
  exact no o (z ▸ ho),λp hp z=>no p.2 (z ▸ (I.pin p hp).1),λz=>by
  obtain⟨_,o,ho,_⟩:=I.stack.mem z
  exact no o ho⟩
def Inv.Oj{h':Heap}{t':Nat}(I:Inv X pins σ H s)(m:Mine X pins H it)(k:∀b o,b≠it->s.heap.get? b=some o->h'.get? b=some o):Inv X pins σ H { s with heap:=h',toks:=t' }:=I.turned k m.h0 m.h1 (.inr m.h2) m.h3 m.h4
structure Gro(X:Cx)(ex:List Addr)(H:Hp)(h:Heap)(H1:Hp)(h1:Heap):Prop where
 sm:∀b o,H b=some o->H1 b=some o
 kp:∀b o,h.get? b=some o->H b=none->b≠X.env.locals->b∉frs X.stack->b∉ex->h1.get? b=some o/\H1 b=none
def Gro.refl{ex:List Addr}{h:Heap}:Gro X ex H h H h:=⟨λ_ _ e=>e,λ_ _ e n _ _ _=>⟨e,n⟩⟩
def Gro.trans{ex:List Addr}{H1 H2:Hp}{h h1 h2:Heap}(a:Gro X ex H h H1 h1)(b:Gro X ex H1 h1 H2 h2):Gro X ex H h H2 h2 :=
 ⟨λc o e=>b.sm c o (a.sm c o e),λc o e n l f x=>by
  obtain⟨e1,n1⟩:=a.kp c o e n l f x
  exact b.kp c o e1 n1 l f x⟩
def Gro.more{ex ex':List Addr}{H1:Hp}{h h1:Heap}(a:Gro X ex H h H1 h1)(k:∀b∈ex,b∈ex'):Gro X ex' H h H1 h1:=⟨a.sm,λc o e n l f x=>a.kp c o e n l f λz=>x (k c z)⟩
def Gro.mine{H1:Hp}{h h1:Heap}{o:Obj}(a:Gro X [] H h H1 h1)(m:Mine X pins H it)(e:h.get? it=some o):Mine X pins H1 it/\h1.get? it=some o:=by
 obtain⟨e1,n1⟩:=a.kp it o e m.h0 m.h1 m.h5 (λz=>nomatch z)
 exact⟨⟨n1,m.h1,m.h2,m.h3,m.h4,m.h5⟩,e1⟩
def qC(h:Heap)(a b c:Addr):List (Addr×Obj):=(á h.objs.size).filterMap λx=>if x=a\/x=b\/x=c then none else (h.get? x).map λo=>(x,o)
def gM{h:Heap}{a b c:Addr}{p:Addr×Obj}:p∈qC h a b c↔h.get? p.1=some p.2/\p.1≠a/\p.1≠b/\p.1≠c:=by
 unfold qC
 rw[List.mem_filterMap]
 constructor
 ·rintro⟨x,hx,e⟩
  split at e
  ·cases e
  ·rename_i n
   obtain⟨o,ho,rfl⟩:=Ľ.mp e
   exact⟨ho,λz=>n (.inl z),λz=>n (.inr (.inl z)),λz=>n (.inr (.inr z))⟩
 ·rintro⟨e,n1,n2,n3⟩
  refine⟨p.1,Ķ.mpr (Ç e),?_⟩
  rw[if_neg (λz=>z.elim n1 λz=>z.elim n2 n3),e]
  rfl
end
section
variable {X:Cx}{pins:List (Addr×Obj)}{σ:St}{H:Hp}{s:Shared}{A:Around}{a kS:Addr}{its:List Value}{vs:List V}{kz:List Int}{e e1:Nat}{P:PySem.Fin->Shared->Prop}{E:Value->Shared->Prop}{keys:Array Value}
def Px(I:Inv X pins σ H s)(ma:Mine X pins H a)(mk:Mine X pins H kS)(hka:kS≠a)(hk:s.heap.get? kS=some (seqObj "list" keys e))(ha:s.heap.get? a=some (seqObj "list" #[] e1))(hi:IntsAre keys.toList kz)(hlen:kz.length=its.length)(h64:its.length<64)(h:∀h' tk out c,Inv X pins σ H { s with heap:=h',toks:=tk }->Gro X [a,kS] H s.heap H h'->h'.get? a=some (seqObj "list" out c)->KskOut false kz its out.toList->P (.done (.ret .none)) { s with heap:=h',toks:=tk }) :
  wpAny (model X.prog X.w) A (ksk_end a false its.toArray e1 (.ref kS) keys) P E s:=by
 obtain⟨m,hn,hl⟩:=id I.loc
 refine ksk_end_ (h₀:={ s.heap with objs:=#[] }) (L:=X.env.locals) (m:=m) (news:=qC s.heap X.env.locals kS a) (e:=e) ⟨hn,λb o z=>?_,ä _⟩ (λp hp=>?_) hka (λp hp=>(gM.mp hp).2.2.1) (λp hp=>(gM.mp hp).2.2.2) hi hlen h64 λh' tk out c F N k=>?_
 ·exact absurd (Ç z) (Nat.not_lt_zero _)
 ·have n0:({ s.heap with objs:=#[] }:Heap).get? p.1=none:=Heap.get?_none_of_le (ä _)
  rcases Ø.mp hp with hp|hp
  ·obtain⟨x,y,_⟩:=gM.mp hp
   exact⟨x,y,n0⟩
  ·rcases â.mp hp with rfl|hp
   ·exact⟨hk,mk.h1,n0⟩
   ·rw[Ò.mp hp] at n0 ⊢
    exact⟨ha,ma.h1,n0⟩
 ·have kp:∀b o,b≠X.env.locals->b≠kS->b≠a->s.heap.get? b=some o->h'.get? b=some o:=λb o n1 n2 n3 e=>(N (b,o) (Ô _ (gM.mpr ⟨e,n1,n2,n3⟩))).1
  have nt:∀b u,H b=some u->b≠X.env.locals/\b≠kS/\b≠a:=λb u e=>⟨(λz=>by rw[z,I.free] at e;cases e),(λz=>by rw[z,mk.h0] at e;cases e),(λz=>by rw[z,ma.h0] at e;cases e)⟩
  have nch:∀b,b∉[kS,a]->b≠kS/\b≠a:=λb n=>⟨λz=>n (by rw[z];exact Ö),λz=>n (by rw[z];exact Ô _ (Ò.mpr rfl))⟩
  refine h h' tk out c (I.step (g':=s.gens) (d':=s.drawn) (ch:=[kS,a]) (λb hb=>?_) (λb o n1 _ hc e _=>kp b o n1 (nch b hc).1 (nch b hc).2 e) (λb o n1 _ hc e _=>⟨o.slots,kp b o n1 (nch b hc).1 (nch b hc).2 e⟩) (λ_ _ _ _ n=>n) (λb o hc e=>?_) (λ_ _ e=>e) (λ_ _ _ e=>e) (λb ps e=>⟨#[],by rw[e];simp⟩) (λm' hm=>?_) (λb u e=>?_) I.bare) ⟨λ_ _ e=>e,λb o e n l f x=>⟨kp b o l (λz=>x ?_) (λz=>x ?_) e,n⟩⟩ (N (a,seqObj "list" out c) Ö).1 k
  ·rcases â.mp hb with rfl|hb
   ·exact⟨.inr mk.h2,mk.h1,mk.h3,mk.h4⟩
   ·rw[Ò.mp hb]
    exact⟨.inr ma.h2,ma.h1,ma.h3,ma.h4⟩
  ·by_cases z:b=X.env.locals
   ·obtain⟨o',_,_,ho,_⟩:=F.ns
    exact⟨o',z ▸ ho⟩
   ·exact⟨o,kp b o z (nch b hc).1 (nch b hc).2 e⟩
  ·rw[funext λx=>hm.agree hn x]
   exact F.ns
  ·refine(I.hok b u e).stay (λc v hc q=>?_) (λ_ q=>q) λ_ _ q=>q
   have nc:c≠X.env.locals/\c≠kS/\c≠a:=by
    rcases hc with z|z
    ·rw[z];exact nt b u e
    ·exact nt c _ z
   exact kp c v nc.1 nc.2.1 nc.2.2 q
  ·rw[z];exact Ô _ (Ò.mpr rfl)
  ·rw[z];exact Ö
def Gro.own{H1:Hp}{h h1 h2:Heap}{b:Addr}(g:Gro X [a,kS] H h H1 h1)(hb:b=a\/b=kS)(k:∀c o,c≠b->h1.get? c=some o->h2.get? c=some o):Gro X [a,kS] H h H1 h2:=⟨g.sm,λc o e n l f x=>by
 obtain⟨e1,n1⟩:=g.kp c o e n l f x
 refine⟨k c o (λz=>x ?_) e1,n1⟩
 rcases hb with rfl|rfl
 ·rw[z];exact Ö
 ·rw[z];exact Ô _ (Ò.mpr rfl)⟩
def Ko{f:Value}(rv:Vals vs its)(I:Inv X pins σ H s)(ma:Mine X pins H a)(mk:Mine X pins H kS)(hka:kS≠a)(hk:s.heap.get? kS=some (seqObj "list" #[] 0))(ha:s.heap.get? a=some (seqObj "list" #[] e1))(hlen:kz.length=vs.length)(h64:vs.length<64)(turn:∀(i:Nat) (v:V) (u:Value) (k:Int) (H1:Hp) (s1:Shared),vs[i]?=some v->kz[i]?=some k->RelV v u->Inv X pins σ H1 s1->Gro X [a,kS] H s.heap H1 s1.heap->wpAny (model X.prog X.w) A (call f [u]) (λr s2=>(∃t,r=ĕ k t)/\∃H2,Inv X pins σ H2 s2/\Gro X [] H1 s1.heap H2 s2.heap) (λ_ _=>False) s1)(h:∀H2 s2 out c,Inv X pins σ H2 s2->Gro X [a,kS] H s.heap H2 s2.heap->Mine X pins H2 a->s2.heap.get? a=some (seqObj "list" out c)->KskOut false kz its out.toList->P (.done (.ret .none)) s2) :
  wpAny (model X.prog X.w) A (ksk_rest a f false its.toArray e1 (.ref kS)) P E s:=by
 have hl2:its.length=vs.length:=rv.length.symm
 unfold ksk_rest
 refine Â (wpAny_rule ?_)
 rw[List.forIn_toArray]
 refine Â (ksk_fold (λi s'=>∃H' kA e,Inv X pins σ H' s'/\Gro X [a,kS] H s.heap H' s'.heap/\Mine X pins H' a/\Mine X pins H' kS/\s'.heap.get? kS=some (seqObj "list" kA e)/\s'.heap.get? a=some (seqObj "list" #[] e1)/\IntsAre kA.toList (kz.take i)) its 0 s ⟨H,#[],0,I,Gro.refl,ma,mk,hk,ha,by simpa using IntsAre.nil⟩ ?step ?done)
 case step =>
  rintro j x s' hx ⟨H',kA,e,I',g',ma',mk',hk',ha',hi⟩
  simp only[Nat.zero_add] at hi ⊢
  have hj:j<its.length:=(Þ.mp hx).1
  have hkj:kz[j]?=some kz[j]:=È (by omega)
  have hvj:vs[j]?=some vs[j]:=È (by omega)
  obtain⟨x',ex,rx⟩:=rv.get hvj
  rw[hx] at ex
  cases ex
  have hz:kA.size<=64:=by
   have h1:=hi.length
   rw[ċ,Ě] at h1
   omega
  have h24:=ì
  refine Â (wpAny_attempt (ĩ (turn j _ x _ H' s' hvj hkj rx I' g') (λr s2 he=>?_) λ_ _ hF=>hF.elim))
  obtain⟨⟨t,rfl⟩,H2,I2,g2⟩:=he
  dsimp only
  obtain⟨ma2,ha2⟩:=g2.mine ma' ha'
  obtain⟨mk2,hk2⟩:=g2.mine mk' hk'
  have sb:=Heap.SameBut.update s2.heap kS (Ù (·.push (.int kz[j] t)))
  have hk3:=get?_update_seq hk2 (·.push (.int kz[j] t))
  refine Â (listUpdate_at hk2 rfl ?_ (by omega) (î (Nat.le_of_eq (Array.size_push ..)) (by omega)))
  refine Ê ⟨rfl,H2,kA.push (.int kz[j] t),_,I2.Oj (t':=s2.toks) mk2 (λb o n e=>(sb.2 b n).trans e),((g'.trans (g2.more λb z=>nomatch z)).own (.inr rfl) λb o n e=>(sb.2 b n).trans e),ma2,mk2,hk3,(sb.2 a hka.symm).trans ha2,?_⟩
  have ek:kz.take (j+1)=kz.take j++[kz[j]]:=by rw[Ğ,hkj];rfl
  have ea:(kA.push (ĕ kz[j] t)).toList=kA.toList++[ĕ kz[j] t]:=by simp
  rw[ea,ek]
  exact ksk_snoc hi
 case done =>
  rintro s' ⟨H',kA,e,I',g',ma',mk',hk',ha',hi⟩
  have hi':IntsAre kA.toList kz:=by
   have e3:kz.take (0+its.length)=kz:=Ł (by omega)
   rw[e3] at hi
   exact hi
  refine Â (listItems_at hk' rfl ?_)
  exact Px I' ma' mk' hka hk' ha' hi' (by omega) (by omega) λh' tk out c I3 g3 h3 k3=>h H' _ out c I3 (g'.trans g3) ma' h3 k3
def fO{h:Heap}{o u:Obj}{b:Addr}(e:h.get? b=some u):(h.push o).get? b=some u:=Æ _ e
def Km{f:Value}{n:Nat}(rv:Vals vs its)(I:Inv X pins σ H s)(ma:Mine X pins H a)(ha:s.heap.get? a=some (seqObj "list" its.toArray n))(hlen:kz.length=vs.length)(h64:vs.length<64)(turn:∀(kS:Addr) (i:Nat) (v:V) (u:Value) (k:Int) (H1:Hp) (s1:Shared),s.heap.objs.size<=kS->vs[i]?=some v->kz[i]?=some k->RelV v u->Inv X pins σ H1 s1->Gro X [a,kS] H s.heap H1 s1.heap->wpAny (model X.prog X.w) A (call f [u]) (λr s2=>(∃t,r=ĕ k t)/\∃H2,Inv X pins σ H2 s2/\Gro X [] H1 s1.heap H2 s2.heap) (λ_ _=>False) s1)(h:∀kS H2 s2 out c,s.heap.objs.size<=kS->Inv X pins σ H2 s2->Gro X [a,kS] H s.heap H2 s2.heap->Mine X pins H2 a->s2.heap.get? a=some (seqObj "list" out c)->KskOut false kz its out.toList->P (.done (.ret .none)) s2) :
  wpAny (model X.prog X.w) A (ksk_tree a f false) P E s:=by
 have hl2:its.length=vs.length:=rv.length.symm
 have h24:=ì
 have sb:=Heap.SameBut.update s.heap a (Ù λ_=>(#[]:Array Value))
 have ha1:=get?_update_seq ha λ_=>(#[]:Array Value)
 have hsz:(s.heap.update a (Ù λ_=>(#[]:Array Value))).objs.size=s.heap.objs.size:=ħ ..
 have hlt:a<s.heap.objs.size:=Ç ha
 unfold ksk_tree
 refine Â (listItems_at ha rfl ?_)
 refine Â (listUpdate_at ha rfl ?_ (by rw[Ï];omega) (ä _))
 refine Â (seqEpoch_at ha1 rfl ?_)
 refine Â (wpAny_newTuple ?_ (by show its.length<=_;omega))
 refine Â (wpAny_newList ?_ (ä _))
 refine ö ?_
 have hks:((s.heap.update a (Ù λ_=>(#[]:Array Value))).push (seqObj "tuple" its.toArray 0)).objs.size=s.heap.objs.size+1:=by rw[size_push',hsz]
 have kp:∀b o,b≠a->s.heap.get? b=some o->(((s.heap.update a (Ù λ_=>(#[]:Array Value))).push (seqObj "tuple" its.toArray 0)).push (seqObj "list" #[] 0)).get? b=some o:=λb o n e=>fO (fO ((sb.2 b n).trans e))
 have I1:Inv X pins σ H { s with heap:=((s.heap.update a (Ù λ_=>(#[]:Array Value))).push (seqObj "tuple" its.toArray 0)).push (seqObj "list" #[] 0) }:=I.Oj (t':=s.toks) ma kp
 have mk:Mine X pins H (s.heap.objs.size+1):=I.mine (Į _)
 have hk0:(((s.heap.update a (Ù λ_=>(#[]:Array Value))).push (seqObj "tuple" its.toArray 0)).push (seqObj "list" #[] 0)).get? (s.heap.objs.size+1)=some (seqObj "list" #[] 0):=by
  rw[←hks]
  exact Õ _ rfl
 have g1:∀kS,Gro X [a,kS] H s.heap H (((s.heap.update a (Ù λ_=>(#[]:Array Value))).push (seqObj "tuple" its.toArray 0)).push (seqObj "list" #[] 0)):=λkS=>⟨λ_ _ e=>e,λb o e n _ _ x=>⟨kp b o (λz=>x (by rw[z];exact Ö)) e,n⟩⟩
 show wpAny (model X.prog X.w) A (ksk_rest a f false its.toArray _ (.ref ((s.heap.update a (Ù λ_=>(#[]:Array Value))).push (seqObj "tuple" its.toArray 0)).objs.size)) P E { s with heap:=((s.heap.update a (Ù λ_=>(#[]:Array Value))).push (seqObj "tuple" its.toArray 0)).push (seqObj "list" #[] 0) }
 rw[hks]
 exact Ko rv I1 ma mk (ł (Ā hlt)) hk0 (fO (fO ha1)) hlen h64 (λi v u k H1 s1 a1 a2 a3 a4 a5=>turn _ i v u k H1 s1 (Į _) a1 a2 a3 a4 ((g1 _).trans a5)) λH2 s2 out c a1 a2 a3 a4 a5=>h _ H2 s2 out c (Į _) a1 ((g1 _).trans a2) a3 a4 a5
def Ds{l:Addr}{f:Addr}{Q:Value->Shared->Prop}(rv:Vals vs its)(I:Inv X pins σ H s)(hl:s.heap.IsList l its.toArray)(hlen:kz.length=vs.length)(h64:vs.length<64)(turn:∀(ex:List Addr) (i:Nat) (v:V) (u:Value) (k:Int) (H1:Hp) (s1:Shared),(∀b∈ex,s.heap.objs.size<=b)->vs[i]?=some v->kz[i]?=some k->RelV v u->Inv X pins σ H1 s1->Gro X ex H s.heap H1 s1.heap->wpAny (model X.prog X.w) A.in1.in1 (call (.ref f) [u]) (λr s2=>(∃t,r=ĕ k t)/\∃H2,Inv X pins σ H2 s2/\Gro X [] H1 s1.heap H2 s2.heap) (λ_ _=>False) s1)(h:∀ex a H2 s2 out c,(∀b∈ex,s.heap.objs.size<=b)->s.heap.objs.size<=a->Inv X pins σ H2 s2->Gro X ex H s.heap H2 s2.heap->Mine X pins H2 a->s2.heap.get? a=some (seqObj "list" out c)->KskOut false kz its out.toList->Q (.ref a) s2) :
  wpAny (model X.prog X.w) A (call (.builtin "sorted") [.ref l] [(ð "key",.ref f)]) Q E s:=by
 have hl2:its.length=vs.length:=rv.length.symm
 have h24:=ì
 refine call_function_entry_kw kind_sorted plain_sorted entry_sorted (ksk_s1 _ _) ?_
 unfold Builtin.«sorted»
 refine Â (m:=checkCount "sorted" 1 1 _) (Ê ?_)
 refine Â (collect_list hl ?_ (by omega))
 refine Â (wpAny_newList ?_ (by omega))
 have hsz:((s.heap.push (seqObj "list" #[] 0)).update s.heap.objs.size (Ù (·++its.toArray))).objs.size=s.heap.objs.size+1:=by rw[ħ,size_push']
 have ha:(((s.heap.push (seqObj "list" #[] 0)).update s.heap.objs.size (Ù (·++its.toArray))).push (seqObj "list" its.toArray 0)).get? (s.heap.objs.size+1)=some (seqObj "list" its.toArray 0):=by
  rw[←hsz]
  exact Õ _ rfl
 have kp:∀b o,s.heap.get? b=some o->(((s.heap.push (seqObj "list" #[] 0)).update s.heap.objs.size (Ù (·++its.toArray))).push (seqObj "list" its.toArray 0)).get? b=some o:=λb o e=>by
  have hlt:b<s.heap.objs.size:=Ç e
  refine fO ?_
  rw[Heap.get?_update_ne _ _ _ _ (ß hlt)]
  exact fO e
 have I1:Inv X pins σ H { s with heap:=((s.heap.push (seqObj "list" #[] 0)).update s.heap.objs.size (Ù (·++its.toArray))).push (seqObj "list" its.toArray 0) }:=I.kept (t':=s.toks) kp
 have ma:Mine X pins H (s.heap.objs.size+1):=I.mine (Į _)
 have g1:∀ex,Gro X ex H s.heap H (((s.heap.push (seqObj "list" #[] 0)).update s.heap.objs.size (Ù (·++its.toArray))).push (seqObj "list" its.toArray 0)):=λex=>⟨λ_ _ e=>e,λb o e n _ _ _=>⟨kp b o e,n⟩⟩
 have hs2:s.heap.objs.size<=(((s.heap.push (seqObj "list" #[] 0)).update s.heap.objs.size (Ù (·++its.toArray))).push (seqObj "list" its.toArray 0)).objs.size:=by rw[size_push',hsz];omega
 show wpAny _ _ _ _ _ { s with heap:=((s.heap.push (seqObj "list" #[] 0)).update s.heap.objs.size (Ù (·++its.toArray))).push (seqObj "list" its.toArray 0) }
 rw[hsz]
 have exs:∀kS,s.heap.objs.size<=kS->∀b∈[s.heap.objs.size+1,kS],s.heap.objs.size<=b:=λkS hk b hb=>by
  rcases â.mp hb with rfl|hb
  ·exact Į _
  ·rw[Ò.mp hb];exact hk
 refine Â (ö (wpAny_call_entry_kw slot_list_sort ⟨_,ha,rfl⟩ entry_list_sort ?body (ksk_l1 _ _)))
 case body =>
  show wpAny (model X.prog X.w) A.in1.in1 (Builtin.«list.sort» ⟨[.ref (s.heap.objs.size+1)],[(ð "key",.ref f)]⟩) _ _ _
  rw[ksk_t1]
  exact Km rv I1 ma ha hlen h64 (λkS i v u k H1 s1 a0 a1 a2 a3 a4 a5=>turn _ i v u k H1 s1 (exs kS (î hs2 a0)) a1 a2 a3 a4 ((g1 _).trans a5)) λkS H2 s2 out c a0 a1 a2 a3 a4 a5=>⟨_,rfl,Ê ⟨_,rfl,h _ _ H2 s2 out c (exs kS (î hs2 a0)) (Į _) a1 ((g1 _).trans a2) a3 a4 a5⟩⟩
def Inv.O5{xs:List V}{out:List Value}{c:Nat}(I:Inv X pins σ H s)(m:Mine X pins H a)(r:Vals xs out)(hz:xs.length<=sizeLine)(e:s.heap.get? a=some (seqObj "list" out.toArray c)):Inv X pins σ (upd H a (.lst xs)) s:=by
 have nb:∀b u,H b=some u->b≠a:=λb u e z=>by rw[z,m.h0] at e;cases e
 have:=I.step (h':=s.heap) (H':=upd H a (.lst xs)) (g':=s.gens) (d':=s.drawn) (t':=s.toks) (ch:=[a]) (λb hb=>by
  rw[Ò.mp hb]
  exact⟨.inr m.h2,m.h1,m.h3,m.h4⟩) (λb o _ _ _ e _=>e) (λb o _ _ _ e _=>⟨o.slots,e⟩) (λb o hc _ n=>by
  rw[ak (λz=>hc (Ò.mpr z))]
  exact n) (λb o _ e=>⟨o,e⟩) (λb xs e=>by rw[ak (nb b _ e)];exact e) (λb o u e=>by rw[ak (nb b _ e)];exact e) (λb ps e=>⟨#[],by rw[ak (nb b _ e),e];simp⟩) (λ_ z=>z) (λb u eb=>by
  by_cases z:b=a
  ·subst z
   rw[ao] at eb
   cases eb
   exact⟨hz,out,c,r,e⟩
  ·rw[ak z] at eb
   exact(I.hok b u eb).stay (λc v _ q=>q) (λc q=>by rw[ak (nb c _ q)];exact q) λc xs q=>by rw[ak (nb c _ q)];exact q) I.bare
 exact this
def Paired.perm{α β:Type}{F:α->β->Prop}{xs:List α}{ys ys':List β}(hp:ys.Perm ys')(h:Paired F xs ys):∃xs',xs'.Perm xs/\Paired F xs' ys':=by
 induction hp generalizing xs with
 |nil=>exact⟨xs,.refl _,h⟩
 |cons y _ ih =>
  cases h with
  |cons h1 t =>
   obtain⟨xs',p,q⟩:=ih t
   exact⟨_::xs',p.cons _,.cons h1 q⟩
 |swap y z l =>
  cases h with
  |cons h1 t =>
   cases t with
   |cons h2 t=>exact⟨_,.swap _ _ _,.cons h2 (.cons h1 t)⟩
 |trans _ _ i1 i2 =>
  obtain⟨x1,p1,q1⟩:=i1 h
  obtain⟨x2,p2,q2⟩:=i2 q1
  exact⟨x2,p2.trans p1,q2⟩
def pH:∀{kz:List Int}{vs:List V}{its:List Value},Vals vs its->Paired (λ(p:Int×V) (q:Int×Value)=>p.1=q.1/\RelV p.2 q.2) (kz.zip vs) (kz.zip its)
 |[],_,_,_=>by rw[List.zip_nil_left,List.zip_nil_left];exact .nil
 |_::_,_,_,.nil=>.nil
 |_::_,_,_,.cons h t=>.cons ⟨rfl,h⟩ (pH t)
def qz:∀{ps:List (Int×V)}{qs:List (Int×Value)},Paired (λ(p:Int×V) (q:Int×Value)=>p.1=q.1/\RelV p.2 q.2) ps qs->ps.map (·.1)=qs.map (·.1)/\Vals (ps.map (·.2)) (qs.map (·.2))
 |_,_,.nil=>⟨rfl,.nil⟩
 |_,_,.cons h t=>by
  obtain⟨a,b⟩:=qz t
  exact⟨by rw[û,û,a,h.1],.cons h.2 b⟩
def Pu{out:List Value}(rv:Vals vs its)(k:KskOut false kz its out):∃ps:List (Int×V),ps.Perm (kz.zip vs)/\ps.Pairwise (λp q=>p.1<=q.1)/\Vals (ps.map (·.2)) out:=by
 obtain⟨qs,hp,rfl,hw⟩:=k
 obtain⟨ps,p1,p2⟩:=Paired.perm hp.symm (pH (kz:=kz) rv)
 obtain⟨e,r⟩:=qz p2
 refine⟨ps,p1,?_,r⟩
 have h1:(qs.map (·.1)).Pairwise (·<=·):=by
  rw[List.pairwise_map]
  exact hw.imp λh=>by simpa using h
 rw[←e,List.pairwise_map] at h1
 exact h1
end
def Es(f:Addr)(cl:List (Str×Addr)):List Addr:=f::cl.filterMap λq=>cl.lookup q.1
section
variable {X:Cx}{pins:List (Addr×Obj)}{σ:St}{H:Hp}{s:Shared}{f c':Addr}{qual:Str}{params:Arguments}{body:Expr}{scope:Scope}{cl:List (Str×Addr)}{ys:List Str}{cvs:List V}{pm ctv:Value}
def Mi(J:Inv X pins σ H s)(hfo:s.heap.get? f=some (Ų "<lambda>" qual params body scope cl pm c' ctv))(fn:H f=none)(nfs:f∉frs X.stack)(hfn:∀x,X.fn x=true)(hsub:∀x c,cl.lookup x=some c->X.env.cells.lookup x=some c)(hys:∀y∈ys,X.env.scope.names.lookup y=some .cell/\∃c,cl.lookup y=some c)(cl1:cvs.length=ys.length)(hcv:∀(j:Nat) (y:Str) (v:V),ys[j]?=some y->cvs[j]?=some v->∃i:Nat,X.N[i]?=some y/\σ[i]?=some (some v)) :
  Env0 X.prog X.w X.K X.mg (reb X.base s.heap (Es f cl)) X.A X.stack s H/\(reb X.base s.heap (Es f cl)).get? f=some (Ų "<lambda>" qual params body scope cl pm c' ctv)/\Caps (reb X.base s.heap (Es f cl)) cl ys cvs:=by
 have ncell:∀y c,X.env.cells.lookup y=some c->c∉frs X.stack:=λy c e z=>by
  rcases â.mp (J.pK c z) with z|z
  ·exact J.cne y c e z
  ·obtain⟨_,o,ho,_⟩:=J.ok.gY.mem z
   exact absurd (Ç ho) (Nat.not_lt.mpr (J.ok.cab y c (hfn y) e))
 have inL:∀y c,cl.lookup y=some c->c∈Es f cl:=λy c e=>Ô _ (Ź.mpr ⟨(y,c),đ e,e⟩)
 have hL:∀b∈Es f cl,(H b=none/\b∉frs X.stack):=λb hb=>by
  rcases â.mp hb with rfl|hb
  ·exact⟨fn,nfs⟩
  ·obtain⟨⟨y,c1⟩,_,e1⟩:=Ź.mp hb
   have e2:=hsub y b e1
   exact⟨J.freeC y b e2,ncell y b e2⟩
 have cellB:∀y c w,cl.lookup y=some c->s.heap.IsCell c w->(reb X.base s.heap (Es f cl)).IsCell c w:=λy c w e ⟨o,ho,hd⟩=>⟨o,GD ho (inL y c e),hd⟩
 refine⟨J.env0.reb (λb hb=>(hL b hb).1) λb hb=>(hL b hb).2,GD hfo Ö,⟨cl1,λy c e=>?_,λj y w h1 h2=>?_⟩⟩
 ·obtain⟨w,hw⟩:=J.cell y c (hsub y c e)
  exact⟨w,cellB y c w e hw⟩
 ·obtain⟨i,n1,n2⟩:=hcv j y w h1 h2
  obtain⟨k1,c,e⟩:=hys y (Ó h1)
  obtain⟨m,_,hl⟩:=J.loc
  obtain⟨u',rv,l⟩:=hl i y w n1 n2 (.inr (.inl k1))
  rcases l with ⟨k2,_⟩|⟨_,c2,e2,hc⟩
  ·have k2:X.env.scope.names.lookup y=some .local:=k2
   rw[k1] at k2;cases k2
  ·rw[hsub y c e] at e2
   cases e2
   exact⟨c,u',e,cellB y c _ e hc,rv⟩
end
def wg(K:Ñ)(N:List Str)(P:Addr)(lpos:Pos)(qual:Str)(ys:List Str)(spL:List V->Addr->Sp)(te:TE):TE:=λσ H Q=>te σ H λv H1=>oE P lpos qual H1 /\
 ∃(l:Addr) (vs:List V) (kz:List Int) (cvs:List V),v=.ref l/\SqL K H1 l vs/\kz.length=vs.length/\vs.length<64/\cvs.length=ys.length/\(∀(j:Nat) (y:Str) (v:V),ys[j]?=some y->cvs[j]?=some v->∃i:Nat,N[i]?=some y/\σ[i]?=some (some v)) /\
  ∀c' H2,oE P lpos qual H2->rD H2 c' qual->(∀b o,H1 b=some o->b≠P->H2 b=some o) ->
   (∀(i:Nat) (v:V) (k:Int) (H3:Hp),vs[i]?=some v->kz[i]?=some k->(∀b o,H2 b=some o->H3 b=some o)->spL cvs c' [v] H3 (λr H4=>r=.int k/\∀b o,H3 b=some o->H4 b=some o) E0) /\
   ∀(a:Addr) (ps:List (Int×V)) (H3:Hp),ps.Perm (kz.zip vs)->ps.Pairwise (λp q=>p.1<=q.1)->H3 a=none->(∀b o,H2 b=some o->H3 b=some o)->Q (.ref a) (upd H3 a (.lst (ps.map (·.2))))
section
variable {X:Cx}{k:Nat}{c P:Addr}{ps ys:List Str}{spL:List V->Addr->Sp}{p pos lpos kp:Pos}{e:Expr}{te:TE}{qual:Str}{params:Arguments}{body:Expr}{scope:Scope}{cl:List (Str×Addr)}
def yS(FL:∀(cvs:List V) (base':Heap) (f c':Addr) (pm ctv:Value),cvs.length=ys.length->base'.get? f=some (Ų "<lambda>" qual params body scope cl pm c' ctv)->Caps base' cl ys cvs->∃fd,FnOk X.prog X.w X.K X.mg base' CX0 k f fd ps (spL cvs c')/\Binds X.K fd ps [])(hr:Room k X.A.in1.in1)(hg:Gl X "sorted")(hm:X.mg "sorted"=none)(ha:PE X e te)(hq:X.env.qual++"<lambda>"=qual)(hdef:defaultsOf params X.env=([],[]))(hcl:closureFor scope X.env=pure cl)(hcode:X.env.code=.ref c)(hC:X.K.In X.base->W.CodeHd X.base c P)(hB:X.K.In X.base->X.base.BuiltinsAt X.mg P)(hfn:∀x,X.fn x=true)(hsub:∀x c,cl.lookup x=some c->X.env.cells.lookup x=some c)(hys:∀y∈ys,X.env.scope.names.lookup y=some .cell/\∃c,cl.lookup y=some c)(he:zS X e []:=by rfl) :
  PE X (.Call (.Name "sorted" p) [e] [⟨some "key",.Lambda params body scope lpos,kp⟩] pos) (wg X.K X.N P lpos qual ys spL te):=by
 intro pins s σ H Q I h
 have hv:bootBuiltins "sorted"=some (.builtin "sorted"):=boot_sorted
 refine ĸ (iK I hg hm hv ?_ (by decide) (by decide))
 refine callWith_kw ?_ (by rw[he];rfl) (by rw[he];rfl)
 rw[he]
 show wpAny _ _ (spliced [(false,eval e X.env)]) _ _ s
 refine Calls.spliced_cons (thn (ha pins s σ H _ I h) λu s1 ⟨v,H1,I1,r1,T1,l,vs,kz,cvs,ev,hl,hlen,h64,cl1,hcv,q1⟩=>Calls.spliced_nil ?_)
 subst ev
 cases r1
 refine kws_cons (Ek I1 hq hdef hcl hcode hC hB T1 λf c' ctv pm s2 H2 J T2 kn fn hfo nfs kp kb=>kws_nil ?_)
 have Q2:=q1 c' H2 T2 kn kp
 have fL:f≠X.env.locals:=λz=>by
  obtain⟨m,⟨o,es,ep,ho,hd,_⟩,_⟩:=J.loc
  rw[←z,hfo] at ho
  cases ho
  cases hd
 have hfs:f<s2.heap.objs.size:=Ç hfo
 have hl2:SqL X.K H2 l vs:=by
  obtain⟨ps,hP,_⟩:=T1
  rcases hl with (hl|⟨o,hl⟩)|hl
  ·exact .inl (.inl (kp l _ hl λz=>by rw[z,hP] at hl;cases hl))
  ·exact .inl (.inr ⟨o,kp l _ hl λz=>by rw[z,hP] at hl;cases hl⟩)
  ·exact .inr hl
 obtain⟨its,rv,pl,hz⟩:=J.list hl2
 refine Ds rv J pl.isList hlen h64 (λex i v u k H3 s3 hex hv hk ru J3 g=>?_) λex a H3 s3 out c hex ha J3 g ma ho ko=>?_
 ·obtain⟨ho3,n3⟩:=g.kp f _ hfo fn fL nfs λz=>absurd (hex f z) (Nat.not_le.mpr hfs)
  obtain⟨e0,lkf,C⟩:=Mi J3 ho3 n3 nfs hfn hsub hys cl1 hcv
  obtain⟨fd,FF,hb⟩:=FL cvs _ f c' pm ctv cl1 lkf C
  have hsp:=Q2.1 i v k H3 hv hk g.sm
  have hl1:[u].length=ps.length:=FF.len _ _ _ _ hsp
  refine wpAny_call (codeAny_mono (FF.run X.A.in1.in1 X.stack s3 H3 ⟨[u],[]⟩ [u] [v] _ E0 hr e0.in1.in1 ?_ (.cons ru .nil) hsp) λr s' hq=>?_)
  ·have:=hb s3 [u] J3.kIn (by rw[í];exact hl1)
   rw[í] at this
   exact this
  ·cases r with
   |error e=>exact hq.elim
   |ok fl =>
    cases fl with
    |ret u =>
     obtain⟨v',H4,os,bare,un,hok,rv',e',sm⟩:=hq
     subst e'
     obtain⟨t,rfl⟩:=rv'
     obtain⟨hh,g',d,t',os'⟩:=s'
     obtain rfl:os'=s3.os:=os
     exact⟨⟨t,rfl⟩,H4,J3.call (h':=hh) (g':=g') (d':=d) (t':=t') (ch:=[]) un hok bare (λb z=>absurd z (by simp)),⟨sm,λb o e n _ nf _=>⟨un.keep b o e n nf (by simp),un.free b o e n (by simp)⟩⟩⟩
    |next=>exact è hq
    |brk=>exact è hq
    |cont=>exact è hq
 ·obtain⟨qs,p1,p2,p3⟩:=Pu rv ko
  have hz2:(qs.map (·.2)).length<=sizeLine:=by
   have:=p1.length_eq
   rw[Ÿ] at this
   rw[Ã]
   omega
  exact⟨.ref a,_,J3.O5 ma p3 hz2 ho,rfl,Q2.2 a qs H3 p1 p2 ma.h0 g.sm⟩
end
end L2
namespace Dl
open PySem L2 PyProof.Rows
def Pq(qual:Str)(gk:D->D->Int->Prop):List V->Addr->Sp:=λcvs c' vs H Q _=>rD H c' qual/\∃(v0 v1:V) (dc dx:D) (k:Int),cvs=[v0]/\vs=[v1]/\Rp (λ_=>True) H v0 dc/\Rp (λ_=>True) H v1 dx/\gk dc dx k/\∀H',(∀b o,H b=some o->H' b=some o)->Q (.int k) H'
def tSL(i:Nat)(gk:D->D->Int->Prop)(te:DE):DE:=λρ P=>te ρ λk d=>∃(ds:List D) (kz:List Int) (dc:D),d=.list ds/\(ρ[i]?=some (.sh dc)\/ρ[i]?=some (.im dc))/\kz.length=ds.length/\ds.length<64 /\
 (∀(j:Nat) (x:D) (c:Int),ds[j]?=some x->kz[j]?=some c->gk dc x c)/\∀ps:List (Int×D),ps.Perm (kz.zip ds)->ps.Pairwise (λp q=>p.1<=q.1)->P (k.join .new) (.list (ps.map (·.2)))
def Aw{ok:Addr->Prop}{H:Hp}:∀{kz:List Int}{vs:List V}{ds:List D},Rps ok H vs ds->Paired (λ(p:Int×D) (q:Int×V)=>p.1=q.1/\Rp ok H q.2 p.2) (kz.zip ds) (kz.zip vs)
 |[],_,_,_=>by rw[List.zip_nil_left,List.zip_nil_left];exact .nil
 |_::_,_,_,.nil=>.nil
 |_::_,_,_,.cons h t=>.cons ⟨rfl,h⟩ (Aw t)
def qy{ok:Addr->Prop}{H:Hp}:∀{ps:List (Int×D)}{qs:List (Int×V)},Paired (λ(p:Int×D) (q:Int×V)=>p.1=q.1/\Rp ok H q.2 p.2) ps qs->ps.map (·.1)=qs.map (·.1)/\Rps ok H (qs.map (·.2)) (ps.map (·.2))
 |_,_,.nil=>⟨rfl,.nil⟩
 |_,_,.cons h t=>by
  obtain⟨a,b⟩:=qy t
  exact⟨by rw[û,û,a,h.1],.cons h.2 b⟩
section
variable {K:Ñ}{N:List Str}{P:Addr}{lpos:Pos}{qual y:Str}{i:Nat}{gk:D->D->Int->Prop}{te:DE}
def LK(hy:N[i]?=some y):∀σ H Q,@cI (grU (wJ P lpos qual)) (tSL i gk te) σ H Q->wg K N P lpos qual [y] (Pq qual gk) (@cI (grU (wJ P lpos qual)) te) σ H Q:=by
 letI:=grU (wJ P lpos qual)
 rintro σ H Q ⟨q,H0,own,ρ,P',E,t,kq⟩
 have eq:q=wJ P lpos qual:=E.gr
 subst eq
 refine⟨_,H0,own,ρ,_,E,t,λk d v H1 hd A r=>?_⟩
 obtain⟨ds,kz,dc,rfl,hi,hlen,h64,hk,hP⟩:=hd
 obtain⟨c,vs,rfl,o,hc,rs⟩:=r.cj
 have T1:oE P lpos qual H1:=A.pen
 have TH:oE P lpos qual H:=E.pen
 have ntup:∀{H:Hp},oE P lpos qual H->∀a xs,H a=some (.tup xs)->a≠P:=λ{H} T a xs e z=>by
  obtain⟨ps,hp,_⟩:=T
  rw[z,hp] at e
  cases e
 obtain⟨v0,hv0,r0⟩:∃v0,σ[i]?=some (some v0)/\Rp (λa=>a≠P) H v0 dc:=by
  rcases hi with hi|hi
  ·obtain⟨v0,e,r⟩:=E.slot i _ hi
   exact⟨v0,e,r.mono (λa o=>o.1) (λ_ _ _ e=>e) λ_ _ e=>e⟩
  ·obtain⟨v0,e,r⟩:=E.slot i _ hi
   exact⟨v0,e,r.mono (λa o=>o.elim) (λ_ _ _ e=>e) λ_ _ e=>e⟩
 have ll:=rs.length
 refine⟨T1,c,vs,kz,[v0],rfl,SqL.of hc,by omega,by omega,rfl,λj y' v h1 h2=>?_,λc' H2 T2 kn kp=>⟨λj v k' H3 hv hkz sm=>?_,λa ps H3 hp hw fr sm=>?_⟩⟩
 ·match j,h1,h2 with
  |0,h1,h2=>cases h1;cases h2;exact⟨i,hy,hv0⟩
 ·obtain⟨x,φ,kx,cx⟩:=kn
  have hj:j<ds.length:=by rw[←ll];exact(Þ.mp hv).1
  obtain⟨v1,e1,r1⟩:=rs.getD (È hj)
  rw[hv] at e1
  cases e1
  refine⟨⟨x,φ,sm _ _ kx,cx⟩,v0,v,dc,ds[j],k',rfl,rfl,?_,?_,hk j _ _ (È hj) hkz,λH' sm'=>⟨rfl,sm'⟩⟩
  ·exact r0.mono (λ_ _=>trivial) (λa o n e=>sm _ _ (kp _ _ (A.kp a o e n) n)) λa xs e=>sm _ _ (kp _ _ (A.kp a _ e (ntup TH a xs e)) (ntup TH a xs e))
  ·exact r1.mono (λ_ _=>trivial) (λa o n e=>sm _ _ (kp _ _ e (eX A n))) λa xs e=>sm _ _ (kp _ _ e (ntup T1 a xs e))
 ·have k13:Kp (wJ P lpos qual) H1 H3:=λb o e n=>sm _ _ (kp _ _ e n)
  have i3:(wJ P lpos qual).PI H3:=(wJ P lpos qual).mono H2 H3 T2 λb o _ e=>sm b o e
  have A3:=A.go k13 i3
  obtain⟨k2,i2,nw⟩:=A3.new fr (.lst (ps.map (·.2)))
  obtain⟨qs,q1,q2⟩:=Paired.perm hp.symm (Aw (kz:=kz) (aX A k13 rs))
  obtain⟨e,rr⟩:=qy q2
  have hw2:qs.Pairwise (λp q=>p.1<=q.1):=by
   have h1:(ps.map (·.1)).Pairwise (·<=·):=by rw[List.pairwise_map];exact hw
   rw[←e,List.pairwise_map] at h1
   exact h1
  have j:=cQ k .new
  exact kq _ _ _ _ (hP qs q1 hw2) (A3.go k2 i2) (.lst (bw A3 j.2 nw) ao ((aX A3 k2 rr).mono (λa o=>bw A3 j.1 o) (λ_ _ _ e=>e) λ_ _ e=>e))
end
section
variable [Gr] {X:Cx}{st:Stmt}{te:DE}
end
end Dl
namespace Wr
open PySem L2 PyProof.Rows Dl
variable [Gr] {X:Cx}{te:DE}{pos p1:Pos}
end Wr
namespace Dl
open PySem L2 PyProof.Rows
section
variable [Tb]
def Ir(m:Nat)(t:DR):TS:=λQ σ H=>∃a n H0 own ρ P,EnvB a n m H0 own σ H ρ/\t P ρ/\WishR (aq a n) own H P Q
def pW(t:DS)(u:DR):DR:=λP ρ=>t { nx:=λr=>u P (stp r),rt:=λ_=>False,bk:=λ_=>False,ct:=λ_=>False } ρ
end
end Dl
namespace Wb
open PySem L2 PyProof.Rows Dl Wr
section
variable [Tb] {X:Cx}{n m m1 m2 m3:Nat}{pos:Pos}{e:Expr}{es:List Expr}{te:DE}{st:Stmt}{rest:List Stmt}{t:DS}{u:DR}
structure BR(X:Cx)(m:Nat)(ss:List Stmt)(t:DR):Prop where
 h:PSs X ss (Ir m t)
def sJ(h1:BS X m1 st t)(h2:BR X m2 rest u):BR X (m1+m2) (st::rest) (pW t u):=⟨PSs.wk' (aQ h1.h h2.h) (by
 rintro Q σ H ⟨a,n,H0,own,ρ,P,E,t,w⟩
 refine⟨a,n+m2,H0,own,ρ,_,E.first,t,⟨λo s h r e g nn=>⟨a,n,H0,o,stp r,P,⟨yG _,e.pen,e.lv (aD e.pen (by omega))⟩,nn,⟨λd v H' hP hI hk rp=>w.rt d v H' hP hI (λb ob e1 n1 o1=>?_) rp⟩⟩,λ_ _ _ n=>n.elim,λ_ _ _ _ _ _ n=>n.elim,λ_ _ _ _ _ _ n=>n.elim⟩⟩
 obtain⟨e2,o2⟩:=g.keep b ob e1 n1 o1
 exact hk b ob e2 n1 o2)⟩
def Qa(he:BE X m e te):BR X m [.Return (some e) pos] (VG te):=⟨PSs.wk' (bH (gq he.h)) (by
 rintro Q σ H ⟨a,n,H0,own,ρ,P,E,t,w⟩
 exact⟨a,n,H0,own,ρ,_,E,t,λk d v H' h A r=>w.rt d v H' h A.pen (λb o e n _=>A.kp b o e n) (r.mono (λa o=>eX A o) (λ_ _ _ e=>e) λ_ _ e=>e)⟩)⟩
end
end Wb
namespace Dl
open PySem L2 PyProof.Rows
section
variable [Gr] {X:Cx}{st:Stmt}{te:DE}
end
end Dl
namespace Wr
open PySem L2 PyProof.Rows Dl
end Wr
namespace Wb
open PySem L2 PyProof.Rows Dl Wr
section
variable [Tb] {X:Cx}{n m m1 m2 m3:Nat}{pos p2:Pos}
end
end Wb
namespace Dl
open PySem L2 PyProof.Rows
section
variable {T:Pn}{a:Addr}{n m:Nat}{H H':Hp}
def BK(t:Tb)(h:(@aq t a n).PI H):(@aq noTb a n).PI H:=⟨h.1,trivial,λz=>z⟩
def BJ(t:Tb)(h:(@aq t a m).PI H)(k:Kp (@aq noTb a n) H H')(i:(@aq noTb a n).PI H'):(@aq t a n).PI H':=by
 obtain⟨⟨x,y,c,hl,_⟩,ht,na⟩:=h
 refine⟨i.1,t.T.mono H H' ht λb o z e=>k b o e λy=>?_,na⟩
 have y:b=a:=y.elim id è
 subst y
 rcases z with z|⟨_,_,z⟩
 ·exact na z
 ·rw[hl] at e
  cases e
  cases z
def Oo(t:Tb)(k:Kp (@aq noTb a n) H H'):Kp (@aq t a n) H H':=λb o e nf=>k b o e λz=>nf (.inl (z.elim id è))
end
def Dp(t:Tb){m:Nat}{f:List D->(D->Prop)->Prop}:∀vs H Q E,@dF t m f vs H Q E->@dF noTb m f vs H Q E:=by
 rintro vs H Q E ⟨a,n,vs',ds,P,rfl,pi,r,g,k⟩
 exact⟨a,n,vs',ds,P,rfl,BK t pi,r.mono (λb o z=>o (.inl (z.elim id è))) (λ_ _ _ e=>e) (λ_ _ e=>e),g,λd v H' hP kp pi' rp=>k d v H' hP (Oo t kp) (BJ t pi kp pi') rp⟩
def Cal.jY{P:Program}{w:World}{K:Ñ}{mg:Str->Option Value}{base:Heap}{k:Nat}{x:Str}{ps:List Str}{t:Tb}{m:Nat}{f:List D->(D->Prop)->Prop}(c:Cal P w K mg base k x ps (@dF noTb m f)):Cal P w K mg base k x ps (@dF t m f):=by
 obtain⟨g,fd,F,r⟩:=c.ex
 exact⟨g,fd,F.imp (Dp t),r⟩
def jO[Tb](m:Nat)(f:List D->(D->Prop)->Prop):Sp:=λvs H Q _=>∃(a:Addr) (n:Nat) (ok:Addr->Prop) (vs':List V) (ds:List D) (P:D->Prop),vs=.ref a::vs'/\(aq a (n+m)).PI H/\Rps (λb=>ok b/\¬(aq a n).fp b) H vs' ds/\f ds P /\
 ∀d v H',P d->Kp (aq a n) H H'->(aq a n).PI H'->Rp (λb=>(ok b/\¬(aq a n).fp b)\/H b=none) H' v d->Q v H'
def Em[Tb]{m:Nat}{f:List D->(D->Prop)->Prop}{n:Nat}(hn:∀ds P,f ds P->ds.length=n:=by intro _ _ h;repeat (first|(obtain⟨rfl,_⟩:=h;rfl)|obtain⟨_,h⟩:=h)):∀vs H Q E,jO m f vs H Q E->vs.length=n+1:=λvs H Q E h=>by
 obtain⟨p,_,_,vs',ds,P,rfl,_,r,t,_⟩:=h
 rw[ç,r.length,hn ds P t]
def yI(t:Tb){m:Nat}{f:List D->(D->Prop)->Prop}:∀vs H Q E,@jO t m f vs H Q E->@jO noTb m f vs H Q E:=by
 rintro vs H Q E ⟨a,n,ok,vs',ds,P,rfl,pi,r,g,k⟩
 refine⟨a,n,λb=>ok b/\¬(@aq t a n).fp b,vs',ds,P,rfl,BK t pi,r.mono (λb o=>⟨o,λz=>o.2 (.inl (z.elim id è))⟩) (λ_ _ _ e=>e) (λ_ _ e=>e),g,λd v H' hP kp pi' rp=>k d v H' hP (Oo t kp) (BJ t pi kp pi') (rp.mono (λb o=>o.imp (·.1) id) (λ_ _ _ e=>e) λ_ _ e=>e)⟩
def Cal.TY{P:Program}{w:World}{K:Ñ}{mg:Str->Option Value}{base:Heap}{k:Nat}{x:Str}{ps:List Str}{t:Tb}{m:Nat}{f:List D->(D->Prop)->Prop}(c:Cal P w K mg base k x ps (@jO noTb m f)):Cal P w K mg base k x ps (@jO t m f):=by
 obtain⟨g,fd,F,r⟩:=c.ex
 exact⟨g,fd,F.imp (yI t),r⟩
def HX(ok:Addr->Prop)(a:Addr)(H:Hp):Pn where
 fp:=λb=>¬ok b/\b≠a/\∃o,H b=some o/\(∀xs,o≠.tup xs)/\¬Fxd o
 PI:=λH'=>∀b o,¬ok b->b≠a->H b=some o->((∀xs,o≠.tup xs)/\¬Fxd o)->H' b=some o
 pv:=.non
 mono:=λH1 H2 h1 h2 b o n na e1 e2=>h2 b o (.inl ⟨n,na,o,e1,e2⟩) (h1 b o n na e1 e2)
 is:=λH1 b h1 ⟨n,na,o,e1,e2⟩=>⟨o,h1 b o n na e1 e2,e2⟩
def Vs(f:List D->(D->Prop)->Prop)(i:Nat)(t:DA):DE:=λρ P=>ρ[i]?=some (.pen TP)/\t ρ λks=>(ks.all λk=>k.1.le .shr)=true/\f (ks.map (·.2)) λd=>P (norm .shr d) d
end Dl
namespace Wb
open PySem L2 PyProof.Rows Dl Wr
def Nh{f:List D->(D->Prop)->Prop}{Tm:DR}{N:List Str}{a:Addr}{n:Nat}{ok:Addr->Prop}{vs':List V}{ds:List D}{P:D->Prop}{H:Hp}{Q:VK}{M M':Nat}(pi:(@aq noTb a (n+M')).PI H)(r:Rps (λb=>ok b/\¬(@aq noTb a n).fp b) H vs' ds)(k:∀d v H',P d->Kp (@aq noTb a n) H H'->(@aq noTb a n).PI H'->Rp (λb=>(ok b/\¬(@aq noTb a n).fp b)\/H b=none) H' v d->Q v H')(hm:Nat.ble M M'=true)(body:∃ρ,ds.map aB++Ë (N.length - (ds.length+1)) .any=ρ/\Tm P (.pen TP::ρ)):@Ir ⟨HX ok a H⟩ M Tm { nx:=λ_ H'=>Q .non H',rt:=Q } (L2.start N (.ref a::vs')) H:=by
 letI:Tb:=⟨HX ok a H⟩
 have hm:=Nat.le_of_ble_eq_true hm
 obtain⟨ρ,e,b⟩:=body
 have piT:∀j,j<=n+M'->(aq a j).PI H:=λj hj=>⟨(@aD noTb _ _ _ _ pi hj).1,λb o _ _ e _=>e,λz=>z.2.1 rfl⟩
 have rT:Rps (λb=>¬(aq a n).fp b) H vs' ds:=r.mono (λb o z=>z.elim (λz=>o.2 (.inl z)) λz=>z.1 o.1) (λ_ _ _ e=>e) λ_ _ e=>e
 have E:=CP (C:=TP) (p:=aq a n) (N:=N) trivial trivial (piT n (by omega)) rT
 rw[e] at E
 have st:stp (.pen TP::ρ)=.pen TP::ρ:=by
  rw[←e]
  exact congrArg (List.cons (Sl.pen TP)) (wz ds _)
 refine⟨a,n,H,λ_=>none,_,_,⟨st,piT _ (by omega),E⟩,b,⟨λd v H' hP hI hk rp=>?_⟩⟩
 have kp:Kp (@aq noTb a n) H H':=λb o e nf=>by
  by_cases z:(aq a n).fp b
  ·rcases z with z|⟨n1,n2,o',e1,e2⟩
   ·exact absurd (Ń z) nf
   ·rw[e] at e1
    cases e1
    exact hI.2.1 b o n1 n2 e e2
  ·exact hk b o e z rfl
 refine k d v H' hP kp ⟨hI.1,trivial,λz=>z⟩ (rp.jD λc o n1 n2 e1=>?_)
 have nf:¬(@aq noTb a n).fp c:=λz=>n1 (.inl (z.elim id è))
 cases hx:H c with
 |none=>exact .inr rfl
 |some o' =>
  have e2:=kp c o' hx nf
  rw[e1] at e2
  cases e2
  exact .inl ⟨Classical.byContradiction λz=>n1 (.inr ⟨z,λy=>nf (.inl y),o,hx,n2⟩),nf⟩
section
variable [Tb]
def U5{X:Cx}{m m1:Nat}{es:List Expr}{f:List D->(D->Prop)->Prop}{t:DA}{ps:List Str}{x y:Str}{pp py pos:Pos}{k j i:Nat}(C:Cal X.prog X.w X.K X.mg X.base k x ps (jO m f))(hr:Room j X.A)(hi:WV X (.Name y py) i)(ha:BA X m1 es t)(hk:k<=j:=by decide)(hg:Gl X x:=by rfl)(hdb:zB x:=by decide)(he:starEach (.Name y py::es) X.env=(false,eval (.Name y py) X.env)::starEach es X.env:=by rfl)(hpl:zP X pos es:=by rfl):BE X (m1+m) (.Call (.Name x pp) (.Name y py::es) [] pos) (Vs f i t):=⟨PE.wk (pcS C hr (bN hi.h ha.h) hk hg hdb he hpl) (by
 rintro σ H Q ⟨a,n,H0,own,ρ,P,E,⟨hp,t⟩,q⟩
 obtain⟨hs,_⟩:=E.env.slot i _ hp
 refine⟨.ref a,hs,a,n+m,H0,own,ρ,_,E.first,t,λks vs H1 h A r=>?_⟩
 show jO m f ((.ref a::vs)++[]) H1 Q E0
 rw[í]
 have A':=A.lv (m:=n) (by omega)
 have rr:=Bm A r h.1
 rw[Hz (m:=n)] at rr
 refine⟨a,n,okK (aq a n) H0 own H .shr,vs,ks.map (·.2),_,rfl,A.pen,rr.mono (λb o=>⟨o,eX A' o⟩) (λ_ _ _ e=>e) (λ_ _ e=>e),h.2,λd v H' h2 k2 i2 r2=>q _ d v H' h2 (A'.go k2 i2) (aM (r2.mono (λb o=>?_) (λ_ _ _ e=>e) λ_ _ e=>e))⟩
 rcases o with o|o
 ·exact o.1
 ·exact bw A' (j:=.new) (k:=.shr) rfl (A'.free o))⟩
def rif{X:Cx}{m1 m2 m3:Nat}{c:Expr}{a rest:List Stmt}{pos:Pos}{tc:DT}{t u:DR}(hc:BT X m1 c tc)(ha:BR X m2 a t)(hb:BR X m3 rest u):BR X (m1+(m2+m3)) (.If c a [] pos::rest) (rIf tc t u):=⟨PSs.wk' (aQ (pY hc.h ha.h jX) hb.h) (by
 rintro Q σ H ⟨a,n,H0,own,ρ,P,E,t,w⟩
 refine⟨a,n+(m2+m3),H0,own,ρ,_,E.first,t,λb H' h A=>?_⟩
 have A':=A.lv (m:=n) (by omega)
 have w':∀Q',Q'.rt=Q.rt->WishR (aq a n) own H' P Q':=λQ' e=>⟨λd v H2 hP hI hk rp=>by
  rw[e]
  exact w.rt d v H2 hP hI (λb o e n1 n2=>hk b o (A'.frs.keep b o e n1 n2).1 n1 n2) rp⟩
 have E1:=E.next A
 cases b with
 |true=>exact aH ⟨a,n,H0,own,ρ,P,E1.low (by omega),by simpa using h,w' _ rfl⟩
 |false=>exact aL ⟨a,n,H0,own,ρ,P,E1.low (by omega),by simpa using h,w' _ rfl⟩)⟩
end
end Wb
namespace Dl
open PySem L2 PyProof.Rows
@[reducible] def rO(T:Pn)(K:Ñ)(sc:Addr)(ns:List Int):Gr:=⟨λp H0=>p=T/\SqL K H0 sc (ns.map V.int)/\(Rd H0 sc (.lst (ns.map V.int))->¬T.fp sc)⟩
def SqL.keep{K:Ñ}{H H':Hp}{a:Addr}{xs:List V}(h:SqL K H a xs)(k:Rd H a (.lst xs)->∀o,H a=some o->H' a=some o):SqL K H' a xs:=by
 rcases h with (h|⟨o,h⟩)|h
 ·exact .inl (.inl (k (.inl h) _ h))
 ·exact .inl (.inr ⟨o,k (.inr ⟨o,h⟩) _ h⟩)
 ·exact .inr h
def Ng{T:Pn}{K:Ñ}{Tm:DS}{N:List Str}{H:Hp}{Q:VK}{sc:Addr}{ns:List Int}(hS:SqL K H sc (ns.map V.int))(hT:T.PI H)(hf:Rd H sc (.lst (ns.map V.int))->¬T.fp sc)(q:∀H',Q (.bl true) H')(hN:1<=N.length)(body:Tm { nx:=λ_=>False,rt:=λd=>d=.bool true } (.scr (.ref sc) false::Ë (N.length - 1) .any)):@nU (rO T K sc ns) Tm { nx:=λ_ H'=>Q .non H',rt:=Q } (L2.start N [.ref sc]) H:=by
 letI:=rO T K sc ns
 refine⟨T,H,λ_=>none,_,_,?_,body,⟨λ_ _ _ _ _ _ n=>n.elim,λd v H' n w=>?_,λ_ _ _ _ _ _ n=>n.elim,λ_ _ _ _ _ _ n=>n.elim⟩⟩
 ·refine⟨λb o e _=>e,hT,λa r e=>(nomatch e),λj s e=>?_,by unfold L2.start;simp,rfl,hS,hf⟩
  cases j with
  |zero =>
   have e:=Ý e
   subst e
   exact⟨rfl,λz=>nomatch z⟩
  |succ j =>
   rw[Ž] at e
   have hm:=Ó e
   have e2:=(List.mem_replicate.mp hm).2
   subst e2
   trivial
 ·have n:d=.bool true:=n
  subst n
  have r:=w.rp
  have e:=r.bl'
  subst e
  exact q H'
end Dl
namespace Wb
open PySem L2 PyProof.Rows Dl Wr
section
variable [Tb]
def RM{X:Cx}{m:Nat}{e:Expr}{es:List Expr}{f:List D->(D->Prop)->Prop}{t:DA}{ps:List Str}{x:Str}{pp pos:Pos}{k j:Nat}(C:Cal X.prog X.w X.K X.mg X.base k x ps (spT Tb.T f))(hr:Room j X.A)(ha:BA X m (e::es) t)(hk:k<=j:=by decide)(hg:Gl X x:=by rfl)(hdb:zB x:=by decide)(he:zS X e es:=by rfl)(hpl:zP X pos es:=by rfl):BE X m (.Call (.Name x pp) (e::es) [] pos) (Kf f t):=⟨PE.wk (pcS C hr ha.h hk hg hdb he hpl) (by
 rintro σ H Q ⟨a,n,H0,own,ρ,P,E,t,q⟩
 refine⟨a,n,H0,own,ρ,_,E,t,λks vs H1 h A r=>?_⟩
 show spT Tb.T f (vs++[]) H1 Q E0
 rw[í]
 obtain⟨⟨x,y,c,hl,rr⟩,ht,na⟩:=A.pen
 refine⟨ks.map (·.2),_,ht,(RpK.rps A r).mono (λ_ o z=>o (.inr z)) (λ_ _ _ e=>e) (λ_ _ e=>e),h,λd v H' h2 kp pi' r2=>?_⟩
 have k2:Kp (aq a n) H1 H':=λb o e nf=>kp b o e λz=>nf (.inr z)
 exact q _ d v H' h2 (A.go k2 ⟨⟨x,y,c,kp a _ hl na,rr⟩,pi',na⟩) (aM (r2.mono (λa o=>A.free o) (λ_ _ _ e=>e) λ_ _ e=>e)))⟩
end
variable {X:Cx}{K:Ñ}{sc:Addr}{ns:List Int}{pre:List D->Prop}
def G5(tb:Tb){m i k j:Nat}{x y z:Str}{ps:List Str}{es:List Expr}{pos' spos p2 p3 pos1:Pos}{rest:List Stmt}{t1:DA}{t:DS}(C:Cal X.prog X.w X.K X.mg X.base k y ps (Kg K pre))(hr:Room j X.A)(hv:WV X (.Name z p3) 0)(ha:WDA X es t1)(hN:X.N.Nodup)(hi:X.N[i]?=some x)(hx:Loc X.env.scope x)(hb:@BSs tb X m rest t)(hm:Nat.ble m 1152921504606846976=true)(hk:k<=j:=by decide)(hg:Gl X y:=by rfl)(hdb:zB y:=by decide)(he:starEach (.Name z p3::es) X.env=(false,eval (.Name z p3) X.env)::starEach es X.env:=by rfl)(hpl:zP X pos1 es:=by rfl)(hs:swapsWith (.Call (.Name y p2) (.Name z p3::es) [] pos1) (some (.Name x pos')) spos.line X.env=pure false:=by rfl)(hf:zL X x:=by first|exact .inl rfl|exact .inr rfl|assumption) :
  @lZ (rO tb.T K sc ns) X (.Assign [.Name x pos'] (.Call (.Name y p2) (.Name z p3::es) [] pos1) spos::rest) (Wd sc pre i t1 t):=PSs.wk' (aQ (dg hN hi hx (pcS C hr (bN hv.h ha.h he) hk hg hdb he hpl) hs hf) (@BSs.h tb _ _ _ _ hb)) (by
 rintro Q σ H ⟨p,H0,own,ρ,P,E,⟨⟨b0,h0⟩,hil,t⟩,w⟩
 have hm:=Nat.le_of_ble_eq_true hm
 have gr:=@EnvD.gr (rO tb.T K sc ns) _ _ _ _ _ _ E
 obtain⟨ep,gS,gf⟩:=gr
 subst ep
 have grr:(rO tb.T K sc ns).G tb.T H0:=⟨rfl,gS,gf⟩
 replace E:=Nb E
 have wnx:∀own' σ' H' ρ',EnvD tb.T H0 own' σ' H' ρ'->FrS tb.T own H own' H'->P.nx ρ'->Q.nx σ' H':=λo s h r e f n=>@Wish.nx (rO tb.T K sc ns) _ _ _ _ _ _ w o s h r (JC grr e) f n
 have wrt:∀d v H',P.rt d->RPost tb.T H0 H' v d->Q.rt v H':=@Wish.rt (rO tb.T K sc ns) _ _ _ _ _ _ w
 obtain⟨hs0,_⟩:=E.slot 0 _ h0
 refine⟨.ref sc,hs0,tb.T,H0,own,ρ,_,E,t,λks vs H1 h1 A1 r1=>?_⟩
 show Kg K pre ((.ref sc::vs)++[]) H1 _ E0
 rw[í]
 refine⟨sc,ns,vs,ks.map (·.2),rfl,SqL.keep gS λr o e=>A1.kp sc o (E.k0 sc o e (gf r)) (gf r),(RpK.rps A1 r1).mono (λ_ _=>trivial) (λ_ _ _ e=>e) λ_ _ e=>e,h1.1,λa H2 pi0 s12 fr=>?_⟩
 have nfa:¬tb.T.fp a:=λz=>by
  obtain⟨o,e,_⟩:=tb.T.is H1 a A1.pen z
  rw[fr] at e
  cases e
 have pi2:(@aq tb a 1152921504606846976).PI H2:=⟨pi0.1,tb.T.mono H1 H2 A1.pen λb o _ e=>s12 b o e,nfa⟩
 have hil2:i<σ.length:=by rw[←E.len];exact hil
 have tp:∀b xs,H b=some (.tup xs)->H2 b=some (.tup xs):=λb xs e=>s12 b _ (A1.tups b xs e)
 have E2:EnvD (@aq tb a (1152921504606846976 - m)) H2 (λ_=>none) (σ.set i (some (.ref a))) H2 ((ρ.map vm).set i (.pen TP)):=by
  refine⟨λ_ _ e _=>e,@aD tb _ _ _ _ pi2 (by omega),λ_ _ e=>(nomatch e),λq s e=>?_,by simp[E.len],trivial⟩
  by_cases hq:q=i
  ·subst hq
   rw[ą (by simpa using hil)] at e
   cases e
   exact⟨ą hil2,trivial⟩
  ·rw[Ę (ă hq),à] at e
   have eq:(σ.set i (some (V.ref a)))[q]?=σ[q]?:=Ę (ă hq)
   cases e1:ρ[q]? with
   |none=>rw[e1] at e;cases e
   |some s1 =>
    rw[e1] at e
    have e:=Ý e
    subst e
    have hq1:=E.slot q s1 e1
    cases s1 with
    |im d =>
     obtain⟨v,ev,rv⟩:=hq1
     exact⟨v,by rw[eq];exact ev,rv.mono (λ_ o=>o) (λ_ _ o=>o.elim) tp⟩
    |scr v b=>exact⟨by rw[eq];exact hq1.1,λz=>nomatch z⟩
    |_=>trivial
 have st:stp ((ρ.map vm).set i (.pen TP))=(ρ.map vm).set i (.pen TP):=by
  refine Az ?_ rfl
  unfold stp
  rw[ï]
  refine Ő λs _=>?_
  cases s <;> rfl
 have keep:∀b o,H b=some o->¬tb.T.fp b->H2 b=some o/\¬(@aq tb a (1152921504606846976 - m)).fp b:=λb o e n=>⟨s12 b o (A1.kp b o e n),λz=>z.elim (λz=>by subst z;rw[A1.kp b o e n] at fr;cases fr) n⟩
 have k0:∀H':Hp,(∀b o,H2 b=some o->¬(@aq tb a (1152921504606846976 - m)).fp b->H' b=some o)->∀b o,H0 b=some o->¬tb.T.fp b->H' b=some o:=λH' k b o e n=>by
  have:=keep b o (E.k0 b o e n) n
  exact k b o this.1 this.2
 refine⟨a,1152921504606846976 - m,H2,λ_=>none,_,_,@EnvB.mk tb _ _ _ _ _ _ _ _ st (by rw[show 1152921504606846976 - m+m=1152921504606846976 by omega];exact pi2) E2,h1.2,⟨λo s h r e g nn=>?_,λd v h nn r=>?_,λ_ _ _ _ _ _ n=>n.elim,λ_ _ _ _ _ _ n=>n.elim⟩⟩
 ·obtain⟨⟨b,hb0⟩,hlen,hP⟩:=nn
  refine wnx own s h _ ?_ ⟨λb o eb n z=>?_,λc xs e=>g.tup c xs (tp c xs e)⟩ hP
  ·refine⟨k0 h e.k0,e.pen.2.1,λc q oc=>?_,λq sl eq=>?_,?_,trivial⟩
   ·obtain⟨h1',h2',h3'⟩:=E.ow c q oc
    refine⟨h1',h2',λz=>?_⟩
    cases hc:H c with
    |none=>exact h3' hc
    |some o =>
     have:=keep c o hc h2'
     rw[e.k0 c o this.1 this.2] at z
     cases z
   ·unfold QD at eq
    cases q with
    |zero =>
     have eq:=Ý eq
     subst eq
     exact⟨(e.slot 0 _ hb0).1,λz=>nomatch z⟩
    |succ q =>
     rw[Ž] at eq
     have:=(List.mem_replicate.mp (Ó eq)).2
     subst this
     trivial
   ·unfold QD
    have:=e.len
    rw[ç,Ň]
    omega
  ·have:=keep b o eb n
   exact⟨e.k0 b o this.1 this.2,z⟩
 ·refine wrt d v h nn ⟨k0 h r.k0,r.pen.2.1,r.rp.mono (λb o=>?_) (λ_ _ _ e=>e) λ_ _ e=>e⟩
  have nf:¬tb.T.fp b:=λz=>o.2 (.inr z)
  refine⟨?_,nf⟩
  cases e0:H0 b with
  |none=>rfl
  |some u =>
   rw[(keep b u (E.k0 b u e0 nf) nf).1] at o
   cases o.1)
def Sg{T:Pn}{tg iter:Expr}{body after:List Stmt}{pos:Pos}{ti:DI}{g:DG}{tb u:DS}(hp:PassesOwn (model X.prog X.w) X.A X.env X.xe)(hc:X.calm=true)(hi:WDI X tg iter ti)(hg:WDG X tg g)(hb:@lZ (rO T K sc ns) X body tb)(ha:WDSs X after u)(hs:zF X iter:=by intro _;rfl):@lZ (rO T K sc ns) X (.For tg iter body [] pos::after) (Dl.JK (Nj ti g tb) u):=by
 letI:=rO T K sc ns
 exact Dl.dU (Dl.nA hp hc (anyI hi) (Wg hg) hb hs) (Vc ha)
end Wb
namespace L2
open PySem PySem.Spec PyProof.Rows
def Qp{X:Cx}{a b:Expr}{rest:List Expr}{pos:Pos}{ta tb:TE}(ha:PE X a ta)(hb:PE X (.BoolOp .Or (b::rest) pos) tb):PE X (.BoolOp .Or (a::b::rest) pos) (λσ H Q=>ta σ H λx H1=>Ve X.K x H1 false/\tb σ H1 Q):=by
 intro pins s σ H Q I h
 refine BoolOp_or (thn (ha pins s σ H _ I h) λv s1 ⟨x,H1,I1,r1,tr,q1⟩=>?_)
 refine thn (O4 pins s1 σ H1 x v (λc H2=>c=false/\tb σ H2 Q) I1 r1 ⟨false,tr,rfl,q1⟩) λc s2 ⟨H2,I2,e,q2⟩=>?_
 subst e
 rw[if_neg É]
 exact hb pins s2 σ H2 Q I2 q2
end L2
namespace Dl
open PySem L2 PyProof.Rows
def SN(ta tb:DE):DE:=λρ P=>ta ρ λ_ d=>(d=.list []\/d=.tuple [])/\tb ρ P
def yX[Gr]{X:Cx}{a b:Expr}{rest:List Expr}{pos:Pos}{ta tb:DE}(ha:PD X a ta)(hb:PD X (.BoolOp .Or (b::rest) pos) tb):PD X (.BoolOp .Or (a::b::rest) pos) (SN ta tb):=PE.wk (Qp ha hb) (by
 rintro σ H Q ⟨p,H0,own,ρ,P,E,t,q⟩
 refine⟨p,H0,own,ρ,_,E,t,λk d v H' h A r=>⟨?_,⟨p,H0,own,ρ,P,E.go A.kp A.pen,h.2,λk d v H2 h2 A2 r2=>q k d v H2 h2 (A.base A2) (gn A r2)⟩⟩⟩
 rcases h.1 with rfl|rfl
 ·obtain⟨c,vs,rfl,o,hc,rs⟩:=Rp.cj r
  cases rs
  exact .inl ⟨[],SqL.of hc,rfl⟩
 ·obtain⟨c,vs,rfl,hc,rs⟩:=Rp.d7 r
  cases rs
  exact .inr (.inl ⟨[],SqT.of hc,rfl⟩))
end Dl
namespace Wr
open PySem L2 PyProof.Rows Dl
def yX[Gr]{X:Cx}{a b:Expr}{rest:List Expr}{pos:Pos}{ta tb:DE}(ha:WD X a ta)(hb:WD X (.BoolOp .Or (b::rest) pos) tb):WD X (.BoolOp .Or (a::b::rest) pos) (SN ta tb):=⟨Dl.yX ha.h hb.h⟩
end Wr
namespace HT
open PySem PyProof.Rows
def lJ{prog:Program}{w:World}{A:Around}{E:Value->Shared->Prop}{s:Shared}{t sl:Addr}{items:Array Value}{vl vu:Value}{lo hi:Option Int}{Q:Value->Shared->Prop}(ht:IsTup s.heap t items)(hs:s.heap.IsSliceOf sl vl vu .none)(pl:IsPart vl lo)(pu:IsPart vu hi)(hw:sIx items.size 0 lo=0/\sIx items.size items.size hi=items.size)(h:Q (.ref t) s):wpAny (model prog w) A (getItem (.ref t) (.ref sl)) Q E s:=by
 obtain⟨os,hos,hcs,hds⟩:=id hs
 have hTs:s.TypeIs (.ref sl) "slice":=⟨os,hos,hcs⟩
 unfold getItem
 try with_reducible refine ö ?_
 first|refine Â (Ê ?_)|skip
 refine Â (wpAny_sequenceKey ht.typeIs (by decide) ?_)
 refine Â (ŀ (name:=ð "__getitem__") ht.typeIs ē
  (Ŗ ē ht.typeIs entry_tuple_getitem ?_ (args_tuple_getitem _ _)))
 show wpAny _ _ (Builtin.Tuple.tupleItemsOf (.ref t) >>= _) _ _ s
 refine Â (tupleItemsOf_ ht ?_)
 refine Â (wpAny_typeOf hTs ?_)
 rw[if_pos (by decide)]
 refine Â (fH hs pl pu ?_)
 have hy:(((sIx items.size 0 lo:Nat):Int) == 0&&(1:Int) == 1&&(sIx items.size items.size hi - sIx items.size 0 lo) == items.size)=true:=by
  rw[hw.1,hw.2]
  simp
 show wpAny _ _ (if (((sIx items.size 0 lo:Nat):Int) == 0&&(1:Int) == 1&&(sIx items.size items.size hi - sIx items.size 0 lo) == items.size)=true then _ else _) _ _ s
 rw[if_pos hy]
 refine Â (Â (wpAny_typeOf ht.typeIs (Ê ?_)))
 rw[if_pos (by decide)]
 exact Â (wpAny_rule (Ê ⟨_,rfl,Ê h⟩))
end HT
namespace L2
open PySem PySem.Spec PyProof.Rows
def VF(K:Ñ):V->Option Int->Option Int->Hp->VK->Prop:=λx lo hi H Q=>∃a xs,x=.ref a/\SqT K H a xs/\(HT.sIx xs.length 0 lo=0/\HT.sIx xs.length xs.length hi=xs.length)/\Q x H
def Kl{X:Cx}:SlR X (VF X.K):=by
 intro pins s σ H x v vl vu lo hi sl Q I rx hs pl pu h
 obtain⟨a,xs,rfl,hx,hw,q⟩:=h
 cases rx
 obtain⟨its,r,ht,hz⟩:=I.tuple hx
 have hlen:its.toArray.size=xs.length:=by rw[Ï];exact r.length.symm
 refine⟨"tuple",_,ē.lookup,ht.typeIs,?_⟩
 exact HT.lJ ht hs pl pu (by rw[hlen];exact hw) ⟨.ref a,H,I,rfl,q⟩
end L2
namespace Dl
open PySem L2 PyProof.Rows
def Sx(te:DE)(tl th:DO):DE:=λρ P=>te ρ λk d=>tl ρ λlo=>th ρ λhi=>match d with
 |.list ds=>newP k (bG ds lo hi) λk'=>P k' (.list (bG ds lo hi))
 |.tuple ds=>P (norm k (.tuple (bG ds lo hi))) (.tuple (bG ds lo hi))
 |_=>False
def Nk{ds:List D}{lo hi:Option Int}(h:HT.sIx ds.length 0 lo=0/\HT.sIx ds.length ds.length hi=ds.length):bG ds lo hi=ds:=by
 unfold bG
 rw[h.1,h.2,List.drop_zero,Nat.sub_zero,Ĩ]
def qm[Gr]{X:Cx}{e:Expr}{te:DE}{pos p2:Pos}{lo hi:Option Expr}{tl th:DO}(he:PD X e te)(hl:PO X lo (lA tl))(hh:PO X hi (lA th)):PD X (.Subscript e (.Slice lo hi none p2) pos) (Sx te tl th):=PE.wk (p8 (SlR.or uy (SlR.or Gm Kl)) he hl hh) (by
 rintro σ H Q ⟨p,H0,own,ρ,P,E,t,q⟩
 refine⟨p,H0,own,ρ,_,E,t,λk d v H1 h A r=>?_⟩
 refine⟨p,H0,own,ρ,_,E.go A.kp A.pen,h,λo1 H2 h2 A2=>?_⟩
 refine⟨p,H0,own,ρ,_,(E.go A.kp A.pen).go A2.kp A2.pen,h2,λo2 H3 h3 A3=>?_⟩
 have A4:=(A.base A2).base A3
 have r3:=fK (A.base A2) A3.kp (fK A A2.kp r)
 cases d with
 |list ds =>
  obtain⟨x,xs,e1,o,h1,rs⟩:=Rp.cj r3
  subst e1
  refine .inl ⟨x,xs,rfl,SqL.of h1,λl hl=>?_⟩
  obtain⟨k2,i2,nw⟩:=A4.new hl (.lst (nF xs o1 o2))
  obtain⟨k',hk',rk'⟩:=gJ A4 (aX A4 k2 (rs.cut o1 o2)) nw ao h3
  exact q _ _ _ _ hk' (A4.go k2 i2) rk'
 |tuple ds =>
  obtain⟨x,xs,e1,h1,rs⟩:=Rp.d7 r3
  by_cases w:HT.sIx ds.length 0 o1=0/\HT.sIx ds.length ds.length o2=ds.length
  ·refine .inr (.inr ⟨x,xs,e1,SqT.of h1,by rw[rs.length];exact w,?_⟩)
   have h3:P (norm k (.tuple (bG ds o1 o2))) (.tuple (bG ds o1 o2)):=h3
   rw[Nk w] at h3
   exact q _ _ _ _ h3 A4 (aM r3)
  ·subst e1
   refine .inr (.inl ⟨x,xs,rfl,SqT.of h1,by rw[rs.length];exact w,λl hl=>?_⟩)
   obtain⟨k2,i2,nw⟩:=A4.new hl (.tup (nF xs o1 o2))
   exact q _ _ _ _ h3 (A4.go k2 i2) (aM (.tup ao (aX A4 k2 (rs.cut o1 o2))))
 |_=>exact h3.elim)
end Dl
namespace Wr
open PySem L2 PyProof.Rows Dl
def qm[Gr]{X:Cx}{e:Expr}{te:DE}{pos p2:Pos}{lo hi:Option Expr}{tl th:DO}(he:WD X e te)(hl:WDO X lo tl)(hh:WDO X hi th):WD X (.Subscript e (.Slice lo hi none p2) pos) (Sx te tl th):=⟨Dl.qm he.h hl.h hh.h⟩
end Wr
open Wr renaming aA → À,aK → Á,bD → Ä,dv → Å,j4 → Ú,bF → ã,bV → é,dU → ê,Hg → õ,nu → ú,gG → þ,dW → Ĉ,uM → ĉ,wv → č,ql → Ġ,dc → ĥ,gA → Ħ,uK → ĭ,jL → ĳ,tL → Ĺ,qu → ļ,iV → œ,uG → ř,mO → ŝ,jj → ŧ,uN → Ũ,wM → ũ,uF → ŭ
open Dl renaming Cal → Ü,Mg → Ĕ,Bn → ĝ,Nv → Ģ,Cal1 → ň,qI → ŗ,qJ → Ř,Qz → Ű
open L2 renaming bN → Ć,Rx → Ď,G7 → Đ,jH → ō
open Wr.WDSs renaming h → Ĝ
namespace Nf
open PySem PySem.W PyProof.Rows
def oO(tb:String->Option Builtin)(p:Program)(w:World)(m:Nat)(ann:Option Value):Nat->SharedT->Thread->Option SharedT
 |0,_,_=>none
 |n+1,s,t=>match through t with
  |true=>some s
  |false=>match stepOk m ann t with
   |false=>none
   |true=>match stepT (denote tb) p w s t with
    |none=>none
    |some r=>oO tb p w m ann n r.1 r.2
def rY{tb:String->Option Builtin}{p:Program}{w:World}{m:Nat}{ann:Option Value}:∀{n:Nat}{s s':SharedT}{t:Thread},oO tb p w m ann n s t=some s'->topRun tb p w m ann n s.abs t=some s'.abs
 |0,_,_,_,h=>by cases h
 |n+1,s,s',t,h=>by
  unfold oO at h
  unfold topRun
  cases he:through t with
  |true=>rw[he] at h;cases h;rfl
  |false =>
   rw[he] at h
   cases hk:stepOk m ann t with
   |false=>rw[hk] at h;cases h
   |true =>
    rw[hk] at h
    cases hs:stepT (denote tb) p w s t with
    |none=>rw[hs] at h;cases h
    |some r=>obtain⟨s2,t2⟩:=r;rw[hs] at h;rw[stepT_spec hs];exact rY h
def qX(P:Params):List DictEntry:=match (ŵ P).data with|.dict es _=>es.toList|_=>[]
def fZ(P:Params)(i:Nat):List DictEntry:=((qX P).drop i).take 16
def b0(P:Params):List DictEntry:=by
 refine(?f:(l:List DictEntry)->l=fZ P 0->List DictEntry) ?l ?h
 case f=>exact λl _=>l
 case h=>unfold fZ qX ŵ;dsimp only[ū,ś];exact rfl
def b1(P:Params):List DictEntry:=by
 refine(?f:(l:List DictEntry)->l=fZ P 16->List DictEntry) ?l ?h
 case f=>exact λl _=>l
 case h=>unfold fZ qX ŵ;dsimp only[ū,ś];exact rfl
def b2(P:Params):List DictEntry:=by
 refine(?f:(l:List DictEntry)->l=fZ P 32->List DictEntry) ?l ?h
 case f=>exact λl _=>l
 case h=>unfold fZ qX ŵ;dsimp only[ū,ś];exact rfl
def b3(P:Params):List DictEntry:=by
 refine(?f:(l:List DictEntry)->l=fZ P 48->List DictEntry) ?l ?h
 case f=>exact λl _=>l
 case h=>unfold fZ qX ŵ;dsimp only[ū,ś];exact rfl
def b4(P:Params):List DictEntry:=by
 refine(?f:(l:List DictEntry)->l=fZ P 64->List DictEntry) ?l ?h
 case f=>exact λl _=>l
 case h=>unfold fZ qX ŵ;dsimp only[ū,ś];exact rfl
def b5(P:Params):List DictEntry:=by
 refine(?f:(l:List DictEntry)->l=fZ P 80->List DictEntry) ?l ?h
 case f=>exact λl _=>l
 case h=>unfold fZ qX ŵ;dsimp only[ū,ś];exact rfl
def b6(P:Params):List DictEntry:=by
 refine(?f:(l:List DictEntry)->l=fZ P 96->List DictEntry) ?l ?h
 case f=>exact λl _=>l
 case h=>unfold fZ qX ŵ;dsimp only[ū,ś];exact rfl
def b7(P:Params):List DictEntry:=by
 refine(?f:(l:List DictEntry)->l=fZ P 112->List DictEntry) ?l ?h
 case f=>exact λl _=>l
 case h=>unfold fZ qX ŵ;dsimp only[ū,ś];exact rfl
def b8(P:Params):List DictEntry:=by
 refine(?f:(l:List DictEntry)->l=fZ P 128->List DictEntry) ?l ?h
 case f=>exact λl _=>l
 case h=>unfold fZ qX ŵ;dsimp only[ū,ś];exact rfl
def b9(P:Params):List DictEntry:=by
 refine(?f:(l:List DictEntry)->l=fZ P 144->List DictEntry) ?l ?h
 case f=>exact λl _=>l
 case h=>unfold fZ qX ŵ;dsimp only[ū,ś];exact rfl
def bo0(P:Params):Obj:={ cls:=.type "dict",data:=.dict ⟨b0 P++(b1 P++(b2 P++(b3 P++(b4 P++(b5 P++(b6 P++(b7 P++(b8 P++(b9 P)))))))))⟩ 159 }
def RZ:ŵ=bo0:=by funext P;kernel_rfl
def JX(P:Params):Heap:={ objs:=⟨[bo0 P,boot_o_1 P,boot_o_2 P,boot_o_3 P,boot_o_4 P,boot_o_5 P,boot_o_6 P,boot_o_7 P,boot_o_8 P,boot_o_9 P,boot_o_10 P]⟩ }
def yc:ŏ=JX:=by
 funext P
 show Heap.mk ⟨ŵ P::_⟩ _=_
 rw[RZ]
 rfl
def xZ(P:Params):BT:=((((((((((BT.nil.ins 0 (bo0 P)).ins 1 (boot_o_1 P)).ins 2 (boot_o_2 P)).ins 3 (boot_o_3 P)).ins 4 (boot_o_4 P)).ins 5 (boot_o_5 P)).ins 6 (boot_o_6 P)).ins 7 (boot_o_7 P)).ins 8 (boot_o_8 P)).ins 9 (boot_o_9 P)).ins 10 (boot_o_10 P)
def Om:Life:={}
def Fw(P:Params):absHeap (xZ P) 11 Om=ŏ P:=by rw[yc];kernel_rfl
def yH(w:World)(os:OsState):SharedT:=⟨xZ w.params,11,Om,#[],boot_drawn,boot_toks,os⟩
def Dm(w:World)(os:OsState):(yH w os).abs=⟨ŏ w.params,#[],boot_drawn,boot_toks,os⟩:=by
 unfold yH SharedT.abs
 dsimp only
 rw[Fw]
def Bg(P:Params):=((ŏ P).isNs mainGlobals,(ŏ P).objs.size,(ŏ P).nsMap mainGlobals "__annotations__")
def yK:Bg=Bg:=rfl
end Nf
name_quick sizeQ for Nf.Bg by Nf.yK
namespace Nf
open PySem PySem.W PyProof.Rows
def Fx(w:World):((ŏ w.params).isNs mainGlobals,(ŏ w.params).objs.size,(ŏ w.params).nsMap mainGlobals "__annotations__")=(true,11,some (.ref 6)):=by
 show Bg w.params=_
 rw[W.Fast.sizeQ_eq]
 kernel_rfl
def Du(p:Program)(N:Nat)(w:World)(os:OsState):=oO treeTable p w 11 (some (.ref 6)) N (yH w os) (topStub p)
def Gs(p q:Program)(Xt:Shared->Bool)(w:World)(s:Shared) :=
 (staticsOk (importedModules p.main.body) (JX w.params) s.heap&&namesBound p s.heap&&gensDone s&&laidKept (JX w.params) s.heap,openSeen q [] (importedModules p.main.body) Xt true s)
def Mh{p q:Program}{Xt:Shared->Bool}{β:Type}{Yf:Shared->List β}{Ya:World->List β}{N:Nat}(k:Nat)(open_:∀w:World,(fencedOpening treeTable p w N).map (λs=>(s.heap,s.gens,s.drawn,s.toks))=some (ŏ w.params,Array.mk [],boot_drawn,boot_toks))(look:∀(w:World) (os:OsState),(Du p N w os).map (λs=>Gs p q Xt w s.abs)=some (true,openGood q []))(front:∀(w:World) (os:OsState),(Du p N w os).map (λs=>(Yf s.abs).take k)=some ((Ya w).take k))(back:∀(w:World) (os:OsState),(Du p N w os).map (λs=>(Yf s.abs).drop k)=some ((Ya w).drop k)):LeftO p q [] Xt Yf Ya N:=λw=>by
 obtain⟨⟨h,gs,d,j,os⟩,e,e'⟩:=Ľ.mp (open_ w)
 obtain⟨rfl,rfl,rfl,rfl⟩:h=ŏ w.params/\gs=#[]/\d=boot_drawn/\j=boot_toks:=by simpa using e'
 obtain⟨z1,z2,z3⟩:_/\_/\_:=by simpa only[Prod.mk.injEq] using Fx w
 obtain⟨s,hs,l⟩:=Ľ.mp (look w os)
 have l4:(Yf s.abs).take k=(Ya w).take k:=by
  have:=front w os
  rw[hs] at this
  exact Ý this
 have l5:(Yf s.abs).drop k=(Ya w).drop k:=by
  have:=back w os
  rw[hs] at this
  exact Ý this
 have l3:Yf s.abs=Ya w:=by rw[←List.take_append_drop k (Yf s.abs),l4,l5,List.take_append_drop]
 unfold Gs at l
 rw[←yc] at l
 obtain⟨l1,l2⟩:=Prod.mk.inj l
 have r:=rY hs
 rw[Dm] at r
 have t:topFrom treeTable p w N ⟨ŏ w.params,#[],boot_drawn,boot_toks,os⟩=some s.abs:=by
  unfold topFrom
  dsimp only
  rw[z1,z2,z3,r]
  show(match staticsOk (importedModules p.main.body) (ŏ w.params) s.abs.heap&&namesBound p s.abs.heap&&gensDone s.abs&&laidKept (ŏ w.params) s.abs.heap with|true=>_|false=>_)=_
  rw[l1]
 unfold openEnds
 rw[e]
 show(topFrom treeTable p w N _).map _=_
 rw[t]
 exact congrArg some (Prod.ext l2 l3)
end Nf
namespace Nf
open PySem L2 PyProof.Rows Dl
def top(i:Nat):Stmt:=PySem.Challenge.pw_nofall_k40_no_offers.main.body.getD i (.Pass ⟨0,0,0,0⟩)
structure Proper(n:Int)(l:List Int):Prop where
 one:1<=l.length
 few:(l.length:Int)<n
 rng:∀x∈l,0<=x/\x<n
 rise:l.Pairwise (·<·)
 n16:n<=16
def Ov(ds:List D)(P:D->Prop):Prop:=∃l:List Int,ds=[.list (l.map Í)]/\l.length<=400/\P (.list ((l.dropLast.zip (l.drop 1)).map pD))
def toI:D->Int
 |.int i=>i
 |_=>0
def jW(l:List Int):Bool:=(l.dropLast.zip (l.drop 1)).all λt=>decide (t.1<t.2)
def yM(m:Int):D->Bool
 |.list es=>es.all (aJ m)&&jW (es.map toI)
 |_=>false
def Um(n:Int):D->Bool
 |.list es=>decide ((1:Int)<=(es.length:Nat))&&decide (((es.length:Nat):Int)<n)
 |_=>false
def aO(n:Int)(d:D):Bool:=yM n d&&Um n d
def Few(d:D):Prop:=∀es,d=.list es->es.length<=400
def pC(ds:List D)(P:D->Prop):Prop:=∃m d,ds=[.int m,d]/\Few d/\P (.bool (yM m d))
def pF(ds:List D)(P:D->Prop):Prop:=∃n d,ds=[.int n,d]/\Few d/\P (.bool (aO n d))
def Jx(ds:List D)(P:D->Prop):Prop:=∃n us l,ds=[au n us,.list (l.map Í)]/\Proper n l/\P .none
def lv(l:List Int)(t:Tie):Bool:=decide (t.1∈l) != decide (t.2∈l)
def UW(ds:List D)(P:D->Prop):Prop:=∃n us l,ds=[au n us,.list (l.map Í)]/\Proper n l/\us.length<=100/\P (.list ((us.filter (lv l)).map pD))
def tH(ds:List D)(P:D->Prop):Prop:=∃n us l,ds=[au n us,.list (l.map Í)]/\Proper n l/\us.length<=100/\P (.int ((us.filter (lv l)).length:Nat))
def Jw(ds:List D)(P:D->Prop):Prop:=∃n us l fa,ds=[au n us,.int fa,.list (l.map Í)]/\Proper n l/\us.length<=100/\P (.int (if 0 > fa+1 - ((us.filter (lv l)).length:Nat) then 0 else fa+1 - ((us.filter (lv l)).length:Nat)))
def tD{l:List Int}(h:l.Pairwise (·<·)):∀t∈l.dropLast.zip (l.drop 1),t.1<t.2:=by
 intro t ht
 obtain⟨i,hi,e⟩:=List.mem_iff_getElem.mp ht
 have h1:i<l.length - 1:=by
  rw[Ÿ,List.length_dropLast,ě] at hi
  omega
 rw[List.getElem_zip] at e
 have e1:l.dropLast[i]'(by rw[List.length_dropLast];exact h1)=l[i]:=List.getElem_dropLast _
 have e2:(l.drop 1)[i]'(by rw[ě];exact h1)=l[1+i]:=List.getElem_drop
 rw[←e]
 simp only[e1,e2]
 exact(List.pairwise_iff_getElem.mp h) i (1+i) (by omega) (by omega) (by omega)
def ju{n:Int}{d:D}(h:aJ n d=true):∃i:Int,d=.int i:=by
 cases d with
 |int i=>exact⟨i,rfl⟩
 |_=>cases h
def bB(d:D):aB d=.im d\/aB d=.sh d:=by
 unfold aB
 by_cases h:bU d=true
 ·rw[if_pos h];exact .inl rfl
 ·rw[if_neg h];exact .inr rfl
def ints_of{n:Int}:∀{es:List D},es.all (aJ n)=true->es=(es.map toI).map Í
 |[],_=>rfl
 |d::es,h=>by
  rw[ŷ,Î] at h
  obtain⟨i,rfl⟩:=ju h.1
  have:=ints_of h.2
  rw[û,û,←this]
  rfl
def uq(l:List Int):(l.map Í).map toI=l:=by rw[ï];exact List.map_id' l
def gw{n:Int}{l:List Int}(h:Proper n l):aO n (.list (l.map Í))=true:=by
 have h1:=h.one
 have h2:=h.few
 have e1:(l.map Í).all (aJ n)=true:=Ą.mpr λd hd=>by
  obtain⟨x,hx,rfl⟩:=Ă.mp hd
  exact decide_eq_true (h.rng x hx)
 have e2:jW l=true:=Ą.mpr λt ht=>decide_eq_true (tD h.rise t ht)
 show(((l.map Í).all (aJ n)&&jW ((l.map Í).map toI))&&(decide ((1:Int)<=((l.map Í).length:Nat))&&decide ((((l.map Í).length:Nat):Int)<n)))=true
 rw[e1,uq,e2,Ã,decide_eq_true (show(1:Int)<=(l.length:Nat) by omega),decide_eq_true h2]
 rfl
def xV{l:List Int}(h:l.length<=400):Few (.list (l.map Í)):=λes e=>by
 injection e with e
 rw[←e,Ã]
 exact h
def fB{α:Type}(l:List α):bG l none (some (-1))=l.dropLast:=by
 unfold bG
 have e1:HT.sIx l.length 0 none=0:=rfl
 have e2:HT.sIx l.length l.length (some (-1))=l.length - 1:=by
  have e:HT.sIx l.length l.length (some (-1))=((-1:Int)+(l.length:Int)).toNat:=rfl
  rw[e]
  omega
 rw[e1,e2,List.drop_zero,Nat.sub_zero,List.dropLast_eq_take]
def lQ{α:Type}(l:List α):bG l (some 1) none=l.drop 1:=by
 unfold bG
 have e1:HT.sIx l.length l.length none=l.length:=rfl
 have e2:HT.sIx l.length 0 (some 1)=min 1 l.length:=HT.jg l.length 0 1
 rw[e1,e2]
 rw[Ł (by rw[ě];omega)]
 by_cases h:1<=l.length
 ·rw[Nat.min_eq_left h]
 ·have:l=[]:=List.length_eq_zero_iff.mp (by omega)
  subst this
  rfl
def vX(a b:List Int):((a.map Í).zip (b.map Í)).map prD=(a.zip b).map pD:=by
 rw[List.zip_map,ï]
 rfl
section
variable {P:Program}{w:World}{K:Ñ}{mg:Str->Option Value}{base:Heap}{f:Addr}{fd:FuncData}
def sc4:FnScope ["thing"] ["thing"] (aj (top 13)):=zC
def Hu(F:Fun K "is_whole" "is_whole" (top 13) f fd)(B:ĝ mg):FnOk P w K mg base CX0 1 f fd ["thing"] (spD jK):=by
 refine F.ok sc4 Ĕ (λcdv A outer s H vs Q E hr h=>?_)
 refine⟨_,bF (bV (mO (bI Mq B.isinstance (dv 0) (jZ (v:=.ty "int") rfl B.int boot_int rfl)) (cF (Qx (bI Jc B.isinstance (dv 0) (jZ (v:=.ty "bool") rfl B.bool boot_bool rfl)))))),vH h ?_⟩
 rintro ds P ⟨d,rfl,q⟩
 unfold JL Ay tIs
 refine Ge (d:=d) rfl λk=>?_
 cases d <;> exact⟨rfl,q⟩
def sc5:FnScope ["limit","thing"] ["limit","thing"] (aj (top 14)):=zC
def Hx(F:Fun K "is_below" "is_below" (top 14) f fd)(W:Ü P w K mg base 1 "is_whole" ["thing"] (spD jK)):FnOk P w K mg base CX0 2 f fd ["limit","thing"] (spD Ag):=by
 refine F.ok sc5 Ĕ (λcdv A outer s H vs Q E hr h=>?_)
 refine⟨_,bF (bV (mO (dc W hr (aA (dv 1) aK)) (cF (BZ bD (dv 1) (dv 0))))),vH h ?_⟩
 rintro ds P ⟨m,d,rfl,q⟩
 unfold JL Ay tFn iZ
 refine Ge (d:=d) rfl λk=>⟨d,rfl,?_⟩
 cases d with
 |int i =>
  have e:P (.bool (decide (0<=i/\i<m))):=q
  by_cases h0:(0:Int)<=i
  ·show if decide ((0:Int)<=i)=true then _ else _
   rw[decide_eq_true h0]
   refine aH (B:=True) ⟨rfl,?_⟩
   have e2:decide (0<=i/\i<m)=decide (i<m):=by simp[h0]
   rw[e2] at e
   exact e
  ·show if decide ((0:Int)<=i)=true then _ else _
   rw[decide_eq_false h0]
   refine aL (A:=True) ⟨rfl,?_⟩
   have e2:decide (0<=i/\i<m)=false:=by simp[h0]
   rw[e2] at e
   exact e
 |_=>exact⟨rfl,q⟩
def sc7:FnScope ["places"] ["places"] (aj (top 18)):=zC
def Le(F:Fun K "hops" "hops" (top 18) f fd)(B:ĝ mg)(mz:mg "zip"=none):FnOk P w K mg base CX0 1 f fd ["places"] (spD Ov):=by
 refine F.ok sc7 Ĕ (λcdv A outer s H vs Q E hr h=>?_)
 refine⟨_,bF (bV (zp rfl B.list mz (aA (yW (dv 0) cU (cT (qt bD))) (aA (yW (dv 0) (cT bD) cU) aK)))),vH h ?_⟩
 rintro ds P ⟨l,rfl,hl,q⟩
 refine .inl ⟨?_,.inl ⟨?_,?_,.inl ⟨?_,rfl,?_⟩⟩⟩
 ·show cX (bG (l.map Í) none (some (-1)))=true
  rw[fB,←List.map_dropLast]
  exact lG _
 ·show cX (bG (l.map Í) (some 1) none)=true
  rw[lQ,←List.map_drop]
  exact lG _
 ·show(bG (l.map Í) none (some (-1))).length<=1000
  rw[fB,List.length_dropLast,Ã]
  omega
 ·show cX _=true
  rw[fB,lQ,←List.map_dropLast,←List.map_drop,vX]
  exact mX _
 ·show P _
  rw[fB,lQ,←List.map_dropLast,←List.map_drop,vX]
  exact q
end
def OkT(n:Int)(t:Tie):Prop:=(0<=t.1/\t.1<n)/\(0<=t.2/\t.2<n)/\t.1≠t.2
def OkN(n:Int)(us:List Tie):Prop:=∀t∈us,OkT n t
def mmT(t:Tie):Tie:=(if t.2<t.1 then t.2 else t.1,if t.2 > t.1 then t.2 else t.1)
def Kc(n:Int):D->Bool
 |.tuple [a,b]=>aJ n a&&(aJ n b&&!decide (toI a=toI b))
 |_=>false
def CJ(ds:List D)(P:D->Prop):Prop:=∃n d,ds=[.int n,d]/\P (.bool (Kc n d))
def Jh{k:Kd}{d1 d2:D}{ρ:List Sl}{Q:List Sl->Prop}{i j:Nat}(h:∀s5 s6,s5=Bf (norm (norm k d1) d1) d1->s6=Bf (norm (norm k d2) d2) d2->Q ((ρ.set i s5).set j s6)):vB (gNm i) (vB (gNm j) Ji) k [d1,d2] ρ Q:=h _ _ rfl rfl
section
variable {P:Program}{w:World}{K:Ñ}{mg:Str->Option Value}{base:Heap}{f:Addr}{fd:FuncData}{CN:Addr}
def sH:FnScope ["n","thing"] ["n","thing"] (aj (top 15)):=zC
def DY(F:Fun K "is_tie" "is_tie" (top 15) f fd)(B:ĝ mg)(C_is_below:Ü P w K mg base 2 "is_below" ["limit","thing"] (spD Ag)):FnOk P w K mg base CX0 3 f fd ["n","thing"] (spD CJ):=by
 refine F.ok sH Ĕ (λcdv A outer s H vs Q E hr h=>?_)
 have nd:=sH.nd
 refine⟨_,Ĝ (ê (Ĺ (Wr.wpt (ŭ (ŧ (Ħ (Wr.bI kit_tuple B.isinstance (Å 1) (Wr.wty rfl B.tuple boot_tuple)))) (Wr.cB (ř hr.units (ļ B.len (À (Å 1) Á)) Ä)))) (ã (é ũ)) ú)
  (ã (é (ŝ (ĥ C_is_below hr (À (Å 0) (À (õ (Å 1) Ä) Á))) (ŝ (ĥ C_is_below hr (À (Å 0) (À (õ (Å 1) Ä) Á))) (Wr.cF (Wr.yZ hr.units (õ (Å 1) Ä) (õ (Å 1) Ä)))))))),aR h ?_⟩
 rintro ds P ⟨n,d,rfl,q⟩
 refine⟨[.im (.int n),aB d],rfl,?_⟩
 cases d with
 |tuple es =>
  rcases bB (.tuple es) with e|e
  all_goals
   rw[e]
   refine aL (A:=True) ?_
   match es,q with
   |[],q=>exact aH (B:=True) ⟨rfl,q⟩
   |[_],q=>exact aH (B:=True) ⟨rfl,q⟩
   |a::b::c::r,q =>
    exact aH (B:=True) ⟨rfl,q⟩
   |[a,b],q =>
    have q:P (.bool (aJ n a&&(aJ n b&&!decide (toI a=toI b)))):=q
    refine aL (A:=True) ⟨a,rfl,n,a,rfl,?_⟩
    show if aJ n a=true then _ else _
    refine bQ (λc=>?_) (λc=>?_)
    ·rw[c] at q
     refine⟨b,rfl,n,b,rfl,?_⟩
     show if aJ n b=true then _ else _
     refine bQ (λc2=>?_) (λc2=>?_)
     ·rw[c2] at q
      obtain⟨i,rfl,_,_⟩:=ju c
      obtain⟨j,rfl,_,_⟩:=ju c2
      exact⟨.int i,rfl,.int j,rfl,rfl,q⟩
     ·have c2:aJ n b=false:=by simpa using c2
      rw[c2] at q
      exact⟨rfl,q⟩
    ·have c:aJ n a=false:=by simpa using c
     rw[c] at q
     exact⟨rfl,q⟩
 |_=>exact aH (B:=True) ⟨rfl,q⟩
end
def nW(ds:List D)(P:D->Prop):Prop:=∃m:Int,ds=[.int m]/\0<m/\m<1267650600228229401496703205376/\∀r:Int,0<=r->r<m->P (.int r)
def sU{x m:Int}(hm:0<m)(hb:m<=2 ^ 32):-(2 ^ 64)<x % m/\x % m<2 ^ 64:=by
 have h1:=Int.emod_nonneg x (b:=m) (by omega)
 have h2:=ž x hm
 omega
def PSs.wk{X:Cx}{ss:List Stmt}{t t':TS}(h:PSs X ss t)(w:∀D σ H,t' D σ H->t D σ H):PSs X ss t':=λpins s σ H D I q=>h pins s σ H D I (w D σ H q)
def tDr(p:Addr):TS:=λD σ H=>∃(a2 a3:Option V) (m a b c:Int),σ=[some (.ref p),some (.int m),a2,a3]/\0<m/\H p=some (.lst [.int a,.int b,.int c])/\0<=c/\c<=1152921504606846976/\∀r':Int,0<=r'->r'<m->D.rt (.int r') H
def Ni{i:Int}{ns:List Int}(h:(0:Int)<((ns.map V.int).length:Nat)):∃v:Int,atI (ns.map V.int) (i % (((ns.map V.int).length:Nat):Int))=some (.int v):=by
 rw[Ã] at h ⊢
 have h1:=Int.emod_nonneg i (b:=(ns.length:Int)) (by omega)
 have h2:=ž i h
 have hk:(i % (ns.length:Int)).toNat<ns.length:=by omega
 have ek:i % (ns.length:Int)=(((i % (ns.length:Int)).toNat:Nat):Int):=by omega
 have q:atI (ns.map V.int) (((i % (ns.length:Int)).toNat:Nat):Int)=some (.int ns[(i % (ns.length:Int)).toNat]):=dB (by rw[à,È hk];rfl)
 rw[←ek] at q
 exact⟨_,q⟩
def Vj{k:Int}{ns:List Int}(h0:0<=k)(h:k<((ns.map V.int).length:Nat)):∃v:Int,atI (ns.map V.int) k=some (.int v):=by
 rw[Ã] at h
 have hk:k.toNat<ns.length:=by omega
 have ek:k=((k.toNat:Nat):Int):=by omega
 have q:atI (ns.map V.int) ((k.toNat:Nat):Int)=some (.int ns[k.toNat]):=dB (by rw[à,È hk];rfl)
 rw[←ek] at q
 exact⟨_,q⟩
def SJ:TS:=λD σ H=>∃(a0:Option V) (k cell:Int),σ=[a0,some (.int k),some (.int cell)]/\∀l a b,H l=none->D.rt (.ref l) (upd H l (.lst [.int a,.int b,.int 0]))
def TX(ds:List D):Prop:=∃k:Int,ds=[.int k]/\0<=k/\k<1000
structure IsOrd(n:Int)(l:List Int):Prop where
 len:(l.length:Int)=n
 rng:∀x∈l,0<=x/\x<n
 nd:l.Nodup
def Jv(ds:List D)(P:D->Prop):Prop:=∃n:Int,ds=[.int n]/\1<=n/\n<=16/\∀l,IsOrd n l->P (.list (l.map Í))
def fJ{H:Hp}{a:Addr}(h:H a=none)(o:HO):Same H (upd H a o):=λb u q=>by rw[ak (aF q h)];exact q
def Gz(n:Int):oF 0 n=((á n.toNat).map λi=>((i:Nat):Int)).map V.int:=by
 unfold oF
 rw[ï,Int.sub_zero]
 exact Ő λi _=>by simp
def Ti{r:Int}{k:Nat}(h0:0<=r)(h1:r<k):seqIndex? r k=some r.toNat:=(vo (n:=k) (i:=r) (j:=r.toNat) (by unfold ixN;rw[if_pos h0,if_pos h1])).1
def kO{α β:Type}(g:α->β):∀(l:List α) (i:Nat),(l.map g).eraseIdx i=(l.eraseIdx i).map g
 |[],_=>by simp
 |_::_,0=>by simp
 |x::l,i+1=>by simp[kO g l i]
def wI{α:Type}:∀(l:List α) (i:Nat) (x:α),l[i]?=some x->(x::l.eraseIdx i).Perm l
 |y::l,0,x,h=>by
  cases h
  exact .refl _
 |y::l,i+1,x,h=>by
  rw[List.eraseIdx_cons_succ]
  exact(List.Perm.swap _ _ _).trans ((wI l i x h).cons y)
section
variable {P:Program}{w:World}{K:Ñ}{mg:Str->Option Value}{base:Heap}{f:Addr}{fd:FuncData}
def Bk:FnScope ["_law_pen_here","_law_many","_law_found","_law_number"] ["_law_pen_here","_law_many"] (aj (top 54)):=zC
def Lf(F:Fun K "_law_draw" "_law_draw" (top 54) f fd)(B:ĝ mg):FnOk P w K mg base CX0 1 f fd ["_law_pen_here","_law_many"] (dF 1 nW):=by
 refine F.ok Bk fW (λcdv A outer s H vs Q E hr h=>?_)
 obtain⟨p,n,vs',ds,P,rfl,⟨⟨a,b,c,hp,c0,c1⟩,_⟩,rp,⟨m,rfl,m0,m30,hP⟩,q⟩:=h
 obtain rfl:vs'=[.int m]:=by
  cases rp with
  |cons h1 t=>cases h1;cases t;rfl
 have nd:=Bk.nd
 have c1:c+1+(n:Int)<=1152921504606846976:=by omega
 refine⟨_,aQ (pY (eH wN (eN bZ (pv 0) Đ (λ_ _=>rfl)) Đ (bx _))
   (aQ (dg (i:=2) nd rfl (Ń rfl) (aW d9 (eN bZ (pv 0) Đ (λ_ _=>rfl)) (pv 1)))
   (aQ (yO (aW Ht (eN bZ (pv 0) Đ (λ_ _=>rfl)) (pv 1)) (yQ (pv 0) Đ set_list))
   (bH (gq (pv 2))))) jX)
  (aQ (yO (aW dJ (eN bZ (pv 0) Đ (λ_ _=>rfl)) Đ) (yQ (pv 0) Đ set_list))
  (PSs.wk (t':=tDr p) (aQ (dg (i:=3) nd rfl (Ń rfl) (aW d9 (aW dJ (aW dJ (aW cN (eN bZ (pv 0) Đ (λ_ _=>rfl)) Đ) (aW cN (aW cN Đ (eN bZ (pv 0) Đ (λ_ _=>rfl))) (eN bZ (pv 0) Đ (λ_ _=>rfl)))) Đ) Đ))
  (aQ (dg (i:=3) nd rfl (Ń rfl) (aW d9 (aW cN (pv 3) (aW dJ (aW d9 (pv 3) Đ) (eN bZ (pv 0) Đ (λ_ _=>rfl)))) Đ))
  (bH (gq (aW d9 (aW K3 (aW d9 (aW dJ (aW cN (pv 3) (pv 3)) (aW cN Đ (eN bZ (pv 0) Đ (λ_ _=>rfl)))) Đ) Đ) (pv 1)))))) ?dr)),?_⟩
 case dr =>
  rintro D σ H' ⟨a2,a3,m,a,b,c,rfl,m0,hp,c0,c1,hq⟩
  have md:∀x:Int,0<=x % m/\x % m<m:=λx=>⟨Int.emod_nonneg _ (by omega),ž _ m0⟩
  have cs:-(2 ^ 64)<c/\c<2 ^ 64:=⟨by omega,by omega⟩
  refine⟨_,rfl,p,_,_,_,rfl,rfl,SqL.of hp,rfl,_,_,rfl,rfl,.inr ⟨by decide,by decide⟩,_,rfl,p,_,_,_,rfl,rfl,SqL.of hp,rfl,_,_,rfl,rfl,.inl ⟨by decide,by decide⟩,_,rfl,p,_,_,_,rfl,rfl,SqL.of hp,rfl,_,_,rfl,rfl,.inr cs,_,_,rfl,rfl,_,_,rfl,rfl,_,_,rfl,rfl,(by show(0:Int)<2147483647;decide),?_⟩
  refine⟨_,rfl,_,rfl,_,_,rfl,rfl,(by show(0:Int)<65521;decide),_,rfl,p,_,_,_,rfl,rfl,SqL.of hp,rfl,_,_,rfl,rfl,_,_,rfl,rfl,.inl (sU (by decide) (by decide)),_,_,rfl,rfl,(by show(0:Int)<2147483629;decide),?_⟩
  refine⟨_,rfl,_,rfl,_,_,rfl,rfl,.inl (sU (by decide) (by decide)),_,rfl,p,_,_,_,rfl,rfl,SqL.of hp,rfl,_,_,rfl,rfl,.inl ⟨by decide,by decide⟩,_,_,rfl,rfl,_,_,rfl,rfl,(by show(0:Int)<2147483587;decide),_,_,rfl,rfl,⟨by decide,by decide⟩,_,rfl,_,_,rfl,rfl,m0,hq _ (md _).1 (md _).2⟩
 have md:∀x:Int,0<=x % m/\x % m<m:=λx=>⟨Int.emod_nonneg _ (by omega),ž _ m0⟩
 have fin:∀(H':Hp) (r x:Int) (c':Int),0<=r->r<m->(∀b o,H b=some o->b≠p->H' b=some o)->H' p=some (.lst [.int x,.int b,.int c'])->0<=c'->c'+(n:Int)<=1152921504606846976->Q (.int r) H':=λH' r x c' h1 h2 k e e0 e1 =>
  q _ _ _ (hP r h1 h2) (λb o e n=>k b o e λz=>n (.inl z)) ⟨⟨x,b,c',e,e0,e1⟩,trivial,λz=>z⟩ (.int r)
 have kU:∀(H1:Hp) (o:HO),(∀b o,H b=some o->b≠p->H1 b=some o)->∀b u,H b=some u->b≠p->upd H1 p o b=some u:=λH1 o k b u e n=>by rw[ak n];exact k b u e n
 refine⟨_,rfl,p,_,_,_,rfl,rfl,SqL.of hp,rfl,_,_,rfl,rfl,_,rfl,bQ (λz=>?_) (λz=>?_)⟩
 ·exact⟨_,rfl,p,_,_,_,rfl,rfl,SqL.of hp,rfl,_,rfl,_,_,rfl,rfl,m0,_,rfl,p,_,_,_,rfl,rfl,SqL.of hp,rfl,_,rfl,_,_,rfl,rfl,⟨m0,m30⟩,_,rfl,p,_,_,_,rfl,rfl,hp,rfl,_,rfl,fin _ _ _ c (md _).1 (md _).2 (kU _ _ λb o e _=>e) ao c0 (by omega)⟩
 ·refine⟨_,rfl,p,_,_,_,rfl,rfl,SqL.of hp,rfl,_,_,rfl,rfl,_,rfl,p,_,_,_,rfl,rfl,hp,rfl,?_⟩
  exact⟨_,_,m,a,b,c+1,rfl,m0,ao,by omega,by omega,λr' h1 h2=>fin _ _ _ (c+1) h1 h2 (kU _ _ λb o e _=>e) ao (by omega) c1⟩
def Tn:FnScope ["_law_script","_law_k","_law_cell"] ["_law_script","_law_k"] (aj (top 53)):=zC
def QM(F:Fun K "_law_pen" "_law_pen" (top 53) f fd)(B:ĝ mg):FnOk P w K mg base CX0 1 f fd ["_law_script","_law_k"] (Wb.Kg K TX):=by
 refine F.ok Tn (λvs H Q E h=>?_) (λcdv A outer s H vs Q E hr h=>?_)
 ·obtain⟨sc,ns,vs',ds,rfl,_,rs,⟨k,rfl,_⟩,_⟩:=h
  rw[ç,rs.length]
  rfl
 obtain⟨sc,ns,vs',ds,rfl,hS,rs,⟨k,rfl,k0,k9⟩,q⟩:=h
 have e:vs'=[.int k]:=Rps.ints (ns:=[k]) rs
 subst e
 have nd:=Tn.nd
 refine⟨_,aQ (dg (i:=2) nd rfl (Ń rfl) (aW dJ (aW dJ (aW cN (aW cN Đ (pv 1)) (pv 1)) (aW cN Đ (pv 1))) Đ))
  (aQ (pY (eH Cd (pv 1) (dG cV rfl B.len PySem.boot_len (Ć (pv 0) ō)) (bx _))
   (bH (dg (i:=2) nd rfl (Ń rfl) (eN bZ (pv 0) (pv 1) (λ_ _=>rfl))))
   (bH (pY (eH wN (dG cV rfl B.len PySem.boot_len (Ć (pv 0) ō)) Đ (bx _))
    (bH (dg (i:=2) nd rfl (Ń rfl) (aW dJ (aW cN (aW d9 (eN bZ (pv 0) (aW d9 (pv 1) (dG cV rfl B.len PySem.boot_len (Ć (pv 0) ō))) (λ_ _=>rfl)) Đ) Đ) (aW cN Đ (pv 1))))) jX)))
  (PSs.wk (t':=SJ) (aQ (pY (eH Oa (pv 2) (aW Ho Đ Đ) (bx _))
   (bH (gq (qb (Ć (pv 2) (Ć Đ (Ć Đ ō)))))) jX)
  (bH (gq (qb (Ć Đ (Ć (aW dJ (aW d9 (pv 2) Đ) (aW cN Đ (pv 1))) (Ć Đ ō))))))) ?pen)),?_⟩
 case pen =>
  rintro D σ H' ⟨a0,k,cell,rfl,hq⟩
  refine⟨_,rfl,_,_,rfl,rfl,⟨by decide,by decide,by decide⟩,_,_,rfl,rfl,_,rfl,bQ (λc1=>?_) (λc1=>?_)⟩
  ·exact⟨_,rfl,by show 3<=sizeLine;decide,λl hl=>hq l _ _ hl⟩
  ·exact⟨_,rfl,_,_,rfl,rfl,(by show(0:Int)<2147483587;decide),_,rfl,_,_,rfl,rfl,.inl ⟨by decide,by decide⟩,_,_,rfl,rfl,by show 3<=sizeLine;decide,λl hl=>hq l _ _ hl⟩
 have fin:∀cell:Int,SJ { nx:=λ_ H'=>Q .non H',rt:=Q } [some (.ref sc),some (.int k),some (.int cell)] H:=λcell=>⟨_,k,cell,rfl,λl a b hl=>q l _ ⟨⟨a,b,0,ao,by decide,by decide⟩,trivial,λz=>z⟩ (fJ hl _) hl⟩
 refine⟨_,rfl,_,_,rfl,rfl,.inl ⟨by decide,by decide⟩,_,rfl,_,_,rfl,rfl,.inr ⟨by omega,by omega⟩,_,rfl,_,_,rfl,rfl,.inl ⟨by decide,by decide⟩,_,_,rfl,rfl,_,_,rfl,rfl,?_⟩
 refine⟨_,rfl,_,rfl,sc,_,rfl,.inl hS,_,_,rfl,rfl,_,rfl,bQ (λc1=>?_) (λc1=>?_)⟩
 ·obtain⟨v,hv⟩:=Vj k0 (of_decide_eq_true c1)
  exact⟨_,rfl,_,rfl,sc,_,_,_,rfl,rfl,hS,hv,fin v⟩
 ·refine⟨_,rfl,sc,_,rfl,.inl hS,_,_,rfl,rfl,_,rfl,bQ (λc2=>?_) (λc2=>fin _)⟩
  have c2:=of_decide_eq_true c2
  obtain⟨v,hv⟩:=Ni (i:=k) c2
  exact⟨_,rfl,_,rfl,_,rfl,sc,_,rfl,.inl hS,_,_,rfl,rfl,c2,sc,_,_,_,rfl,rfl,hS,hv,_,_,rfl,rfl,(by show(0:Int)<2147483629;decide),_,_,rfl,rfl,.inr ⟨by decide,by decide⟩,_,rfl,_,_,rfl,rfl,.inl ⟨by decide,by decide⟩,_,_,rfl,rfl,fin _⟩
def wB:FnScope ["_law_pen_here","_law_n","_law_left"] ["_law_pen_here","_law_n"] (aj (top 56)):=zC
def Ia:(["_law_k","_law_pen_here","_law_n","_law_left"]:List Str).Nodup:=by decide +kernel
def Hv(F:Fun K "_law_turned" "_law_turned" (top 56) f fd)(B:ĝ mg)(T:Ü P w K mg base 1 "_law_draw" ["_law_pen_here","_law_many"] (dF 1 nW)):FnOk P w K mg base CX0 2 f fd ["_law_pen_here","_law_n"] (dF 16 Jv):=by
 refine F.ok wB fW (λcdv A outer s H vs Q E hr h=>?_)
 obtain⟨pa,n0,vs',ds,P,rfl,pi0,rp,⟨n,rfl,n1,n16,hP⟩,q0⟩:=h
 have pi:(aq pa n0).PI H:=aD pi0 (by omega)
 obtain rfl:vs'=[.int n]:=by
  cases rp with
  |cons h1 t=>cases h1;cases t;rfl
 have nd:=wB.nd
 refine⟨_,aQ (dg (i:=2) nd rfl (Or.inr rfl) (fQ (jF rfl) rfl B.list boot_list (Ć (fQ tX rfl B.range boot_range (Ć (pv 1) ō)) ō)))
  (bH (gq (G6 ["_law_k"] rfl (ji rfl B.range (Ć (pv 1) ō)) (λc=>dO (i:=0) Ia rfl (Ń rfl)) (λc=>Bv)
   (λc=>qe ģ PySem.F.slot_list_pop PySem.F.type_list_pop Ig (pv 3) (Ć (pcS T hr (Ć (pv 1) (Ć (dG cV rfl B.len PySem.boot_len (Ć (pv 3) ō)) ō)) (by decide) rfl (by decide) rfl rfl) ō))))),?_⟩
 refine⟨_,rfl,n,rfl,λr hr1=>?_⟩
 refine⟨r,0,n,rfl,ao,⟨by omega,by omega,by omega,by omega⟩,λL hL=>?_⟩
 have a1:=fJ hr1 (.rng 0 n)
 have a2:=fJ hL (.lst (oF 0 n))
 have a12:Same H (upd (upd H r (.rng 0 n)) L (.lst (oF 0 n))):=λb o e=>a2 b o (a1 b o e)
 have hHL:H L=none:=by
  cases e:H L with
  |none=>rfl
  |some o=>rw[a1 _ _ e] at hL;cases hL
 have nfp:∀a,H a=none->¬(aq pa n0).fp a:=λa ha z=>by
  obtain⟨o,e,_⟩:=(aq pa n0).is H a pi z
  rw[ha] at e;cases e
 have hLp:=nfp L hHL
 refine⟨_,rfl,n,rfl,by omega,by omega,Ra (lo:=0) (k:=n.toNat) (by omega) (λi ys H'=>∃out rem:List Int,ys=out.map V.int/\H' L=some (.lst (rem.map V.int))/\(out++rem).Perm ((á n.toNat).map λi=>((i:Nat):Int))/\out.length=i/\Dl.Kp (aq pa n0) H H'/\(aq pa (n0+(n.toNat - i))).PI H')
  ⟨[],_,rfl,by rw[ao,Gz],List.Perm.refl _,rfl,λb o e _=>a12 b o e,(aq pa (n0+(n.toNat - 0))).mono H _ (aD pi0 (by omega)) λb o _ e=>a12 b o e⟩ ?_ ?_ ?_⟩
 ·rintro i ys H' ⟨out,rem,rfl,_,_,e,_⟩
  rw[Ã,e]
  exact Ì _
 ·rintro c i ys H' hi ⟨out,rem,rfl,hL',hperm,ho,k,pi'⟩
  have hlen:out.length+rem.length=n.toNat:=by have:=hperm.length_eq;simpa using this
  have hm:((rem.map V.int).length:Int)=rem.length:=by rw[Ã]
  refine aH (B:=True) ⟨_,rfl,.inl ⟨rfl,_,SqL.of hL'⟩,_,rfl,_,rfl,L,_,rfl,.inl (SqL.of hL'),pa,n0+(n.toNat - (i+1)),_,[.int ((rem.map V.int).length:Nat)],(λd=>∃y:Int,0<=y/\y<((rem.map V.int).length:Nat)/\d=.int y),rfl,aD pi' (by omega),.cons (.int _) .nil,⟨_,rfl,by rw[hm];omega,by rw[hm];omega,λx x0 x1=>⟨x,x0,x1,rfl⟩⟩,?_⟩
  rintro d v H2 ⟨x,x0,x1,rfl⟩ k2 pi2 rv
  have ev:=Rp.int' rv
  subst ev
  rw[hm] at x1
  have hL2:H2 L=some (.lst (rem.map V.int)):=k2 _ _ hL' hLp
  have hx:x.toNat<rem.length:=by omega
  refine⟨L,_,x,x.toNat,.int rem[x.toNat],rfl,rfl,hL2,by omega,by omega,by rw[Ã];exact Ti x0 x1,by rw[à,È hx];rfl,?_⟩
  refine⟨out++[rem[x.toNat]],rem.eraseIdx x.toNat,by rw[ó];rfl,by rw[ao,kO],?_,by rw[Ð,ho];rfl,λb o e nb=>?_,(aq pa (n0+(n.toNat - (i+1)))).mono H2 _ pi2 λb o z e=>?_⟩
  ·rw[List.append_assoc]
   exact((wI rem x.toNat _ (È hx)).append_left out).trans hperm
  ·rw[ak (λz=>by rw[z,hHL] at e;cases e)]
   exact k2 b o (k b o e nb) nb
  ·rw[ak (show b≠L from λy=>z.elim (λz=>hLp (y ▸ z)) λ⟨_,_,v⟩=>by rw[y,hL2,v] at e;cases e)]
   exact e
 ·rintro ys H' ⟨out,rem,rfl,hL',hperm,ho,k,pi'⟩ a ha
  have hlen:out.length+rem.length=n.toNat:=by have:=hperm.length_eq;simpa using this
  have hrem:rem=[]:=List.eq_nil_of_length_eq_zero (by omega)
  subst hrem
  rw[í] at hperm
  have nfa:¬(aq pa n0).fp a:=λz=>by
   obtain⟨o,e,_⟩:=(aq pa n0).is H' a (aD pi' (by omega)) z
   rw[ha] at e;cases e
  have hHa:H a=none:=by
   cases e:H a with
   |none=>rfl
   |some o=>rw[k a o e nfa] at ha;cases ha
  have sm:=fJ ha (.lst (out.map V.int))
  refine q0 _ _ _ (hP out ⟨by omega,λx hx=>?_,?_⟩) (λb o e nb=>sm b o (k b o e nb)) ((aq pa n0).mono H' _ (aD pi' (by omega)) λb o _ e=>sm b o e) (.lst hHa ao (Rps.ofMap (λi=>.int i) out))
  ·have:=hperm.mem_iff.mp hx
   obtain⟨i,hi,rfl⟩:=Ă.mp this
   have:=Ķ.mp hi
   omega
  ·refine hperm.nodup_iff.mpr ?_
   exact(List.nodup_range (n:=n.toNat)).map (λi=>((i:Nat):Int)) λi j hij h=>hij (by omega)
end
def OkB(n:Int)(us:List Tie):Prop:=∀t∈us,0<=t.1/\t.1<t.2/\t.2<n
def OkB.app{n:Int}{us vs:List Tie}(a:OkB n us)(b:OkB n vs):OkB n (us++vs):=λt ht=>(Ø.mp ht).elim (a t) (b t)
def OkB.one{n:Int}{t:Tie}(h:0<=t.1/\t.1<t.2/\t.2<n):OkB n [t]:=λu hu=>by
 rw[Ò.mp hu]
 exact h
def Ju(ds:List D)(P:D->Prop):Prop:=∃n pick:Int,ds=[.int n,.int pick]/\1<=n/\n<=8/\∀us:List Tie,us.length<=28->OkB n us->P (.list (us.map pD))
def Ga{i:Nat}(h:i<=7):i * (i+1)<=56:=î (Nat.mul_le_mul h (Nat.add_le_add_right h 1)) (by decide)
def Ss(i:Nat):(i+1) * (i+1+1)=i * (i+1)+2 * (i+1):=by
 have:=Nat.mul_add (i+1) i 2
 rw[Nat.mul_comm i (i+1),Nat.mul_comm 2 (i+1)]
 exact this
def RP(n pick ring:Int)(us:List Tie)(s5 s6:Sl):List Sl:=[.pen TP,.im (.int n),.im (.int pick),.dw 0 (.list (us.map pD)),.im (.int ring),s5,s6]
def Tot(c:Prop)(t:DT)(ρ:List Sl):Prop:=∀R:Bool->Prop,(∀b:Bool,(b=true->c)->R b)->t ρ R
def Tot.and{c:Prop}{t u:DT}{ρ:List Sl}(a:Tot c t ρ)(b:Tot True u ρ):Tot c (JQ t u) ρ:=λR h=>a _ λx hx=>by
 cases x with
 |true=>exact aH (b R λy _=>h y λ_=>hx rfl)
 |false=>exact aL (h false λz=>nomatch z)
def Tot.or{c:Prop}{t u:DT}{ρ:List Sl}(a:Tot c t ρ)(b:Tot c u ρ):Tot c (dOr t u) ρ:=λR h=>a _ λx hx=>by
 cases x with
 |true=>exact aH (h true λ_=>hx rfl)
 |false=>exact aL (b R h)
def Ab{c:Prop}{tc:DT}{te:DE}{E:DEnds}{n pick ring v x:Int}{vs:List Tie}{t:Tie}(htc:Tot c tc (RP n pick ring vs (.im (.int v)) (.im (.int x))))(hte:∀R:DK,R .imm (pD t)->te (RP n pick ring vs (.im (.int v)) (.im (.int x))) R)(hl:vs.length<1000)(h0:E.nx (RP n pick ring vs (.im (.int v)) (.im (.int x))))(h1:c->E.nx (RP n pick ring (vs++[t]) (.im (.int v)) (.im (.int x)))):dIf tc (Aj 3 te) JN E (RP n pick ring vs (.im (.int v)) (.im (.int x))):=htc _ λb hb=>by
 cases b with
 |true =>
  refine aH (hte _ ⟨rfl,by rw[Ã];exact hl,?_⟩)
  replace h1:=h1 (hb rfl)
  show E.nx [.pen TP,.im (.int n),.im (.int pick),.dw 0 (.list (vs.map pD++[pD t])),.im (.int ring),.im (.int v),.im (.int x)]
  unfold RP at h1
  rw[ó] at h1
  exact h1
 |false=>exact aL h0
def OkV(n:Int)(us:List Tie):Prop:=∀t∈us,0<=t.1/\t.1<n/\0<=t.2/\t.2<n
def OkV.app{n:Int}{us vs:List Tie}(a:OkV n us)(b:OkV n vs):OkV n (us++vs):=λt ht=>(Ø.mp ht).elim (a t) (b t)
def OkV.one{n:Int}{t:Tie}(h:0<=t.1/\t.1<n/\0<=t.2/\t.2<n):OkV n [t]:=λu hu=>by
 rw[Ò.mp hu]
 exact h
def RW(m n:Int)(us:List Tie)(s4:Sl):List Sl:=[.pen TP,.im (.int m),.im (.int n),.dw 0 (.list (us.map pD)),s4,.any,.any]
def UJ(ds:List D)(P:D->Prop):Prop:=∃m:Int,ds=[.int m]/\1<=m/\m<=8/\∀n us,1<=n->n<=m->us.length<=31->OkB n us->us.Pairwise (λa b=>aV a<=aV b)->P (au n us)
def Nu{j:Int}(j0:0<=j)(j1:j<4):∃c:Int,atI [Í 0,.int 0,.int 1,.int 2] j=some (.int c)/\0<=c/\c<=2:=by
 have:j=0\/j=1\/j=2\/j=3:=by omega
 rcases this with rfl|rfl|rfl|rfl
 ·exact⟨0,rfl,by decide,by decide⟩
 ·exact⟨0,rfl,by decide,by decide⟩
 ·exact⟨1,rfl,by decide,by decide⟩
 ·exact⟨2,rfl,by decide,by decide⟩
def jf{P:DEnds}{ρ:List Sl}{i:Nat}{k:Kd}{L:List D}(hk:k=.new\/k=.snw)(h:P.nx (ρ.set i (.sn (.list L)))):(match stK none ρ i (norm k (.list L)) (.list L) with
 |some s=>P.nx (ρ.set i s)
 |none=>False):=by
 rcases hk with rfl|rfl <;> exact h
def lM{P:DEnds}{ρ:List Sl}{rg:Option Nat}{i:Nat}{k:Kd}{d:D}{s:Sl}(e:stK rg ρ i (norm k d) d=some s)(h:P.nx (ρ.set i s)):(match stK rg ρ i (norm k d) d with
 |some s=>P.nx (ρ.set i s)
 |none=>False):=by
 rw[e]
 exact h
def Eh(ts:List Tie):okD (.list (ts.map pD))=true:=by
 have h1:=IK ts
 have h2:ė (ts.map pD)+1<=60:=by have:=xW ts;omega
 show(Ī (ts.map pD)&&decide (ė (ts.map pD)+1<=60))=true
 rw[h1,decide_eq_true h2]
 rfl
def J0{us:List Tie}{z:Int}(z0:0<=z)(z1:z<(us.map pD).length):∃t∈us,atI (us.map pD) z=some (pD t):=by
 rw[Ã] at z1
 have hk:z.toNat<us.length:=by omega
 have ek:z=((z.toNat:Nat):Int):=by omega
 have q:atI (us.map pD) ((z.toNat:Nat):Int)=some (pD us[z.toNat]):=dB (by rw[à,È hk];rfl)
 rw[←ek] at q
 exact⟨_,Ū hk,q⟩
def gO(o:List Int)(x:Int):Int:=o.getD x.toNat 0
def IsOrd.at{n:Int}{l:List Int}(h:IsOrd n l){a:Int}(h0:0<=a)(h1:a<n):atI (l.map Í) a=some (.int (gO l a))/\0<=gO l a/\gO l a<n:=by
 have hl:=h.len
 have hk:a.toNat<l.length:=by omega
 have ek:a=((a.toNat:Nat):Int):=by omega
 have z:atI (l.map Í) ((a.toNat:Nat):Int)=some (.int l[a.toNat]):=dB (by rw[à,È hk];rfl)
 rw[←ek] at z
 have e:gO l a=l[a.toNat]:=by
  unfold gO
  rw[ò,È hk]
  rfl
 rw[e]
 exact⟨z,h.rng _ (Ū hk)⟩
def IsOrd.inj{n:Int}{l:List Int}(h:IsOrd n l){a b:Int}(a0:0<=a)(a1:a<n)(b0:0<=b)(b1:b<n)(e:gO l a=gO l b):a=b:=by
 have hl:=h.len
 have ha:a.toNat<l.length:=by omega
 have hb:b.toNat<l.length:=by omega
 unfold gO at e
 rw[ò,È ha,ò,È hb] at e
 have e:l[a.toNat]=l[b.toNat]:=e
 have pw:=List.pairwise_iff_getElem.mp h.nd
 rcases Nat.lt_trichotomy a.toNat b.toNat with z|z|z
 ·exact absurd e (pw _ _ ha hb z)
 ·omega
 ·exact absurd e.symm (pw _ _ hb ha z)
def mm(t:Tie):Tie:=(if t.2<t.1 then t.2 else t.1,if t.2 > t.1 then t.2 else t.1)
def turnT(o:List Int)(us:List Tie):List Tie:=(us.filter λt=>!decide (t.1=t.2)).map λt=>(gO o t.1,gO o t.2)
def Ka{n:Int}{o:List Int}{us:List Tie}(ho:IsOrd n o)(ok:OkV n us):OkB n ((turnT o us).map mm):=λt ht=>by
 obtain⟨u,hu,rfl⟩:=Ă.mp ht
 obtain⟨v,hv,rfl⟩:=Ă.mp hu
 obtain⟨hv,hne⟩:=ġ.mp hv
 obtain⟨a0,a1,b0,b1⟩:=ok v hv
 obtain⟨_,x0,x1⟩:=ho.at a0 a1
 obtain⟨_,y0,y1⟩:=ho.at b0 b1
 have ne:gO o v.1≠gO o v.2:=λe=>by
  have:=ho.inj a0 a1 b0 b1 e
  rw[decide_eq_true this] at hne
  cases hne
 unfold mm
 show 0<=(if gO o v.2<gO o v.1 then gO o v.2 else gO o v.1)/\(if gO o v.2<gO o v.1 then gO o v.2 else gO o v.1)<(if gO o v.2 > gO o v.1 then gO o v.2 else gO o v.1)/\(if gO o v.2 > gO o v.1 then gO o v.2 else gO o v.1)<n
 by_cases h:gO o v.2<gO o v.1
 ·rw[if_pos h,if_neg (by omega)]
  exact⟨y0,h,x1⟩
 ·rw[if_neg h,if_pos (by omega)]
  exact⟨x0,by omega,y1⟩
def in2{a b pick:Int}(ha:a≠6)(hb:b≠6)(z:([Í a,.int b].any λe=>e.eqv (.int pick))=true):pick≠6:=λe=>by
 subst e
 have z:(decide (a=6) || (decide (b=6) || false))=true:=z
 rw[decide_eq_false ha,decide_eq_false hb] at z
 exact nomatch z
section
variable {P:Program}{w:World}{K:Ñ}{mg:Str->Option Value}{base:Heap}{f:Addr}{fd:FuncData}
def jR:FnScope ["_law_pen_here","_law_n","_law_pick","_law_ties","_law_ring","_law_v","_law_drawn"] ["_law_pen_here","_law_n","_law_pick"] (aj (top 55)):=zC
def qM:(["_law_a","_law_pen_here","_law_n","_law_pick","_law_ties","_law_ring","_law_v","_law_drawn"]:List Str).Nodup:=by decide +kernel
def uU(F:Fun K "_law_plain" "_law_plain" (top 55) f fd)(B:ĝ mg)(C__law_draw:Ü P w K mg base 1 "_law_draw" ["_law_pen_here","_law_many"] (dF 1 nW)):FnOk P w K mg base CX0 2 f fd ["_law_pen_here","_law_n","_law_pick"] (dF 2000000 Ju):=by
 refine F.ok jR fW (λcdv A outer s H vs Q E hr h=>?_)
 have nd:=jR.nd
 refine⟨_,Wb.BSs.h (Wb.cons (Wb.s0 (ĳ (some 0) (i:=3) nd rfl zQ (þ Á)))
  (Wb.cons (Wb.set none (i:=4) nd rfl zQ (Wb.plus (Wb.e0 Ä) (Wb.dcP C__law_draw hr (č 0) (Wb.a0 (À Ä Á)))))
  (Wb.lV (Wb.for_ Ņ rfl (Wb.i0 (Wr.nC B.range (À Ä (À (Å 1) Á)))) (Ĉ (i:=5) nd rfl zQ) (Wb.cons (Wb.set none (i:=6) nd rfl zQ (Wb.dcP C__law_draw hr (č 0) (Wb.a0 (À (Å 5) Á))))
  (Wb.lV (Wb.if_ (Wb.wt (Wb.or2 (Wb.t0 (ĭ hr.units (Å 2) Ä)) (Wb.or2 (Wb.wt (Wb.R4 (Wb.t0 (ĭ hr.units (Å 2) Ä)) (Wb.R5 (Wb.tgt (Wb.dcP C__law_draw hr (č 0) (Wb.a0 (À Ä Á))) (Wb.e0 Ä))))) (Wb.or1 (Wb.t0 (Wr.wpt (Wr.eO (ĭ hr.units (Å 2) Ä) (Wr.dH (Wr.qg (Å 5) (Å 4)))))))))) (Wb.ss0 (ã (Wr.fX (č 3) (À (Ú (À (Å 6) (À (Å 5) Á))) Á)))) (Wb.ss0 ú))
  (Wb.lV (Wb.s0 (Ĺ (Wr.wpt (ŭ (Wr.uJ hr.units (Å 2) (Ú (À Ä (À Ä Á)))) (ŭ (Wr.wpt (Wr.eO (ĭ hr.units (Å 2) Ä) (Wr.dH (Wr.uH (Å 5) (Å 4))))) (Wr.cB (Wr.wpt (Wr.eO (ĭ hr.units (Å 2) Ä) (Wr.dH (ĭ hr.units (Wr.zj (Å 5) Ä) Ä)))))))) (ã (Wr.fX (č 3) (À (Ú (À (Ġ (Å 5) Ä) (À (Å 5) Á))) Á))) ú))
  (Wb.lV (Wb.s0 (Ĺ (Wr.wpt (ŭ (Wr.uJ hr.units (Å 2) (Ú (À Ä (À Ä Á)))) (ŭ (Wr.wpt (Wr.eO (ĭ hr.units (Å 2) Ä) (Wr.dH (ĭ hr.units (Å 5) (Å 4))))) (Wr.cB (Wr.wpt (Wr.eO (ĭ hr.units (Å 2) Ä) (Wr.dH (ĭ hr.units (Å 5) (Ġ (Å 1) Ä))))))))) (ã (Wr.fX (č 3) (À (Ú (À Ä (À (Å 5) Á))) Á))) ú))
  (Wb.cons (Wb.if_ (Wb.t0 (ĭ hr.units (Å 2) Ä)) (Wb.one (Wb.extend (č 3) (Wb.cW (Wb.lc ["_law_a"] rfl (Wb.i0 (Wr.fY B.range (À (Å 5) Á))) (λc=>(Ĉ (i:=0) qM rfl zQ)) (λc=>(Wb.ts1 (Wb.tgt (Wb.dcP C__law_draw hr (č 1) (Wb.a0 (À Ä Á))) (Wb.e0 Ä)))) (λc=>(Wb.e0 (Ú (À (Å 0) (À (Å 6) Á)))))) (Wb.a0 Á)))) (Wb.ss0 ú)) (Wb.drops [5,6] (Wb.ss0 ú))))))))
  (Wb.drops [5,6] (Wb.ss0 (ã (é (Å 3)))))))),Wb.vI h rfl ?_⟩
 rintro ds P ⟨n,pick,rfl,n1,n8,q⟩
 refine⟨[.im (.int n),.im (.int pick),.any,.any,.any,.any],rfl,?_⟩
 refine⟨by decide,rfl,4,rfl,by decide,by decide,λr r0 r1=>?_⟩
 refine⟨λρ=>∃(us:List Tie) (s5 s6:Sl),us.length<=28/\OkB n us/\ρ=RP n pick (2+r) us s5 s6,?_,λρ ⟨us,s5,s6,hl,ok,e⟩=>?_⟩
 rotate_left
 ·subst e
  exact⟨rfl,q us hl ok⟩
 refine⟨⟨by decide,by decide,by omega,by omega⟩,by rw[bW];omega,rfl,λ(i:Nat) ρ=>∃us:List Tie,((pick=6->2 * us.length<=i * (i+1))/\(pick≠6->us.length<=3 * i))/\OkB n us/\ρ=RP n pick (2+r) us .any .any,⟨[],⟨λ_=>by decide,λ_=>by decide⟩,(λt ht=>nomatch ht),rfl⟩,?_,?_⟩
 ·rintro i d ρ hd ⟨us,hl,ok,rfl⟩
  obtain⟨hi,rfl⟩:=dY hd
  refine⟨rfl,1+((i:Nat):Int),rfl,by omega,by omega,λx x0 x1=>?_⟩
  let S:=λ(k:Nat) (ρ:List Sl)=>∃vs:List Tie,((pick=6->vs.length<=us.length)/\vs.length<=us.length+k)/\OkB n vs/\ρ=RP n pick (2+r) vs (.im (.int (1+((i:Nat):Int)))) (.im (.int x))
  have S0:S 0 (RP n pick (2+r) us (.im (.int (1+((i:Nat):Int)))) (.im (.int x))):=⟨us,⟨λ_=>Ì _,Ì _⟩,ok,rfl⟩
  have eqT:∀(c:Int) (vs:List Tie),c≠6->Tot (pick≠6) (dD (t2 (iR false) (tV 2) (tK (.int c)))) (RP n pick (2+r) vs (.im (.int (1+((i:Nat):Int)))) (.im (.int x))):=λc vs hc R h=>h _ λz e=>hc ((of_decide_eq_true z:pick=c) ▸ e)
  have us28:us.length<=28:=by
   have:=Ga (i:=i) (by omega)
   by_cases c6:pick=6
   ·have:=hl.1 c6
    omega
   ·have:=hl.2 c6
    omega
  have ap:∀(k:Nat) (vs:List Tie) (t:Tie),((pick=6->vs.length<=us.length)/\vs.length<=us.length+k)->OkB n vs->0<=t.1/\t.1<t.2/\t.2<n->pick≠6->S (k+1) (RP n pick (2+r) (vs++[t]) (.im (.int (1+((i:Nat):Int)))) (.im (.int x))):=λk vs t hk okv ht c6=>⟨vs++[t],⟨λz=>absurd z c6,by rw[Ð,ņ];omega⟩,okv.app (OkB.one ht),rfl⟩
  refine⟨S 1,?_,λρ h1=>?_⟩
  ·refine Ab (t:=(x,1+((i:Nat):Int))) (vs:=us) ((eqT 0 us (by decide)).or (((eqT 5 us (by decide)).and λR h=>⟨rfl,3,rfl,by decide,by decide,λy _ _=>h _ λ_=>trivial⟩).or ((eqT 3 us (by decide)).and λR h=>h _ λ_=>trivial))) (λR h=>⟨zK,h⟩) (by omega) ⟨us,⟨λ_=>Ì _,by omega⟩,ok,rfl⟩ (ap 0 us _ ⟨λ_=>Ì _,Ì _⟩ ok ⟨by omega,by omega,by omega⟩)
  obtain⟨v1,l1,ok1,rfl⟩:=h1
  refine⟨S 2,?_,λρ h1=>?_⟩
  ·refine Ab (t:=(1+((i:Nat):Int) - 1,1+((i:Nat):Int))) (vs:=v1) (Tot.or (λR h=>⟨zK,rfl,rfl,h _ λz=>in2 (a:=1) (b:=7) (by decide) (by decide) z⟩) (((eqT 3 v1 (by decide)).and λR h=>h _ λ_=>trivial).or ((eqT 4 v1 (by decide)).and λR h=>⟨(show(0:Int)<2 by decide),h _ λ_=>trivial⟩))) (λR h=>⟨zK,h⟩) (by omega) ⟨v1,⟨l1.1,by omega⟩,ok1,rfl⟩ (ap 1 v1 _ l1 ok1 ⟨by omega,by omega,by omega⟩)
  obtain⟨v2,l2,ok2,rfl⟩:=h1
  refine⟨S 3,?_,λρ h1=>?_⟩
  ·refine Ab (t:=(0,1+((i:Nat):Int))) (vs:=v2) (Tot.or (λR h=>⟨zK,rfl,rfl,h _ λz=>in2 (a:=2) (b:=4) (by decide) (by decide) z⟩) (((eqT 3 v2 (by decide)).and λR h=>h _ λ_=>trivial).or ((eqT 7 v2 (by decide)).and λR h=>h _ λ_=>trivial))) (λR h=>⟨zK,h⟩) (by omega) ⟨v2,⟨l2.1,by omega⟩,ok2,rfl⟩ (ap 2 v2 _ l2 ok2 ⟨by omega,by omega,by omega⟩)
  obtain⟨v3,l3,ok3,rfl⟩:=h1
  have ts:=Ss i
  show if decide (pick=6)=true then _ else _
  refine bQ (λc=>?_) (λc=>⟨v3,⟨λz=>absurd (decide_eq_true z) c,λz=>by have:=hl.2 z;omega⟩,ok3,rfl⟩)
  ·have c6:pick=6:=of_decide_eq_true c
   have hl:=hl.1 c6
   have l3:=l3.1 c6
   refine⟨⟨by omega,by omega⟩,by rw[bW];omega,.imm,λj ys=>∃ws:List Tie,ys=ws.map pD/\ws.length<=j/\OkB n ws,⟨[],rfl,Ì _,(λt ht=>nomatch ht)⟩,?_,?_⟩
   ·rintro j d ys hd ⟨ws,rfl,hw,okw⟩
    obtain⟨hj,rfl⟩:=dY hd
    refine⟨rfl,3,rfl,by decide,by decide,λy _ _=>bQ (λc=>⟨zK,rfl,ws++[(0+((j:Nat):Int),1+((i:Nat):Int))],?_,?_,okw.app (OkB.one ⟨?_,?_,?_⟩)⟩) (λc=>⟨ws,rfl,by omega,okw⟩)⟩
    ·rw[ó]
     rfl
    ·rw[Ð]
     simp
     omega
    ·show 0<=0+((j:Nat):Int)
     omega
    ·show 0+((j:Nat):Int)<1+((i:Nat):Int)
     omega
    ·show 1+((i:Nat):Int)<n
     omega
   ·rintro ys ⟨ws,rfl,hw,okw⟩
    rw[bW] at hw
    refine⟨rfl,by rw[Ã,Ã];omega,v3++ws,⟨λ_=>by rw[Ð];omega,λz=>absurd c6 z⟩,ok3.app okw,?_⟩
    show [Sl.pen TP,.im (.int n),.im (.int pick),.dw 0 (.list (v3.map pD++ws.map pD)),.im (.int (2+r)),.any,.any]=_
    rw[←ó]
    rfl
 ·rintro ρ ⟨us,hl,ok,rfl⟩
  rw[bW] at hl
  have:=Ga (i:=(n - 1).toNat) (by omega)
  refine⟨us,.any,.any,?_,ok,rfl⟩
  by_cases c6:pick=6
  ·have:=hl.1 c6
   omega
  ·have:=hl.2 c6
   omega
def pN:FnScope ["_law_pen_here","_law_most","_law_n","_law_ties","_law_k","_law_turned_here","_law_pairs"] ["_law_pen_here","_law_most"] (aj (top 57)):=zC
def kj:(["_law_a","_law_b","_law_pen_here","_law_most","_law_n","_law_ties","_law_k","_law_turned_here","_law_pairs"]:List Str).Nodup:=by decide +kernel
def uZ:(["_law_pair","_law_pen_here","_law_most","_law_n","_law_ties","_law_k","_law_turned_here","_law_pairs"]:List Str).Nodup:=by decide +kernel
def zE(F:Fun K "_law_web" "_law_web" (top 57) f fd)(B:ĝ mg)(C__law_draw:Ü P w K mg base 1 "_law_draw" ["_law_pen_here","_law_many"] (dF 1 nW))(C__law_plain:Ü P w K mg base 2 "_law_plain" ["_law_pen_here","_law_n","_law_pick"] (dF 2000000 Ju))(C__law_turned:Ü P w K mg base 2 "_law_turned" ["_law_pen_here","_law_n"] (dF 16 Jv)):FnOk P w K mg base CX0 3 f fd ["_law_pen_here","_law_most"] (dF 4000000 UJ):=by
 refine F.ok pN fW (λcdv A outer s H vs Q E hr h=>?_)
 have nd:=pN.nd
 refine⟨_,Wb.BSs.h (Wb.cons (Wb.set none (i:=2) nd rfl zQ (Wb.plus (Wb.e0 Ä) (Wb.dcP C__law_draw hr (č 0) (Wb.a0 (À (Å 1) Á)))))
  (Wb.cons (Wb.set (some 0) (i:=3) nd rfl zQ (Wb.dcP C__law_plain hr (č 0) (Wb.cW (Wb.e0 (Å 2)) (Wb.cW (Wb.dcP C__law_draw hr (č 0) (Wb.a0 (À Ä Á))) (Wb.a0 Á)))))
  (Wb.lV (Wb.for_ Ņ rfl (Wb.GJ B.range (Wb.cW (Wb.ix (Wb.e0 (þ (À Ä (À Ä (À Ä (À Ä Á)))))) (Wb.dcP C__law_draw hr (č 0) (Wb.a0 (À Ä Á)))) (Wb.a0 Á))) (Ĉ (i:=4) nd rfl zQ) (Wb.cons (Wb.append (č 3) (Wb.cW (Wb.tup (Wb.cW (Wb.dcP C__law_draw hr (č 0) (Wb.a0 (À (Å 2) Á))) (Wb.cW (Wb.dcP C__law_draw hr (č 0) (Wb.a0 (À (Å 2) Á))) (Wb.a0 Á)))) (Wb.a0 Á))) (Wb.drops [4] (Wb.ss0 ú))))
  (Wb.drops [4] (Wb.lV (Wb.if_ (Wb.wt (Wb.R4 (Wb.t0 (ř hr.units (Å 3) (þ Á))) (Wb.R5 (Wb.teq hr.units (Wb.dcP C__law_draw hr (č 0) (Wb.a0 (À Ä Á))) (Wb.e0 Ä))))) (Wb.one (Wb.append (č 3) (Wb.cW (Wb.ix (Wb.e0 (Å 3)) (Wb.dcP C__law_draw hr (č 0) (Wb.a0 (À (ļ B.len (À (Å 3) Á)) Á)))) (Wb.a0 Á)))) (Wb.ss0 ú))
  (Wb.cons (Wb.set none (i:=5) nd rfl zQ (Wb.dcP C__law_turned hr (č 0) (Wb.a0 (À (Å 2) Á))))
  (Wb.ss0 (ê (Wr.lN none ["_law_a","_law_b"] (i:=6) rfl nd rfl zQ (œ (Å 3)) (λc=>(Wr.qZ (n:=2) rfl (Wr.cA (Ĉ (i:=0) kj rfl zQ) (Wr.cA (Ĉ (i:=1) kj rfl zQ) Wr.jt)))) (λc=>(Wr.dR (ř hr.units (Å 0) (Å 1)))) (λc=>(Ú (À (õ (Å 7) (Å 0)) (À (õ (Å 7) (Å 1)) Á)))))
  (ã (é (Ú (À (Å 2) (À (Wr.gC B.tuple (À (Wr.j6 B.sorted (À (Wr.eV ["_law_pair"] rfl (œ (Å 6)) (λc=>(Ĉ (i:=0) uZ rfl zQ)) (λc=>Wr.cC) (λc=>(Ú (À (Wr.oX rfl B.min (À (Å 0) Á)) (À (Wr.oY rfl B.max (À (Å 0) Á)) Á))))) Á)) Á)) Á))))))))))))),Wb.vI h rfl ?_⟩
 rintro ds P ⟨m,rfl,m1,m8,q⟩
 refine⟨[.im (.int m),.any,.any,.any,.any,.any],rfl,?_⟩
 refine⟨rfl,m,rfl,by omega,by omega,λr r0 r1=>?_⟩
 refine⟨rfl,rfl,9,rfl,by decide,by decide,λpk p0 p1=>⟨1+r,pk,rfl,by omega,by omega,λus lu ok=>?_⟩⟩
 have okw:OkV (1+r) us:=λt ht=>by
  have:=ok t ht
  omega
 refine⟨λρ=>∃us:List Tie,us.length<=30/\OkV (1+r) us/\ρ=RW m (1+r) us .any,?_,λρ h=>?_⟩
 ·refine⟨zK,rfl,4,rfl,by decide,by decide,λj j0 j1=>?_⟩
  obtain⟨c,hc,c0,c1⟩:=Nu j0 j1
  refine⟨.int c,hc,⟨by omega,by omega⟩,by rw[bW];omega,rfl,λ(i:Nat) ρ=>∃us:List Tie,us.length<=28+i/\OkV (1+r) us/\ρ=RW m (1+r) us .any,⟨us,by omega,okw,rfl⟩,?_,?_⟩
  ·rintro i d ρ hd ⟨vs,hl,ok',rfl⟩
   obtain⟨hi,rfl⟩:=dY hd
   refine⟨rfl,1+r,rfl,by omega,by omega,λa a0 a1=>⟨rfl,1+r,rfl,by omega,by omega,λb b0 b1=>⟨zK,rfl,by rw[Ã];omega,vs++[(a,b)],by rw[Ð];simp;omega,ok'.app (OkV.one ⟨a0,a1,b0,b1⟩),?_⟩⟩⟩
   show [Sl.pen TP,.im (.int m),.im (.int (1+r)),.dw 0 (.list (vs.map pD++[pD (a,b)])),.any,.any,.any]=_
   unfold RW
   rw[ó]
   rfl
  ·rintro ρ ⟨vs,hl,ok',rfl⟩
   rw[bW] at hl
   exact⟨vs,by omega,ok',rfl⟩
 obtain⟨v1,l1,ok1,rfl⟩:=h
 refine⟨λρ=>∃us:List Tie,us.length<=31/\OkV (1+r) us/\ρ=RW m (1+r) us .any,?_,λρ h=>?_⟩
 ·refine⟨zK,Eh v1,rfl,?_⟩
  show if (!PyData.eqv (.list (v1.map pD)) (.list []))=true then _ else _
  refine bQ (λc=>?_) (λc=>aL ⟨v1,by omega,ok1,rfl⟩)
  have ne:v1≠[]:=λz=>by
   subst z
   exact absurd c (by decide)
  have pos:0<v1.length:=ů.mpr ne
  have lm:(v1.map pD).length=v1.length:=Ã ..
  refine⟨rfl,4,rfl,by decide,by decide,λy _ _=>bQ (λc2=>?_) (λc2=>⟨v1,by omega,ok1,rfl⟩)⟩
  refine⟨rfl,_,rfl,by omega,by omega,λz z0 z1=>?_⟩
  obtain⟨t,ht,hz⟩:=J0 z0 z1
  refine⟨pD t,hz,rfl,by omega,v1++[t],by rw[Ð,ņ];omega,ok1.app (OkV.one (ok1 t ht)),?_⟩
  show [Sl.pen TP,.im (.int m),.im (.int (1+r)),.dw 0 (.list (v1.map pD++[pD t])),.any,.any,.any]=_
  unfold RW
  rw[ó]
  rfl
 obtain⟨v2,l2,ok2,rfl⟩:=h
 refine⟨rfl,1+r,rfl,by omega,by omega,λo ho=>?_⟩
 refine jf (.inl rfl) ?_
 refine sX v2 pD (λt=>!decide (t.1=t.2)) (λt=>pD (gO o t.1,gO o t.2)) .imm rfl (by omega) (λt ht A B hA hB=>?_) ?_
 ·obtain⟨a0,a1,b0,b1⟩:=ok2 t ht
  refine⟨rfl,?_⟩
  show if (!decide (t.1=t.2))=true then _ else _
  refine bQ (λc=>?_) (λc=>hB (by simpa using c))
  exact⟨_,(ho.at a0 a1).1,_,(ho.at b0 b1).1,zK,rfl,hA c⟩
 have e:((v2.filter λt=>!decide (t.1=t.2)).map λt=>pD (gO o t.1,gO o t.2))=(turnT o v2).map pD:=by
  unfold turnT
  rw[ï]
  rfl
 rw[e]
 have lt:(turnT o v2).length<=31:=by
  unfold turnT
  rw[Ã]
  exact î (List.length_filter_le _ _) l2
 have okt:=Ka ho ok2
 refine jf (.inl rfl) ?_
 refine vf (turnT o v2) pD (λt=>pD (mm t)) .imm rfl (by omega) (λt ht A B hA=>aH (B:=True) ⟨zK,rfl,hA⟩) ?_
 have e2:(turnT o v2).map (λt=>pD (mm t))=((turnT o v2).map mm).map pD:=by rw[ï];rfl
 rw[e2]
 refine⟨(turnT o v2).map mm,.inl rfl,by rw[Ã];omega,λt ht=>?_,λus' hp hs=>⟨zK,?_,q (1+r) us' (by omega) (by omega) (by rw[hp.length_eq,Ã];omega) (λt ht=>okt t (hp.mem_iff.mp ht)) hs⟩⟩
 ·have:=okt t ht
  exact⟨by omega,by omega⟩
 have e:=jo (1+r) us'
 show(norm _ (au (1+r) us')).le .n0=true
 rw[ŗ e]
 rfl
end
abbrev Off:=Int×Int×Int
def oD(o:Off):D:=.tuple [.int o.1,.int o.2.1,.int o.2.2]
def oT(b:Bool)(os:List Off):D:=if b=true then .list (os.map oD) else .tuple (os.map oD)
def tO(o:Off):Tie:=(o.1,o.2.1)
def OkO(n:Int)(os:List Off):Prop:=∀o∈os,OkT n (tO o)/\0<=o.2.2/\o.2.2<10 ^ 30
def dI(os:List Off)(ks:List Int):List Tie:=ks.map λk=>tO (os.getD k.toNat (0,0,0))
def jy(m:Nat)(ks:List Int):Prop:=ks.Pairwise (·<·)/\∀k∈ks,0<=k/\k<(m:Int)
def Jt(ds:List D)(P:D->Prop):Prop:=∃n us vs,ds=[au n us,.list (vs.map pD)]/\us.length+vs.length<64/\n<=16/\OkN n us/\OkN n vs/\∀ws:List Tie,ws.Perm (us++vs)->P (au n ws)
def eZ(ds:List D)(P:D->Prop):Prop:=∃n us b os ks,ds=[au n us,oT b os,iD ks]/\us.length<=52/\n<=16/\OkN n us/\os.length<=8/\OkO n os/\jy os.length ks/\∀ws:List Tie,ws.Perm (us++(dI os ks).map mmT)->P (au n ws)
def xg{n:Nat}{l:List Int}(nd:l.Nodup)(h:∀x∈l,0<=x/\x<n):l.length<=n:=by
 induction n generalizing l with
 |zero=>cases l with
  |nil=>exact Ì _
  |cons x l=>have:=h x (Ö ..);omega
 |succ n ih =>
  by_cases e:((n:Nat):Int)∈l
  ·have z:=ih (nd.erase ((n:Nat):Int)) λx hx=>by
    have:=h x (List.mem_of_mem_erase hx)
    have:x≠((n:Nat):Int):=(nd.mem_erase_iff.mp hx).1
    omega
   rw[List.length_erase_of_mem e] at z
   omega
  ·have z:=ih nd λx hx=>by
    have:=h x hx
    have:x≠((n:Nat):Int):=λw=>e (w ▸ hx)
    omega
   omega
def uz{l:List Int}(h:l.Pairwise (·<·)):l.Nodup:=h.imp λh=>by omega
def jy.len{m:Nat}{ks:List Int}(h:jy m ks):ks.length<=m:=xg (uz h.1) λx hx=>h.2 x hx
def Lw{b:Bool}{os:List Off}{k:Int}(h0:0<=k)(h1:k<(os.length:Nat)):os[k.toNat]?=some (os.getD k.toNat (0,0,0)):=by
 rw[ò,È (by omega)]
 rfl
def iG{os:List Off}{k:Int}(h0:0<=k)(h1:k<(os.length:Nat)):atI (os.map oD) k=some (oD (os.getD k.toNat (0,0,0))):=by
 have ek:k=((k.toNat:Nat):Int):=by omega
 have q:atI (os.map oD) ((k.toNat:Nat):Int)=some (oD (os.getD k.toNat (0,0,0))):=dB (by rw[à,Lw (b:=true) h0 h1];rfl)
 rw[←ek] at q
 exact q
def zJ{n:Int}{os:List Off}{ks:List Int}(ok:OkO n os)(h:jy os.length ks):OkN n (dI os ks):=λt ht=>by
 obtain⟨k,hk,rfl⟩:=Ă.mp ht
 obtain⟨h0,h1⟩:=h.2 k hk
 exact(ok _ (Ó (Lw (b:=true) h0 h1))).1
def Ih{n:Int}{us:List Tie}(h:OkN n us):OkN n (us.map mmT):=λt ht=>by
 obtain⟨u,hu,rfl⟩:=Ă.mp ht
 obtain⟨⟨a0,a1⟩,⟨b0,b1⟩,ne⟩:=h u hu
 show((0:Int)<=(if u.2<u.1 then u.2 else u.1)/\(if u.2<u.1 then u.2 else u.1)<n)/\(0<=(if u.2 > u.1 then u.2 else u.1)/\(if u.2 > u.1 then u.2 else u.1)<n)/\(if u.2<u.1 then u.2 else u.1)≠(if u.2 > u.1 then u.2 else u.1)
 by_cases c:u.2<u.1
 ·rw[if_pos c,if_neg (by omega)]
  omega
 ·rw[if_neg c,if_pos (by omega)]
  omega
def Uj(l:List Int)(t:Tie):lv l (mmT t)=lv l t:=by
 unfold lv mmT
 show(decide ((if t.2<t.1 then t.2 else t.1)∈l) != decide ((if t.2 > t.1 then t.2 else t.1)∈l))=_
 by_cases c:t.2<t.1
 ·rw[if_pos c,if_neg (by omega)]
  cases decide (t.1∈l) <;> cases decide (t.2∈l) <;> rfl
 ·rw[if_neg c]
  by_cases c2:t.2 > t.1
  ·rw[if_pos c2]
  ·rw[if_neg c2,show t.2=t.1 by omega]
def RB(l:List Int)(us:List Tie):((us.map mmT).filter (lv l)).length=(us.filter (lv l)).length:=by
 rw[List.filter_map,Ã]
 congr 1
 exact List.filter_congr λt _=>Uj l t
def OkN.app{n:Int}{us vs:List Tie}(a:OkN n us)(b:OkN n vs):OkN n (us++vs):=λt ht=>(Ø.mp ht).elim (a t) (b t)
def lF:∀os:List Off,cX (os.map oD)=true
 |[]=>rfl
 |_::os=>lF os
def cZ(b:Bool)(os:List Off):aB (oT b os)=if b=true then .sh (oT true os) else .im (oT false os):=by
 cases b with
 |true=>rfl
 |false =>
  show(if bU (.tuple (os.map oD))=true then Sl.im (.tuple (os.map oD)) else Sl.sh (.tuple (os.map oD)))=_
  rw[if_pos (show bU (.tuple (os.map oD))=true from lF os)]
  rfl
def iH(a b c:D):¬(HT.sIx [a,b,c].length 0 none=0/\HT.sIx [a,b,c].length [a,b,c].length (some 2)=[a,b,c].length):=λz=>by
 have:=z.2
 rw[show(2:Int)=((2:Nat):Int) from rfl,HT.jg] at this
 exact absurd (show min 2 3=3 from this) (by decide)
def sqD:D->Option (List D)
 |.list es=>some es
 |.tuple es=>some es
 |_=>none
def offB(n:Int):D->Bool
 |.tuple [a,b,c]=>Kc n (.tuple [a,b])&&(isW c&&decide (0<=toI c))
 |_=>false
def iC(n:Int)(d:D):Bool:=match sqD d with
 |some es=>decide (es.length<=8)&&es.all (offB n)
 |none=>false
def CG(ds:List D)(P:D->Prop):Prop:=∃n us d,ds=[au n us,d]/\P (.bool (offB n d))
def vC{i:Nat}{d:D}{k:Kd}{ρ:List Sl}{Q:List Sl->Prop}(hk:k=.imm\/k=.shr)(h:∀s,(s=.im d\/s=.sh d)->Q (ρ.set i s)):gNm i (norm k d) d ρ Q:=by
 refine h _ ?_
 by_cases hi:bU d=true
 ·rw[ŗ hi];exact .inl rfl
 ·rw[Ř hi]
  try rw[Ř hi]
  rcases hk with rfl|rfl
  ·exact .inl rfl
  ·exact .inr rfl
def J2(d:D):Prop:=∀es,sqD d=some es->es.length<=400
def fj(CN:Addr):FX:=λds P R=>∃n us d,ds=[au n us,d]/\J2 d/\((iC n d=false/\R (.ref CN))\/(iC n d=true/\P .none))
section
variable {P:Program}{w:World}{K:Ñ}{mg:Str->Option Value}{base:Heap}{f:Addr}{fd:FuncData}{CN:Addr}
def jP:FnScope ["web","added"] ["web","added"] (aj (top 16)):=zC
def uR(F:Fun K "with_ties" "with_ties" (top 16) f fd)(B:ĝ mg):FnOk P w K mg base CX0 1 f fd ["web","added"] (spD Jt):=by
 refine F.ok jP Ĕ (λcdv A outer s H vs Q E hr h=>?_)
 have nd:=jP.nd
 refine⟨_,Ĝ (ã (é (Ú (À (õ (Å 0) Ä) (À (Wr.gC B.tuple (À (Wr.j6 B.sorted (À (Ũ (õ (Å 0) Ä) (Wr.gC B.tuple (À (Å 1) Á))) Á)) Á)) Á))))),aR h ?_⟩
 rintro ds P ⟨n,us,vs,rfl,lu,n16,oku,okv,q⟩
 refine⟨[.im (au n us),.sh (.list (vs.map pD))],?_,?_⟩
 ·show [aB (au n us),aB (.list (vs.map pD))]=_
  rw[Ģ]
  rfl
 have lm:∀xs:List Tie,(xs.map pD).length=xs.length:=λxs=>Ã ..
 have ok:=OkN.app oku okv
 refine⟨.int n,rfl,.tuple (us.map pD),rfl,by rw[lm,lm];omega,us++vs,.inr ?_,by rw[Ð];omega,λt ht=>?_,λws hp hs=>⟨zK,?_,q ws hp⟩⟩
 ·rw[ó]
 ·have:=ok t ht
  exact⟨this.2.1.1,by have:=this.2.1.2;omega⟩
 ·have e:=jo n ws
  show(norm _ (au n ws)).le .n0=true
  rw[ŗ e]
  rfl
def nO:FnScope ["web","thing"] ["web","thing"] (aj (top 33)):=zC
def wU(F:Fun K "is_offer" "is_offer" (top 33) f fd)(B:ĝ mg)(C_is_whole:Ü P w K mg base 1 "is_whole" ["thing"] (spD jK))(C_is_tie:Ü P w K mg base 3 "is_tie" ["n","thing"] (spD CJ)):FnOk P w K mg base CX0 4 f fd ["web","thing"] (spD CG):=by
 refine F.ok nO Ĕ (λcdv A outer s H vs Q E hr h=>?_)
 have nd:=nO.nd
 refine⟨_,Ĝ (ê (Ĺ (Wr.wpt (ŭ (ŧ (Ħ (Wr.bI kit_tuple B.isinstance (Å 1) (Wr.wty rfl B.tuple boot_tuple)))) (Wr.cB (ř hr.units (ļ B.len (À (Å 1) Á)) Ä)))) (ã (é ũ)) ú)
  (ã (é (ŝ (ĥ C_is_tie hr (À (õ (Å 0) Ä) (À (Wr.wK (Å 1) Wr.cU (Wr.cT Ä)) Á))) (ŝ (ĥ C_is_whole hr (À (õ (Å 1) Ä) Á)) (Wr.cF (Wr.wL (õ (Å 1) Ä) Ä))))))),aR h ?_⟩
 rintro ds P ⟨n,us,d,rfl,q⟩
 refine⟨[.im (au n us),aB d],by show [aB (au n us),aB d]=_;rw[Ģ],?_⟩
 cases d with
 |tuple es =>
  rcases bB (.tuple es) with e|e
  all_goals
   rw[e]
   refine aL (A:=True) ?_
   match es,q with
   |[],q=>exact aH (B:=True) ⟨rfl,q⟩
   |[_],q=>exact aH (B:=True) ⟨rfl,q⟩
   |[_,_],q=>exact aH (B:=True) ⟨rfl,q⟩
   |a::b::c::x::r,q =>
    refine aH (B:=True) ⟨rfl,?_⟩
    exact q
   |[a,b,c],q =>
    have q:P (.bool (Kc n (.tuple [a,b])&&(isW c&&decide (0<=toI c)))):=q
    refine aL (A:=True) ⟨.int n,rfl,iH _ _ _,n,.tuple [a,b],rfl,?_⟩
    show if Kc n (.tuple [a,b])=true then _ else _
    refine bQ (λz=>?_) (λz=>?_)
    ·rw[z] at q
     refine⟨c,rfl,c,rfl,?_⟩
     cases c with
     |int i=>exact aH (B:=True) ⟨.int i,rfl,rfl,q⟩
     |_=>exact aL (A:=True) ⟨rfl,q⟩
    ·rw[Bool.eq_false_iff.mpr z] at q
     exact⟨rfl,q⟩
 |_=>exact aH (B:=True) ⟨rfl,q⟩
def gW:FnScope ["web","thing","fits"] ["web","thing"] (aj (top 34)):=zC
def kE:(["offer","web","thing","fits"]:List Str).Nodup:=by decide +kernel
def oJ{newId Bn0 initId:String}{bmB:List Value}{tk_MOST_OFFERS:Tok}(F:Fun K "check_offers" "check_offers" (top 34) f fd)(B:ĝ mg)(g_MOST_OFFERS:mg "MOST_OFFERS"=some (.int 8 tk_MOST_OFFERS))(mX_NoOffers:mg "NoOffers"=some (.ref CN))(XC_NoOffers:ExcCls K CN newId bmB)(XB:ExcBaseFacts Bn0 newId initId bmB)(C_is_offer:Ü P w K mg base 4 "is_offer" ["web","thing"] (spD CG)):FnOk P w K mg base (CX1 P w) 5 f fd ["web","thing"] (spX (fj CN)):=by
 refine F.ok1 gW Mf (λcdv A outer s H vs Q E hr h=>?_)
 have nd:=gW.nd
 letI:=grX H
 refine⟨_,Ĝ (ê (ĳ none (i:=2) nd rfl zQ (ŝ (Wr.uO B.isinstance (Å 1) (Wr.wty rfl B.list boot_list) (Wr.wty rfl B.tuple boot_tuple)) (Wr.cF (Wr.Hf (ļ B.len (À (Å 1) Á)) (Wr.qw rfl g_MOST_OFFERS ⟨_,rfl⟩)))))
  (ã (Ĺ (Wr.wpt (ŭ (ŧ (Ħ (Å 2))) (Wr.cB (ŧ (Ħ (Wr.mQ rfl B.all Dl.boot_all (À (Wr.eV ["offer"] rfl (œ (Å 1)) (λc=>(Ĉ (i:=0) kE rfl zQ)) (λc=>Wr.cC) (λc=>(ĥ C_is_offer hr (À (Å 1) (À (Å 0) Á))))) Á))))))) (ã (Wr.qY (E:=E) o9 rfl rfl mX_NoOffers XC_NoOffers XB (À ĉ Á))) ú))),enterX h ?_ ?mono⟩
 case mono=>exact λds P R R' hR ⟨n,us,d,e,fw,x⟩=>⟨n,us,d,e,fw,x.imp (λz=>⟨z.1,hR _ z.2⟩) id⟩
 rintro ds P ⟨n,us,d,rfl,fw,x⟩
 refine⟨[.im (au n us),aB d,.any],by show [aB (au n us),aB d,.any]=_;rw[Ģ],?_⟩
 have bad:iC n d=false->Rz E H (.ref CN):=λe=>by
  rcases x with ⟨_,r⟩|⟨e2,_⟩
  ·exact r
  ·rw[e] at e2
   cases e2
 have good:iC n d=true->P .none:=λe=>by
  rcases x with ⟨e2,_⟩|⟨_,r⟩
  ·rw[e] at e2
   cases e2
  ·exact r
 have two:∀es:List D,iC n d=(decide (es.length<=8)&&es.all (offB n))->es.length<=400->(decide (((es.length:Nat):Int)<=8)=false->Rz E H (.ref CN))/\(decide (((es.length:Nat):Int)<=8)=true->∀b,b=es.all (offB n)->(b=false->Rz E H (.ref CN))/\(b=true->P .none)):=λes e l=>by
  refine⟨λz=>bad ?_,λz b eb=>⟨λy=>bad ?_,λy=>good ?_⟩⟩
  ·have z:=of_decide_eq_false z
   rw[e,decide_eq_false (by omega)]
   rfl
  ·rw[e,←eb,y,ķ]
  ·have z:=of_decide_eq_true z
   rw[e,←eb,y,decide_eq_true (by omega)]
   rfl
 cases d with
 |list es =>
  obtain⟨t1,t2⟩:=two es rfl (fw es rfl)
  show vL 2 none (λ_ P=>P .imm (.bool (decide (((es.length:Nat):Int)<=8)))) _ _
  cases e8:decide (((es.length:Nat):Int)<=8) with
  |false=>exact aH (B:=True) ⟨zK,t1 e8⟩
  |true =>
   refine aL (A:=True) ?_
   have l8:=of_decide_eq_true e8
   refine vf es (λd=>d) (λd=>.bool (offB n d)) .imm (List.map_id' es).symm (by omega) (λd hd A B hA=>?_) ?_
   ·refine vC (.inr rfl) ?_
    rintro s (rfl|rfl) <;> exact aH (B:=B) ⟨n,us,d,rfl,rfl,hA⟩
   ·refine⟨es.map (offB n),by rw[ï];rfl,?_⟩
    have ea:(es.map (offB n)).all id=es.all (offB n):=by
     rw[List.all_map]
     rfl
    rw[ea]
    cases e9:es.all (offB n) with
    |false=>exact aH (B:=True) ⟨zK,(t2 e8 _ rfl).1 e9⟩
    |true=>exact aL (A:=True) ((t2 e8 _ rfl).2 e9)
 |tuple es =>
  obtain⟨t1,t2⟩:=two es rfl (fw es rfl)
  rcases bB (.tuple es) with e|e
  all_goals
   rw[e]
   show vL 2 none (λ_ P=>P .imm (.bool (decide (((es.length:Nat):Int)<=8)))) _ _
   cases e8:decide (((es.length:Nat):Int)<=8) with
   |false=>exact aH (B:=True) ⟨zK,t1 e8⟩
   |true =>
    refine aL (A:=True) ?_
    have l8:=of_decide_eq_true e8
    refine vf es (λd=>d) (λd=>.bool (offB n d)) .imm (List.map_id' es).symm (by omega) (λd hd A B hA=>?_) ?_
    ·first
     |refine vC (.inr rfl) ?_
      rintro s (rfl|rfl) <;> exact aH (B:=B) ⟨n,us,d,rfl,rfl,hA⟩
     |refine vC (.inl rfl) ?_
      rintro s (rfl|rfl) <;> exact aH (B:=B) ⟨n,us,d,rfl,rfl,hA⟩
    ·refine⟨es.map (offB n),by rw[ï];rfl,?_⟩
     have ea:(es.map (offB n)).all id=es.all (offB n):=by
      rw[List.all_map]
      rfl
     rw[ea]
     cases e9:es.all (offB n) with
     |false=>exact aH (B:=True) ⟨zK,(t2 e8 _ rfl).1 e9⟩
     |true=>exact aL (A:=True) ((t2 e8 _ rfl).2 e9)
 |_=>exact aH (B:=True) ⟨zK,bad rfl⟩
def g8:FnScope ["web","offers","numbers"] ["web","offers","numbers"] (aj (top 35)):=zC
def mU:(["number","web","offers","numbers"]:List Str).Nodup:=by decide +kernel
def qD(F:Fun K "with_offers" "with_offers" (top 35) f fd)(B:ĝ mg)(C_with_ties:Ü P w K mg base 1 "with_ties" ["web","added"] (spD Jt)):FnOk P w K mg base CX0 2 f fd ["web","offers","numbers"] (spD eZ):=by
 refine F.ok g8 Ĕ (λcdv A outer s H vs Q E hr h=>?_)
 have nd:=g8.nd
 refine⟨_,Ĝ (ã (é (ĥ C_with_ties hr (À (Å 0) (À (Wr.eV ["number"] rfl (œ (Å 2)) (λc=>(Ĉ (i:=0) mU rfl zQ)) (λc=>Wr.cC) (λc=>(Ú (À (Wr.oX rfl B.min (À (Wr.wK (õ (Å 2) (Å 0)) Wr.cU (Wr.cT Ä)) Á)) (À (Wr.oY rfl B.max (À (Wr.wK (õ (Å 2) (Å 0)) Wr.cU (Wr.cT Ä)) Á)) Á))))) Á))))),aR h ?_⟩
 rintro ds P ⟨n,us,b,os,ks,rfl,lu,n16,oku,lo,oko,hr2,q⟩
 have lk:=hr2.len
 cases b with
 |true =>
  refine⟨[.im (au n us),.sh (.list (os.map oD)),.sh (iD ks)],?_,?_⟩
  ·show [aB (au n us),aB (oT true os),aB (iD ks)]=_
   rw[Ģ,cZ]
   rfl
  refine vf ks Í (λk=>pD (mmT (tO (os.getD k.toNat (0,0,0))))) .imm rfl (by omega) (λk hk A B h=>aH (B:=True) ?_) ?_
  ·obtain⟨k0,k1⟩:=hr2.2 k hk
   exact⟨_,iG k0 k1,iH _ _ _,_,iG k0 k1,iH _ _ _,zK,rfl,h⟩
  have e:ks.map (λk=>pD (mmT (tO (os.getD k.toNat (0,0,0)))))=((dI os ks).map mmT).map pD:=by
   unfold dI
   rw[ï,ï]
   rfl
  rw[e]
  refine⟨n,us,(dI os ks).map mmT,rfl,by rw[Ã];unfold dI;rw[Ã];omega,n16,oku,Ih (zJ oko hr2),λws hp=>⟨?_,q ws hp⟩⟩
  have e:=jo n ws
  show(norm _ (au n ws)).le .n0=true
  rw[ŗ e]
  rfl
 |false =>
  refine⟨[.im (au n us),.im (.tuple (os.map oD)),.sh (iD ks)],?_,?_⟩
  ·show [aB (au n us),aB (oT false os),aB (iD ks)]=_
   rw[Ģ,cZ]
   rfl
  refine vf ks Í (λk=>pD (mmT (tO (os.getD k.toNat (0,0,0))))) .imm rfl (by omega) (λk hk A B h=>aH (B:=True) ?_) ?_
  ·obtain⟨k0,k1⟩:=hr2.2 k hk
   exact⟨_,iG k0 k1,iH _ _ _,_,iG k0 k1,iH _ _ _,zK,rfl,h⟩
  have e:ks.map (λk=>pD (mmT (tO (os.getD k.toNat (0,0,0)))))=((dI os ks).map mmT).map pD:=by
   unfold dI
   rw[ï,ï]
   rfl
  rw[e]
  refine⟨n,us,(dI os ks).map mmT,rfl,by rw[Ã];unfold dI;rw[Ã];omega,n16,oku,Ih (zJ oko hr2),λws hp=>⟨?_,q ws hp⟩⟩
  have e:=jo n ws
  show(norm _ (au n ws)).le .n0=true
  rw[ŗ e]
  rfl
end
def sG(CN:Addr)(k:Nat):Sp:=λvs H Q E=>∃(n:Int) (us:List Tie) (d:D) (v0 v1:V) (vs':List V),vs=v0::v1::vs'/\vs'.length=k/\Rps (λ_=>True) H [v0,v1] [au n us,d]/\J2 d/\iC n d=false/\∀H',Same H H'->E (.ref CN) none H'
def Lp{n:Int}{o:Off}(h:OkT n (tO o))(c:0<=o.2.2):offB n (oD o)=true:=by
 obtain⟨⟨a0,a1⟩,⟨b0,b1⟩,ne⟩:=h
 have a0:0<=o.1:=a0
 have a1:o.1<n:=a1
 have b0:0<=o.2.1:=b0
 have b1:o.2.1<n:=b1
 have ne:o.1≠o.2.1:=ne
 show((decide (0<=o.1/\o.1<n)&&(decide (0<=o.2.1/\o.2.1<n)&&!decide (o.1=o.2.1)))&&(true&&decide (0<=o.2.2)))=true
 rw[decide_eq_true ⟨a0,a1⟩,decide_eq_true ⟨b0,b1⟩,decide_eq_false ne,decide_eq_true c]
 rfl
def fU{n:Int}{os:List Off}(b:Bool)(lo:os.length<=8)(oo:OkO n os):iC n (oT b os)=true:=by
 have e:(decide ((os.map oD).length<=8)&&(os.map oD).all (offB n))=true:=by
  rw[Ã,decide_eq_true lo,Ŝ]
  refine Ą.mpr λd hd=>?_
  obtain⟨o,ho,rfl⟩:=Ă.mp hd
  exact Lp (oo o ho).1 (oo o ho).2.1
 cases b with
 |true=>exact e
 |false=>exact e
def nj{os:List Off}(b:Bool)(lo:os.length<=8):J2 (oT b os):=λes e=>by
 cases b with
 |true =>
  cases e
  rw[Ã]
  omega
 |false =>
  cases e
  rw[Ã]
  omega
section
variable {P:Program}{w:World}{K:Ñ}{mg:Str->Option Value}{base:Heap}{f:Addr}{fd:FuncData}{CN:Addr}
def PN:FnScope ["web","offers","numbers"] ["web","offers","numbers"] (aj (top 37)):=zC
def Nt(F:Fun K "is_answer" "is_answer" (top 37) f fd)(C:ň P w K mg base 5 "check_offers" ["web","thing"] (spX (fj CN))):FnOk P w K mg base (CX1 P w) 6 f fd ["web","offers","numbers"] (sG CN 1):=by
 refine F.ok1 PN (λvs H Q E h=>by obtain⟨_,_,_,_,_,vs',rfl,e,_⟩:=h;rw[ç,ç,e];rfl) (λcdv A outer s H vs Q E hr h=>?_)
 obtain⟨n,us,d,v0,v1,vs',rfl,e,rs,fw,no,q⟩:=h
 refine⟨_,pX (dz (pcX (E:=E) C hr (Hi o9) (Ć (pv 0) (Ć (pv 1) ō)) (by decide) (by rfl) (by decide) (by rfl) (by rfl))),?_⟩
 exact⟨v0,rfl,v1,rfl,⟨[au n us,d],λ_=>False,λc=>c=.ref CN,rs,⟨n,us,d,rfl,fw,.inl ⟨no,rfl⟩⟩,λd v H' z=>z.elim,λc H' e sm=>by rw[e];exact q H' sm⟩⟩
def PL:FnScope ["web","offers","every","numbers","cost"] ["web","offers"] (aj (top 40)):=zC
def Nr(F:Fun K "cheapest" "cheapest" (top 40) f fd)(C:ň P w K mg base 5 "check_offers" ["web","thing"] (spX (fj CN))):FnOk P w K mg base (CX1 P w) 6 f fd ["web","offers"] (sG CN 0):=by
 refine F.ok1 PL (λvs H Q E h=>by obtain⟨_,_,_,_,_,vs',rfl,e,_⟩:=h;rw[ç,ç,e];rfl) (λcdv A outer s H vs Q E hr h=>?_)
 obtain⟨n,us,d,v0,v1,vs',rfl,e,rs,fw,no,q⟩:=h
 refine⟨_,pX (dz (pcX (E:=E) C hr (Hi o9) (Ć (pv 0) (Ć (pv 1) ō)) (by decide) (by rfl) (by decide) (by rfl) (by rfl))),?_⟩
 exact⟨v0,rfl,v1,rfl,⟨[au n us,d],λ_=>False,λc=>c=.ref CN,rs,⟨n,us,d,rfl,fw,.inl ⟨no,rfl⟩⟩,λd v H' z=>z.elim,λc H' e sm=>by rw[e];exact q H' sm⟩⟩
def PK:FnScope ["web","offers","number","tree"] ["web","offers","number","tree"] (aj (top 51)):=zC
def Nq(F:Fun K "tree_holds" "tree_holds" (top 51) f fd)(C:ň P w K mg base 5 "check_offers" ["web","thing"] (spX (fj CN))):FnOk P w K mg base (CX1 P w) 6 f fd ["web","offers","number","tree"] (sG CN 2):=by
 refine F.ok1 PK (λvs H Q E h=>by obtain⟨_,_,_,_,_,vs',rfl,e,_⟩:=h;rw[ç,ç,e];rfl) (λcdv A outer s H vs Q E hr h=>?_)
 obtain⟨n,us,d,v0,v1,vs',rfl,e,rs,fw,no,q⟩:=h
 refine⟨_,pX (dz (pcX (E:=E) C hr (Hi o9) (Ć (pv 0) (Ć (pv 1) ō)) (by decide) (by rfl) (by decide) (by rfl) (by rfl))),?_⟩
 exact⟨v0,rfl,v1,rfl,⟨[au n us,d],λ_=>False,λc=>c=.ref CN,rs,⟨n,us,d,rfl,fw,.inl ⟨no,rfl⟩⟩,λd v H' z=>z.elim,λc H' e sm=>by rw[e];exact q H' sm⟩⟩
end
def Ow(ds:List D)(P:D->Prop):Prop:=ds=[]/\∀c:Int,0<=c->c<=10 ^ 29->P (.int c)
def OkC(n:Int)(os:List Off):Prop:=∀o∈os,OkT n (tO o)/\0<=o.2.2/\o.2.2<=10 ^ 29
def OkC.ok{n:Int}{os:List Off}(h:OkC n os):OkO n os:=λo ho=>⟨(h o ho).1,(h o ho).2.1,Int.lt_of_le_of_lt (h o ho).2.2 (by decide)⟩
def Ou(ds:List D)(P:D->Prop):Prop:=∃n m:Int,ds=[.int n,.int m]/\1<=n/\n<=8/\0<=m/\m<=8/\∀b os,os.length<=m.toNat->OkC n os->P (oT b os)
def RO(n m:Int)(os:List Off)(s4:Sl):List Sl:=[.pen TP,.im (.int n),.im (.int m),.dw 0 (.list (os.map oD)),s4,.any,.any]
def IV:∀os:List Off,Ī (os.map oD)=true
 |[]=>rfl
 |_::os=>IV os
def xX:∀os:List Off,ė (os.map oD)<=1
 |[]=>ä _
 |_::os=>by
  have:=xX os
  show max 1 (ė (os.map oD))<=1
  omega
def HF(os:List Off):okD (.list (os.map oD))=true:=by
 have h1:=IV os
 have h2:ė (os.map oD)+1<=60:=by have:=xX os;omega
 show(Ī (os.map oD)&&decide (ė (os.map oD)+1<=60))=true
 rw[h1,decide_eq_true h2]
 rfl
section
variable {P:Program}{w:World}{K:Ñ}{mg:Str->Option Value}{base:Heap}{f:Addr}{fd:FuncData}{CN:Addr}
def nM:FnScope ["_law_pen_here","_law_pick"] ["_law_pen_here"] (aj (top 59)):=zC
def wR(F:Fun K "_law_cost" "_law_cost" (top 59) f fd)(B:ĝ mg)(C__law_draw:Ü P w K mg base 1 "_law_draw" ["_law_pen_here","_law_many"] (dF 1 nW)):FnOk P w K mg base CX0 2 f fd ["_law_pen_here"] (dF 10 Ow):=by
 refine F.ok nM fW (λcdv A outer s H vs Q E hr h=>?_)
 have nd:=nM.nd
 refine⟨_,Wb.BSs.h (Wb.cons (Wb.set none (i:=1) nd rfl zQ (Wb.dcP C__law_draw hr (č 0) (Wb.a0 (À Ä Á))))
  (Wb.cons (Wb.s0 (Ĺ (ĭ hr.units (Å 1) Ä) (ã (é Ä)) ú))
  (Wb.cons (Wb.if_ (Wb.t0 (ĭ hr.units (Å 1) Ä)) (Wb.one (Wb.ret (Wb.sub (Wb.e0 (Wr.mL Ä Ä)) (Wb.dcP C__law_draw hr (č 0) (Wb.a0 (À Ä Á)))))) (Wb.ss0 ú))
  (Wb.cons (Wb.if_ (Wb.t0 (ĭ hr.units (Å 1) Ä)) (Wb.one (Wb.ret (Wb.plus (Wb.times (Wb.dcP C__law_draw hr (č 0) (Wb.a0 (À (Wr.mL Ä Ä) Á))) (Wb.e0 (Wr.mL Ä Ä))) (Wb.dcP C__law_draw hr (č 0) (Wb.a0 (À Ä Á)))))) (Wb.ss0 ú))
  (Wb.one (Wb.ret (Wb.dcP C__law_draw hr (č 0) (Wb.a0 (À (õ (þ (À Ä (À Ä (À Ä Á)))) (Ġ (Å 1) Ä)) Á))))))))),Wb.vI h rfl ?_⟩
 rintro ds P ⟨rfl,q⟩
 refine⟨[.any],rfl,?_⟩
 refine⟨rfl,6,rfl,by decide,by decide,λr r0 r1=>?_⟩
 refine bQ (λc=>⟨rfl,q 0 (by decide) (by decide)⟩) (λc=>?_)
 have c0:r≠0:=λz=>c (decide_eq_true z)
 refine bQ (λc1=>?_) (λc=>?_)
 ·refine⟨⟨by decide,by decide,by decide⟩,rfl,3,rfl,by decide,by decide,λy y0 y1=>⟨rfl,q _ ?_ ?_⟩⟩
  ·show(0:Int)<=10 ^ (29:Int).toNat - y
   have:(10:Int) ^ (29:Int).toNat=100000000000000000000000000000:=by decide
   omega
  ·show 10 ^ (29:Int).toNat - y<=(10:Int) ^ 29
   have:(10:Int) ^ (29:Int).toNat=100000000000000000000000000000:=by decide
   have:(10:Int) ^ 29=100000000000000000000000000000:=by decide
   omega
 have c1:r≠1:=λz=>c (decide_eq_true z)
 refine bQ (λc1=>?_) (λc=>?_)
 ·refine⟨rfl,⟨by decide,by decide,by decide⟩,_,rfl,by decide,by decide,λy y0 y1=>⟨⟨by decide,by decide,by decide⟩,.inl ⟨?_,?_⟩,rfl,10,rfl,by decide,by decide,λz z0 z1=>⟨rfl,q _ ?_ ?_⟩⟩⟩
  ·have:(10:Int) ^ (9:Int).toNat=1000000000:=by decide
   omega
  ·have:(10:Int) ^ (9:Int).toNat=1000000000:=by decide
   omega
  ·show(0:Int)<=y * 10 ^ (20:Int).toNat+z
   have:(10:Int) ^ (20:Int).toNat=100000000000000000000:=by decide
   rw[this]
   omega
  ·show y * 10 ^ (20:Int).toNat+z<=(10:Int) ^ 29
   have e9:(10:Int) ^ (9:Int).toNat=1000000000:=by decide
   have:(10:Int) ^ (20:Int).toNat=100000000000000000000:=by decide
   have:(10:Int) ^ 29=100000000000000000000000000000:=by decide
   rw[e9] at y1
   rw[‹(10:Int) ^ (20:Int).toNat=100000000000000000000›]
   omega
 have c2:r≠2:=λz=>c (decide_eq_true z)
 have hx:∃v:Int,atI [Í 3,.int 10,.int 100] (r - 3)=some (.int v)/\0<v/\v<=100:=by
  have:r=3\/r=4\/r=5:=by omega
  rcases this with rfl|rfl|rfl
  ·exact⟨3,rfl,by decide,by decide⟩
  ·exact⟨10,rfl,by decide,by decide⟩
  ·exact⟨100,rfl,by decide,by decide⟩
 obtain⟨v,hv,v0,v1⟩:=hx
 refine⟨rfl,zK,.int v,hv,v,rfl,v0,by omega,λy y0 y1=>⟨rfl,q y y0 ?_⟩⟩
 have:(10:Int) ^ 29=100000000000000000000000000000:=by decide
 omega
def jA:FnScope ["_law_pen_here","_law_n","_law_most","_law_found","_law_k","_law_a","_law_b"] ["_law_pen_here","_law_n","_law_most"] (aj (top 60)):=zC
def rM(F:Fun K "_law_offers" "_law_offers" (top 60) f fd)(B:ĝ mg)(C__law_draw:Ü P w K mg base 1 "_law_draw" ["_law_pen_here","_law_many"] (dF 1 nW))(C__law_cost:Ü P w K mg base 2 "_law_cost" ["_law_pen_here"] (dF 10 Ow)):FnOk P w K mg base CX0 3 f fd ["_law_pen_here","_law_n","_law_most"] (dF 20000 Ou):=by
 refine F.ok jA fW (λcdv A outer s H vs Q E hr h=>?_)
 have nd:=jA.nd
 refine⟨_,Wb.BSs.h (Wb.cons (Wb.s0 (ĳ (some 0) (i:=3) nd rfl zQ (þ Á)))
  (Wb.lV (Wb.for_ Ņ rfl (Wb.GJ B.range (Wb.cW (Wb.times (Wb.dcP C__law_draw hr (č 0) (Wb.a0 (À (Ũ (Å 2) Ä) Á))) (Wb.e0 (Wr.uQ B.int boot_int (À (Wr.BX (Å 1) Ä) Á)))) (Wb.a0 Á))) (Ĉ (i:=4) nd rfl zQ) (Wb.cons (Wb.set none (i:=5) nd rfl zQ (Wb.dcP C__law_draw hr (č 0) (Wb.a0 (À (Å 1) Á))))
  (Wb.cons (Wb.set none (i:=6) nd rfl zQ (Wb.mod (Wb.plus (Wb.e0 (Ũ (Å 5) Ä)) (Wb.dcP C__law_draw hr (č 0) (Wb.a0 (À (Ġ (Å 1) Ä) Á)))) (Wb.e0 (Å 1))))
  (Wb.cons (Wb.append (č 3) (Wb.cW (Wb.tup (Wb.cW (Wb.e0 (Å 5)) (Wb.cW (Wb.e0 (Å 6)) (Wb.cW (Wb.dcP C__law_cost hr (č 0) (Wb.a0 Á)) (Wb.a0 Á))))) (Wb.a0 Á))) (Wb.drops [4,5,6] (Wb.ss0 ú))))))
  (Wb.drops [4,5,6] (Wb.lV (Wb.if_ (Wb.wt (Wb.R4 (Wb.t0 (ř hr.units (Å 3) (þ Á))) (Wb.R5 (Wb.teq hr.units (Wb.dcP C__law_draw hr (č 0) (Wb.a0 (À Ä Á))) (Wb.e0 Ä))))) (Wb.one (Wb.put (č 3) (Wb.dcP C__law_draw hr (č 0) (Wb.a0 (À (ļ B.len (À (Å 3) Á)) Á))) (Wb.ix (Wb.e0 (Å 3)) (Wb.dcP C__law_draw hr (č 0) (Wb.a0 (À (ļ B.len (À (Å 3) Á)) Á)))))) (Wb.ss0 ú))
  (Wb.one (Wb.ret (Wb.ix (Wb.e0 (þ (À (Å 3) (À (Wr.gC B.tuple (À (Å 3) Á)) Á)))) (Wb.dcP C__law_draw hr (č 0) (Wb.a0 (À Ä Á)))))))))),Wb.vI h rfl ?_⟩
 rintro ds P ⟨n,m,rfl,n1,n8,m0,m8,q⟩
 refine⟨[.im (.int n),.im (.int m),.any,.any,.any,.any],rfl,?_⟩
 refine⟨zK,λρ=>∃os:List Off,os.length<=m.toNat/\OkC n os/\ρ=RO n m os .any,?_,λρ h=>?_⟩
 ·refine⟨rfl,m+1,rfl,by omega,by omega,λr r0 r1=>?_⟩
  have hT:∀b:Bool,(b=true->1<n)->∀t:Int,t=r * (if b=true then (1:Int) else 0)->0<=t/\t<=m/\(0<t->1<n):=by
   intro b hb t ht
   subst ht
   cases b with
   |true=>exact⟨by simpa using r0,by simp;omega,λ_=>hb rfl⟩
   |false=>exact⟨by simp,by simp;omega,λz=>absurd z (by simp)⟩
  replace hT:=hT (decide (1<n)) (λz=>of_decide_eq_true z) _ rfl
  refine⟨.inl ⟨by omega,by omega⟩,?_⟩
  generalize r * (if decide (1<n)=true then (1:Int) else 0)=T at hT ⊢
  obtain⟨T0,T1,T2⟩:=hT
  refine⟨⟨by omega,by omega⟩,by rw[bW];omega,rfl,λ(i:Nat) ρ=>∃os:List Off,os.length=i/\OkC n os/\ρ=RO n m os .any,⟨[],rfl,(λo ho=>nomatch ho),rfl⟩,?_,?_⟩
  ·rintro i d ρ hd ⟨os,lo,ok,rfl⟩
   obtain⟨hi,rfl⟩:=dY hd
   have n2:=T2 (by omega)
   refine⟨rfl,n,rfl,by omega,by omega,λa a0 a1=>⟨rfl,n - 1,rfl,by omega,by omega,λb b0 b1=>⟨(show(0:Int)<n by omega),⟨rfl,rfl,λc c0 c1=>⟨zK,rfl,by rw[Ã];omega,os++[(a,(a+1+b) % n,c)],by rw[Ð,ņ,lo],λo ho=>?_,?_⟩⟩⟩⟩⟩
   ·rcases Ø.mp ho with z|z
    ·exact ok o z
    ·rw[Ò.mp z]
     have h1:=Int.emod_nonneg (a+1+b) (b:=n) (by omega)
     have h2:=ž (a+1+b) (b:=n) (by omega)
     refine⟨⟨⟨a0,a1⟩,⟨h1,h2⟩,?_⟩,c0,c1⟩
     show a≠(a+1+b) % n
     by_cases h:a+1+b<n
     ·rw[Int.emod_eq_of_lt (by omega) h]
      omega
     ·rw[←Int.sub_emod_right,Int.emod_eq_of_lt (by omega) (by omega)]
      omega
   ·show [Sl.pen TP,.im (.int n),.im (.int m),.dw 0 (.list (os.map oD++[oD (a,(a+1+b) % n,c)])),.any,.any,.any]=_
    unfold RO
    rw[ó]
    rfl
  ·rintro ρ ⟨os,lo,ok,rfl⟩
   rw[bW] at lo
   exact⟨os,by omega,ok,rfl⟩
 obtain⟨os,lo,ok,rfl⟩:=h
 refine⟨λρ=>∃os:List Off,os.length<=m.toNat/\OkC n os/\ρ=RO n m os .any,?_,λρ h=>?_⟩
 ·refine⟨zK,HF os,rfl,?_⟩
  show if (!PyData.eqv (.list (os.map oD)) (.list []))=true then _ else _
  refine bQ (λc=>?_) (λc=>aL ⟨os,lo,ok,rfl⟩)
  have ne:os≠[]:=λz=>by
   subst z
   exact absurd c (by decide)
  have pos:0<os.length:=ů.mpr ne
  have lm:(os.map oD).length=os.length:=Ã ..
  refine⟨rfl,6,rfl,by decide,by decide,λy _ _=>bQ (λc2=>?_) (λc2=>⟨os,lo,ok,rfl⟩)⟩
  refine⟨rfl,_,rfl,by omega,by omega,λz z0 z1=>?_⟩
  have hz:=iG (os:=os) z0 (by omega)
  refine⟨_,hz,rfl,rfl,_,rfl,by omega,by omega,λx x0 x1=>?_⟩
  have hx:ixN (os.map oD).length x=some x.toNat:=by
   unfold ixN
   rw[if_pos x0,if_pos x1]
  refine⟨x.toNat,hx,os.set x.toNat (os.getD z.toNat (0,0,0)),by rw[List.length_set];exact lo,λo ho=>?_,?_⟩
  ·rcases List.mem_or_eq_of_mem_set ho with h|rfl
   ·exact ok o h
   ·exact ok _ (Ó (Lw (b:=true) z0 (by omega)))
  ·show [Sl.pen TP,.im (.int n),.im (.int m),.dw 0 (.list ((os.map oD).set x.toNat (oD (os.getD z.toNat (0,0,0))))),.any,.any,.any]=_
   unfold RO
   rw[List.map_set]
 obtain⟨os,lo,ok,rfl⟩:=h
 have lm:(os.map oD).length=os.length:=Ã ..
 have e:=lF os
 have en:∀k,norm k (.tuple (os.map oD))=.imm:=λk=>ŗ (show bU (.tuple (os.map oD))=true from e)
 refine⟨zK,rfl,2,rfl,by decide,by decide,λx x0 x1=>?_⟩
 rw[en]
 have:x=0\/x=1:=by omega
 rcases this with rfl|rfl
 ·exact⟨_,rfl,rfl,q true os lo ok⟩
 ·refine⟨_,rfl,?_,q false os lo ok⟩
  rw[en]
  rfl
end
section
variable {P:Program}{w:World}{K:Ñ}{mg:Str->Option Value}{base:Heap}{f:Addr}{fd:FuncData}
def sc9:FnScope ["limit","thing"] ["limit","thing"] (aj (top 20)):=zC
def V4:(["number","limit","thing"]:List Str).Nodup:=by decide +kernel
def V3:(["hop","limit","thing"]:List Str).Nodup:=by decide +kernel
def DQ(F:Fun K "is_rising" "is_rising" (top 20) f fd)(B:ĝ mg)(W:Ü P w K mg base 2 "is_below" ["limit","thing"] (spD Ag))(HO:Ü P w K mg base 1 "hops" ["places"] (spD Ov)):FnOk P w K mg base CX0 3 f fd ["limit","thing"] (spD pC):=by
 refine F.ok sc9 Ĕ (λcdv A outer s H vs Q E hr h=>?_)
 refine⟨_,dU (tL (PDW.pt (uF (jj (gA (bI xJ B.isinstance (dv 1) (jZ (v:=.ty "list") rfl B.list boot_list rfl)))) (cB (jj (gA (mQ rfl B.all Dl.boot_all (aA (eV ["number"] rfl (iV (dv 1)) (λc=>dW (dO (i:=0) V4 rfl (Ń rfl))) (λc=>cC) (λc=>dc W hr (aA (dv 1) (aA (dv 0) aK)))) aK))))))) (bF (bV wM)) nu)
  (bF (bV (mQ rfl B.all Dl.boot_all (aA (eV ["hop"] rfl (iV (dc HO hr (aA (dv 1) aK))) (λc=>dW (dO (i:=0) V3 rfl (Ń rfl))) (λc=>cC) (λc=>BP (jG (dv 0) bD (λ_ _=>rfl)) (jG (dv 0) bD (λ_ _=>rfl)))) aK)))),aR h ?_⟩
 rintro ds P ⟨n,d,rfl,hf,q⟩
 refine⟨[.im (.int n),aB d],rfl,?_⟩
 cases d with
 |list es =>
  have hl:=hf es rfl
  have q:P (.bool (es.all (aJ n)&&jW (es.map toI))):=q
  refine aL (A:=True) ⟨by omega,.imm,λi ys=>ys=(es.take i).map λd=>PyData.bool (aJ n d),rfl,λi d ys hd hy=>?_,λys hy=>?_⟩
  ·subst hy
   by_cases hi:bU d=true
   ·have en:∀k,norm k d=.imm:=λk=>ŗ hi
    unfold gNm
    simp only[en]
    exact aH (B:=True) ⟨n,d,rfl,rfl,(u6 _ hd).symm⟩
   ·have en:∀k,norm k d=k:=λk=>Ř hi
    unfold gNm
    simp only[en]
    exact aH (B:=True) ⟨n,d,rfl,rfl,(u6 _ hd).symm⟩
  ·dsimp only at hy
   rw[Ĩ] at hy
   refine⟨es.map (aJ n),by rw[hy,ï];rfl,?_⟩
   rw[List.all_map]
   show if (!es.all (aJ n))=true then _ else _
   cases ha:es.all (aJ n) with
   |false =>
    rw[ha] at q
    exact⟨rfl,q⟩
   |true =>
    rw[ha] at q
    have q:P (.bool (jW (es.map toI))):=q
    have ei:=ints_of ha
    generalize hm:es.map toI=l at q ei
    have hll:l.length<=400:=by rw[←hm,Ã];exact hl
    subst ei
    -- rising
    refine⟨l,rfl,hll,?_,.imm,λi ys=>ys=((l.dropLast.zip (l.drop 1)).take i).map λt=>PyData.bool (decide (t.1<t.2)),rfl,?_,?_⟩
    ·rw[Ã,Ÿ,List.length_dropLast]
     omega
    ·rintro i d ys hd rfl
     obtain⟨t,ht,rfl⟩:=kJ hd
     exact aH (B:=True) ⟨.int t.1,rfl,.int t.2,rfl,rfl,(u6 _ ht).symm⟩
    rintro ys rfl
    refine⟨(l.dropLast.zip (l.drop 1)).map λt=>decide (t.1<t.2),?_,rfl,?_⟩
    ·rw[Ã,Ĩ,ï]
     rfl
    ·rw[List.all_map]
     rw[uq] at q
     exact q
 |tuple es=>rcases bB (.tuple es) with e|e <;> rw[e] <;> exact aH (B:=True) ⟨rfl,q⟩
 |_=>exact aH (B:=True) ⟨rfl,q⟩
def Vv:FnScope ["n","thing"] ["n","thing"] (aj (top 21)):=zC
def DW(F:Fun K "is_proper_set" "is_proper_set" (top 21) f fd)(B:ĝ mg)(R:Ü P w K mg base 3 "is_rising" ["limit","thing"] (spD pC)):FnOk P w K mg base CX0 4 f fd ["n","thing"] (spD pF):=by
 refine F.ok Vv Ĕ (λcdv A outer s H vs Q E hr h=>?_)
 refine⟨_,bF (bV (mO (dc R hr (aA (dv 0) (aA (dv 1) aK))) (cF (BZ bD (qu B.len (aA (dv 1) aK)) (dv 0))))),aR h ?_⟩
 rintro ds P ⟨n,d,rfl,hf,q⟩
 refine⟨[.im (.int n),aB d],rfl,?_⟩
 have q:P (.bool (yM n d&&Um n d)):=q
 cases d with
 |list es =>
  refine⟨n,.list es,rfl,hf,bQ (λc=>?_) (λc=>?_)⟩
  ·rw[c] at q
   have q:P (.bool (decide ((1:Int)<=(es.length:Nat))&&decide (((es.length:Nat):Int)<n))):=q
   show if decide ((1:Int)<=(es.length:Nat))=true then _ else _
   refine bQ (λc1=>⟨rfl,?_⟩) (λc1=>⟨rfl,?_⟩)
   ·rw[c1] at q
    exact q
   ·have c1:decide ((1:Int)<=(es.length:Nat))=false:=by simpa using c1
    rw[c1] at q
    exact q
  ·have c:yM n (.list es)=false:=by simpa using c
   rw[c] at q
   exact⟨rfl,q⟩
 |tuple es=>rcases bB (.tuple es) with e|e <;> rw[e] <;> exact⟨n,.tuple es,rfl,hf,aL (A:=True) ⟨rfl,q⟩⟩
 |_=>exact⟨n,_,rfl,hf,aL (A:=True) ⟨rfl,q⟩⟩
def Vz:FnScope ["web","thing"] ["web","thing"] (aj (top 22)):=zC
def wW(F:Fun K "check_set" "check_set" (top 22) f fd)(PS:Ü P w K mg base 4 "is_proper_set" ["n","thing"] (spD pF)):FnOk P w K mg base CX0 5 f fd ["web","thing"] (spD Jx):=by
 refine F.ok Vz Ĕ (λcdv A outer s H vs Q E hr h=>?_)
 refine⟨_,bF (tL (jj (gA (dc PS hr (aA (jG (dv 0) bD (λ_ _=>rfl)) (aA (dv 1) aK))))) (bF JF) nu),aR h ?_⟩
 rintro ds P ⟨n,us,l,rfl,hP,q⟩
 refine⟨[.im (au n us),.sh (.list (l.map Í))],?_,?_⟩
 ·show [aB (au n us),aB (.list (l.map Í))]=_
  rw[Ģ]
  rfl
 refine⟨.int n,rfl,n,_,rfl,xV (by have:=hP.few;have:=hP.n16;omega),?_⟩
 show if (!aO n (.list (l.map Í)))=true then _ else _
 rw[gw hP]
 exact aL (A:=False) q
def Tq:FnScope ["tie","some"] ["tie","some"] (aj (top 24)):=zC
def fLv(ds:List D)(P:D->Prop):Prop:=∃(t:Tie) (e:List D) (l:List Int),ds=[.tuple (.int t.1::.int t.2::e),.list (l.map Í)]/\cX e=true/\P (.bool (lv l t))
def DX(F:Fun K "leaves" "leaves" (top 24) f fd):FnOk P w K mg base CX0 1 f fd ["tie","some"] (spD fLv):=by
 refine F.ok Tq Ĕ (λcdv A outer s H vs Q E hr h=>?_)
 refine⟨_,bF (bV (T6 (N7 hr.units (jG (dv 0) bD (λ_ _=>rfl)) (dv 1)) (N7 hr.units (jG (dv 0) bD (λ_ _=>rfl)) (dv 1)))),aR h ?_⟩
 rintro ds P ⟨t,ee,l,rfl,im,q⟩
 refine⟨[.im (.tuple (.int t.1::.int t.2::ee)),.sh (.list (l.map Í))],?_,?_⟩
 ·show [aB (.tuple (.int t.1::.int t.2::ee)),_]=_
  have e:aB (.tuple (.int t.1::.int t.2::ee))=.im (.tuple (.int t.1::.int t.2::ee)):=if_pos (show(true&&(true&&cX ee))=true by rw[im];rfl)
  rw[e]
  rfl
 refine⟨.int t.1,dB (xs:=Í t.1::.int t.2::ee) (j:=0) rfl,rfl,o8 l,.int t.2,dB (xs:=Í t.1::.int t.2::ee) (j:=1) rfl,rfl,o8 l,rfl,?_⟩
 show P (.bool (!decide ((((l.map Í).any λe=>Ē e (.int t.1)):Bool)=((l.map Í).any λe=>Ē e (.int t.2)))))
 rw[Dl.any_ints,Dl.any_ints]
 have e:(!decide ((decide (t.1∈l):Bool)=decide (t.2∈l)))=lv l t:=by
  unfold lv
  cases decide (t.1∈l) <;> cases decide (t.2∈l) <;> rfl
 rw[e]
 exact q
def Vy:FnScope ["web","some"] ["web","some"] (aj (top 25)):=zC
def V5:(["tie","web","some"]:List Str).Nodup:=by decide +kernel
def QG(F:Fun K "ties_that_leave" "ties_that_leave" (top 25) f fd)(CH:Ü P w K mg base 5 "check_set" ["web","thing"] (spD Jx))(LV:Ü P w K mg base 1 "leaves" ["tie","some"] (spD fLv)):FnOk P w K mg base CX0 6 f fd ["web","some"] (spD UW):=by
 refine F.ok Vy Ĕ (λcdv A outer s H vs Q E hr h=>?_)
 refine⟨_,dU (jr (dc CH hr (aA (dv 0) (aA (dv 1) aK)))) (bF (bV (eV ["tie"] rfl (iV (jG (dv 0) bD (λ_ _=>rfl))) (λc=>dW (dO (i:=0) V5 rfl (Ń rfl)))
  (λc=>dR (gA (dc LV hr (aA (dv 0) (aA (dv 2) aK))))) (λc=>dv 0)))),aR h ?_⟩
 rintro ds P ⟨n,us,l,rfl,hP,hl,q⟩
 refine⟨[.im (au n us),.sh (.list (l.map Í))],?_,n,us,l,rfl,hP,?_⟩
 ·show [aB (au n us),aB (.list (l.map Í))]=_
  rw[Ģ]
  rfl
 refine⟨.tuple (us.map pD),rfl,by rw[Ã];omega,.imm,λi ys=>ys=((us.take i).filter (lv l)).map pD,rfl,?_,?_⟩
 ·rintro i d ys hd rfl
  obtain⟨t,ht,rfl⟩:=kJ hd
  refine⟨t,[],l,rfl,rfl,?_⟩
  show if lv l t=true then _ else _
  have sn:=M4 (lv l) pD ht
  cases hb:lv l t with
  |true =>
   rw[hb,if_pos rfl] at sn
   exact aH (B:=True) ⟨rfl,sn.symm⟩
  |false =>
   rw[hb,if_neg É,í] at sn
   exact aL (A:=True) sn.symm
 ·rintro ys rfl
  refine⟨rfl,?_⟩
  rw[take_all us (by rw[Ã];exact Ì _)]
  exact q
def Vx:FnScope ["web","some"] ["web","some"] (aj (top 26)):=zC
def Ld(F:Fun K "leaving" "leaving" (top 26) f fd)(B:ĝ mg)(TL:Ü P w K mg base 6 "ties_that_leave" ["web","some"] (spD UW)):FnOk P w K mg base CX0 7 f fd ["web","some"] (spD tH):=by
 refine F.ok Vx Ĕ (λcdv A outer s H vs Q E hr h=>?_)
 refine⟨_,bF (bV (qu B.len (aA (dc TL hr (aA (dv 0) (aA (dv 1) aK))) aK))),aR h ?_⟩
 rintro ds P ⟨n,us,l,rfl,hP,hl,q⟩
 refine⟨[.im (au n us),.sh (.list (l.map Í))],?_,n,us,l,rfl,hP,hl,rfl,?_⟩
 ·show [aB (au n us),aB (.list (l.map Í))]=_
  rw[Ģ]
  rfl
 ·show P (.int (((us.filter (lv l)).map pD).length:Nat))
  rw[Ã]
  exact q
def Vw:FnScope ["web","falls","some"] ["web","falls","some"] (aj (top 27)):=zC
def Lb(F:Fun K "need" "need" (top 27) f fd)(B:ĝ mg)(LV:Ü P w K mg base 7 "leaving" ["web","some"] (spD tH)):FnOk P w K mg base CX0 8 f fd ["web","falls","some"] (spD Jw):=by
 refine F.ok Vw Ĕ (λcdv A outer s H vs Q E hr h=>?_)
 refine⟨_,bF (bV (KZ rfl B.max (aA (ql (QB (dv 1) bD) (dc LV hr (aA (dv 0) (aA (dv 2) aK)))) (aA bD aK)))),aR h ?_⟩
 rintro ds P ⟨n,us,l,fa,rfl,hP,hl,q⟩
 refine⟨[.im (au n us),.im (.int fa),.sh (.list (l.map Í))],?_,n,us,l,rfl,hP,hl,rfl,q⟩
 show [aB (au n us),aB (.int fa),aB (.list (l.map Í))]=_
 rw[Ģ]
 rfl
end
inductive Tr where
 |tri (k:Int) (a b:Tr)
 |bar (l:List Int)
 |wts (rs:List (List Int×Int))
abbrev Rw:=List Int×Int
def rwD(r:Rw):D:=.tuple [iD r.1,.int r.2]
def Tr.D:Tr->Dl.D
 |.tri k a b=>.tuple [.str "try",.int k,a.D,b.D]
 |.bar l=>.tuple [.str "barred",iD l]
 |.wts rs=>.tuple [.str "weights",.list (rs.map rwD)]
def Wk(n:Int)(rs:List Rw):Prop:=rs.length<=4/\∀r∈rs,Proper n r.1/\1<=r.2/\r.2<=10 ^ 29
def Tr.Ok(n:Int)(m:Nat):Nat->Tr->Prop
 |d+1,.tri k a b=>0<=k/\k<(m:Int)/\a.Ok n m d/\b.Ok n m d
 |0,.tri _ _ _=>False
 |_,.bar l=>Proper n l
 |_,.wts rs=>Wk n rs
abbrev oA(os:List Off)(k:Int):Off:=os.getD k.toNat (0,0,0)
def lvN(us:List Tie)(l:List Int):Nat:=(us.filter (lv l)).length
def ofN(os:List Off)(ks l:List Int):Nat:=(ks.filter λk=>lv l (tO (oA os k))).length
def lack(us:List Tie)(os:List Off)(ks l:List Int):Int:=if (2:Int) - (lvN us l:Nat) - (ofN os ks l:Nat) > 0 then 2 - (lvN us l:Nat) - (ofN os ks l:Nat) else 0
def wOn(o:Off)(rs:List Rw):Int:=((rs.filter λr=>lv r.1 (tO o)).map (·.2)).sum
def cst(os:List Off)(ks:List Int):Int:=(ks.map λk=>(oA os k).2.2).sum
def d8(m:Nat):List Int:=(á m).map λi=>0+((i:Nat):Int)
def cY(m:Nat)(tk lf:List Int):List Int:=(d8 m).filter λk=>!decide (k∈tk)&&!decide (k∈lf)
def Dz(m:Nat)(lf:List Int):List Int:=(d8 m).filter λk=>!decide (k∈lf)
def hL(us:List Tie)(os:List Off)(num:Int):Tr->List Int->List Int->Bool
 |.tri k a b,tk,lf=>!decide (k∈tk++lf)&&(hL us os num a (tk++[k]) lf&&hL us os num b tk (lf++[k]))
 |.bar l,_,lf=>decide (0<lack us os (Dz os.length lf) l)
 |.wts rs,tk,lf=>((cY os.length tk lf).all λk=>decide (wOn (oA os k) rs<=(oA os k).2.2))&&decide (num<=cst os tk+(rs.map λr=>r.2 * lack us os tk r.1).sum)
structure At41(us:List Tie)(os:List Off)(num:Int)(tk lf:List Int)(ws:List Tie)(free:List Int)(ask:Int):Prop where
 nd:tk.Nodup
 rg:∀k∈tk,0<=k/\k<((os.length:Nat):Int)
 ap:∀k∈tk,k∉lf
 ws:ws.Perm (us++(dI os tk).map mmT)
 fr:free=cY os.length tk lf
 as:ask=num - cst os tk
def UL(ds:List D)(P:D->Prop):Prop:=∃(o:Off) (rs:List Rw),ds=[oD o,.list (rs.map rwD)]/\rs.length<=40/\P (.int (wOn o rs))
def Q5(us vs:List Tie)(l:List Int):lvN (us++vs) l=lvN us l+lvN vs l:=by
 unfold lvN
 rw[ź,Ð]
def Ly{us vs:List Tie}(h:us.Perm vs)(l:List Int):lvN us l=lvN vs l:=(h.filter (lv l)).length_eq
def Q0(os:List Off)(ks l:List Int):lvN ((dI os ks).map mmT) l=ofN os ks l:=by
 unfold lvN ofN
 rw[RB]
 unfold dI
 rw[List.filter_map,Ã]
 rfl
def kW{us ws:List Tie}{os:List Off}{ks:List Int}(h:ws.Perm (us++(dI os ks).map mmT))(l:List Int):lvN ws l=lvN us l+ofN os ks l:=by
 rw[Ly h,Q5,Q0]
def Ja(us:List Tie)(os:List Off)(l:List Int):(if (0:Int) > 1+1 - (((us.filter (lv l)).length:Nat):Int) then 0 else 1+1 - (((us.filter (lv l)).length:Nat):Int))=lack us os [] l:=by
 unfold lack
 show _=if (2:Int) - ((lvN us l:Nat):Int) - ((0:Nat):Int) > 0 then 2 - ((lvN us l:Nat):Int) - ((0:Nat):Int) else 0
 unfold lvN
 split <;> split <;> omega
def I9{us ys:List Tie}{os:List Off}{ks l:List Int}(h:lvN ys l=lvN us l+ofN os ks l):decide ((((ys.filter (lv l)).length:Nat):Int)<2)=decide (0<lack us os ks l):=by
 have h:(ys.filter (lv l)).length=lvN us l+ofN os ks l:=h
 rw[ę,decide_eq_true_eq,decide_eq_true_eq,h]
 unfold lack
 split <;> omega
def IW(us:List Tie)(os:List Off)(ks l:List Int):0<=lack us os ks l/\lack us os ks l<=2:=by
 unfold lack
 split <;> omega
def Nx{α:Type}(xs:List α)(f g:α->Int):(xs.map λk=>decide (g k<f k)).any id=!(xs.all λk=>decide (f k<=g k)):=by
 induction xs with
 |nil=>rfl
 |cons x xs ih =>
  rw[û,List.any_cons,ih,ŷ]
  show(decide (g x<f x) || _)=!(decide (f x<=g x)&&_)
  by_cases h:g x<f x
  ·rw[decide_eq_true h,decide_eq_false (by omega)]
   rfl
  ·rw[decide_eq_false h,decide_eq_true (by omega)]
   rfl
def Pj(w:Str):D->Bool
 |.str x=>decide (x=w)
 |_=>false
def jE(w:Str)(c:Int):D->Bool
 |.tuple (e::es)=>decide ((((e::es).length:Nat):Int)=c)&&Pj w e
 |_=>false
def CK(ds:List D)(P:D->Prop):Prop:=∃d w c,ds=[d,.str w,.int c]/\1<=c/\P (.bool (jE w c d))
def at0{x:D}{r:List D}:atI (x::r) 0=some x:=by
 have:atI (x::r) ((0:Nat):Int)=some x:=dB rfl
 exact this
def rwB(n:Int):D->Bool
 |.tuple [a,.int i]=>aO n a&&decide ((1:Int)<=i)
 |_=>false
def Rr{i:Nat}{d:D}{k:Kd}{ρ:List Sl}{Q:List Sl->Prop}(hk:k=.imm\/k=.shr)(h:∀s,(s=.im d\/s=.sh d)->Q (ρ.set i s)):gNm i (norm k d) d ρ Q:=by
 refine h _ ?_
 by_cases hi:bU d=true
 ·rw[ŗ hi];exact .inl rfl
 ·rw[Ř hi]
  try rw[Ř hi]
  rcases hk with rfl|rfl
  ·exact .inl rfl
  ·exact .inr rfl
def Tt{n:Int}{x y:D}(h:aO n x=false):rwB n (.tuple [x,y])=false:=by
 cases y with
 |int i=>show(aO n x&&_)=false;rw[h];rfl
 |_=>rfl
def Ks{n:Int}{x y z:D}{r:List D}:rwB n (.tuple (x::y::z::r))=false:=by cases y <;> rfl
def rJ(n:Int):D->Bool
 |.list es=>es.all (rwB n)
 |_=>false
def Vi(d:D):Prop:=∀a b,d=.tuple [a,b]->Few a
def yu(d:D):Prop:=∀es,d=.list es->es.length<=40/\∀e∈es,Vi e
def Ot(ds:List D)(P:D->Prop):Prop:=∃(n:Int) (us:List Tie) (d:D),ds=[au n us,d]/\Vi d/\P (.bool (rwB n d))
def Oq(ds:List D)(P:D->Prop):Prop:=∃(n:Int) (us:List Tie) (d:D),ds=[au n us,d]/\yu d/\P (.bool (rJ n d))
def wG:∀{l:List Int},jW l=true->l.Pairwise (·<·)
 |[],_=>.nil
 |[a],_=>by simp
 |a::b::r,h=>by
  have h:(decide (a<b)&&jW (b::r))=true:=h
  rw[Î,decide_eq_true_eq] at h
  have ih:=wG h.2
  refine List.pairwise_cons.mpr ⟨λx hx=>?_,ih⟩
  rcases â.mp hx with rfl|hx
  ·exact h.1
  ·have:=(List.pairwise_cons.mp ih).1 x hx
   omega
def pZ{n:Int}{d:D}(n16:n<=16)(h:aO n d=true):∃l:List Int,d=iD l/\Proper n l:=by
 have h0:=h
 unfold aO at h
 rw[Î] at h
 cases d with
 |list es =>
  have h1:(es.all (aJ n)&&jW (es.map toI))=true:=h.1
  rw[Î] at h1
  have h2:(decide ((1:Int)<=(es.length:Nat))&&decide (((es.length:Nat):Int)<n))=true:=h.2
  rw[Î,decide_eq_true_eq,decide_eq_true_eq] at h2
  have ei:=ints_of h1.1
  refine⟨es.map toI,congrArg _ ei,by rw[Ã];omega,by rw[Ã];omega,λx hx=>?_,wG h1.2,n16⟩
  obtain⟨e,he,rfl⟩:=Ă.mp hx
  have hb:=Ą.mp h1.1 e he
  obtain⟨i,rfl⟩:=ju hb
  exact of_decide_eq_true hb
 |_=>cases h.1
def RwG(n:Int)(rs:List Rw):Prop:=rs.length<=40/\∀r∈rs,Proper n r.1/\1<=r.2
def Gv{n:Int}(n16:n<=16):∀{es:List D},es.all (rwB n)=true->∃rs:List Rw,es=rs.map rwD/\∀r∈rs,Proper n r.1/\1<=r.2
 |[],_=>⟨[],rfl,λr hr=>nomatch hr⟩
 |e::es,h=>by
  rw[ŷ,Î] at h
  obtain⟨rs,rfl,hr⟩:=Gv n16 h.2
  obtain⟨a,i,rfl,h1,h2⟩:∃a i,e=.tuple [a,.int i]/\aO n a=true/\1<=i:=by
   have h:=h.1
   unfold rwB at h
   split at h
   ·rw[Î,decide_eq_true_iff] at h
    exact⟨_,_,rfl,h.1,h.2⟩
   ·cases h
  obtain⟨l,rfl,pl⟩:=pZ n16 h1
  refine⟨(l,i)::rs,rfl,λr hr'=>?_⟩
  rcases â.mp hr' with rfl|hr'
  ·exact⟨pl,h2⟩
  ·exact hr r hr'
def Kr{n:Int}{d:D}(n16:n<=16)(few:yu d)(h:rJ n d=true):∃rs:List Rw,d=.list (rs.map rwD)/\RwG n rs:=by
 cases d with
 |list es =>
  obtain⟨rs,rfl,hr⟩:=Gv n16 h
  have:=(few _ rfl).1
  rw[Ã] at this
  exact⟨rs,rfl,this,hr⟩
 |_=>cases h
def M7(ds:List D)(P:D->Prop):Prop:=∃(n:Int) (ws:List Tie) (b:Bool) (os:List Off) (free:List Int) (ask:Int) (d:D),ds=[au n ws,oT b os,iD free,.int ask,d]/\ws.length<=52/\n<=16/\os.length<=8/\free.length<=8/\(∀k∈free,0<=k/\k<((os.length:Nat):Int))/\yu d/\(rJ n d=false->P (.bool false)) /\
 ∀rs,d=.list (rs.map rwD)->RwG n rs->P (.bool ((free.all λk=>decide (wOn (oA os k) rs<=(oA os k).2.2))&&decide (ask<=(rs.map λr=>r.2 * lack ws os [] r.1).sum)))
def vD(ds:List D)(P:D->Prop):Prop:=∃(n:Int) (ws:List Tie) (b:Bool) (os:List Off) (free:List Int) (d:D),ds=[au n ws,oT b os,iD free,d]/\ws.length<=52/\n<=16/\OkN n ws/\os.length<=8/\OkO n os/\jy os.length free/\Few d/\(aO n d=false->P (.bool false))/\∀l,d=iD l->Proper n l->P (.bool (decide (0<lack ws os free l)))
section
variable {P:Program}{w:World}{K:Ñ}{mg:Str->Option Value}{base:Heap}{f:Addr}{fd:FuncData}
def nP:FnScope ["thing","word","count"] ["thing","word","count"] (aj (top 42)):=zC
def wV(F:Fun K "has_form" "has_form" (top 42) f fd)(B:ĝ mg)(m_str:mg "str"=none):FnOk P w K mg base CX0 1 f fd ["thing","word","count"] (spD CK):=by
 refine F.ok nP Ĕ (λcdv A outer s H vs Q E hr h=>?_)
 have nd:=nP.nd
 refine⟨_,Ĝ (ê (Ĺ (Wr.wpt (ŭ (ŧ (Ħ (Wr.bI kit_tuple B.isinstance (Å 0) (Wr.wty rfl B.tuple boot_tuple)))) (Wr.cB (ř hr.units (ļ B.len (À (Å 0) Á)) (Å 2))))) (ã (é ũ)) ú)
  (ã (é (ŝ (Wr.bI Mp B.isinstance (õ (Å 0) Ä) (Wr.wty rfl m_str Dl.boot_str)) (Wr.cF (Wr.zq hr.units (õ (Å 0) Ä) (Å 1))))))),aR h ?_⟩
 rintro ds P ⟨d,w,c,rfl,c1,q⟩
 refine⟨[aB d,.im (.str w),.im (.int c)],rfl,?_⟩
 cases d with
 |tuple es =>
  rcases bB (.tuple es) with e|e
  all_goals
   rw[e]
   show if (!decide (((es.length:Nat):Int)=c))=true then _ else _
   by_cases h:((es.length:Nat):Int)=c
   ·rw[decide_eq_true h]
    refine aL ?_
    match es,h,q with
    |[],h,q=>exact absurd h (by show ¬(0:Int)=c;omega)
    |x::r,h,q =>
     have a0:=at0 (x:=x) (r:=r)
     have q:P (.bool (decide ((((x::r).length:Nat):Int)=c)&&Pj w x)):=q
     rw[decide_eq_true h,Ŝ] at q
     refine⟨x,a0,?_⟩
     cases x with
     |str s=>exact aH (B:=True) ⟨.str s,a0,rfl,q⟩
     |_=>exact aL (A:=True) ⟨rfl,q⟩
   ·rw[decide_eq_false h]
    refine aH ⟨rfl,?_⟩
    match es,h,q with
    |[],h,q=>exact q
    |x::r,h,q =>
     have q:P (.bool (decide ((((x::r).length:Nat):Int)=c)&&Pj w x)):=q
     rw[decide_eq_false h,Bool.false_and] at q
     exact q
 |_=>exact aH (B:=True) ⟨rfl,q⟩
def sI:FnScope ["web","thing"] ["web","thing"] (aj (top 44)):=zC
def Ea(F:Fun K "is_row" "is_row" (top 44) f fd)(B:ĝ mg)(C_is_whole:Ü P w K mg base 1 "is_whole" ["thing"] (spD jK))(C_is_proper_set:Ü P w K mg base 4 "is_proper_set" ["n","thing"] (spD pF)):FnOk P w K mg base CX0 5 f fd ["web","thing"] (spD Ot):=by
 refine F.ok sI Ĕ (λcdv A outer s H vs Q E hr h=>?_)
 have nd:=sI.nd
 refine⟨_,Ĝ (ê (Ĺ (Wr.wpt (ŭ (ŧ (Ħ (Wr.bI kit_tuple B.isinstance (Å 1) (Wr.wty rfl B.tuple boot_tuple)))) (Wr.cB (ř hr.units (ļ B.len (À (Å 1) Á)) Ä)))) (ã (é ũ)) ú)
  (ã (é (ŝ (ĥ C_is_proper_set hr (À (õ (Å 0) Ä) (À (õ (Å 1) Ä) Á))) (ŝ (ĥ C_is_whole hr (À (õ (Å 1) Ä) Á)) (Wr.cF (Wr.wL (õ (Å 1) Ä) Ä))))))),aR h ?_⟩
 rintro ds P ⟨n,us,d,rfl,few,q⟩
 refine⟨[.im (au n us),aB d],by show [aB (au _ us),aB d]=_;rw[Ģ],?_⟩
 cases d with
 |tuple es =>
  rcases bB (.tuple es) with e|e
  all_goals
   rw[e]
   refine aL (A:=True) ?_
   show if (!decide (((es.length:Nat):Int)=2))=true then _ else _
   match es,few,q with
   |[],few,q=>exact aH (B:=True) ⟨rfl,q⟩
   |[x],few,q=>exact aH (B:=True) ⟨rfl,q⟩
   |x::y::z::r,few,q =>
    rw[decide_eq_false (by rw[ç,ç,ç];omega)]
    rw[Ks] at q
    exact aH (B:=True) ⟨rfl,q⟩
   |[x,y],few,q =>
    refine aL (A:=True) ⟨.int n,rfl,x,rfl,n,x,rfl,few x y rfl,?_⟩
    show if aO n x=true then _ else _
    cases hp:aO n x with
    |false =>
     refine aL (A:=True) ⟨rfl,?_⟩
     rw[Tt hp] at q
     exact q
    |true =>
     refine aH (B:=True) ⟨y,rfl,y,rfl,?_⟩
     cases y with
     |int i =>
      refine aH (B:=True) ⟨.int i,rfl,rfl,?_⟩
      have q:P (.bool (aO n x&&decide ((1:Int)<=i))):=q
      rw[hp,Ŝ] at q
      exact q
     |_=>exact aL (A:=True) ⟨rfl,q⟩
 |_=>exact aH (B:=True) ⟨rfl,q⟩
def nR:FnScope ["web","thing"] ["web","thing"] (aj (top 45)):=zC
def rN:(["row","web","thing"]:List Str).Nodup:=by decide +kernel
def wY(F:Fun K "are_rows" "are_rows" (top 45) f fd)(B:ĝ mg)(C_is_row:Ü P w K mg base 5 "is_row" ["web","thing"] (spD Ot)):FnOk P w K mg base CX0 6 f fd ["web","thing"] (spD Oq):=by
 refine F.ok nR Ĕ (λcdv A outer s H vs Q E hr h=>?_)
 have nd:=nR.nd
 refine⟨_,Ĝ (ã (é (ŝ (Wr.bI xJ B.isinstance (Å 1) (Wr.wty rfl B.list boot_list)) (Wr.cF (Wr.mQ rfl B.all Dl.boot_all (À (Wr.eV ["row"] rfl (œ (Å 1)) (λc=>(Ĉ (i:=0) rN rfl zQ)) (λc=>Wr.cC) (λc=>(ĥ C_is_row hr (À (Å 1) (À (Å 0) Á))))) Á)))))),aR h ?_⟩
 rintro ds P ⟨n,us,d,rfl,few,q⟩
 refine⟨[.im (au n us),aB d],by show [aB (au _ us),aB d]=_;rw[Ģ],?_⟩
 cases d with
 |list es =>
  obtain⟨le,fe⟩:=few es rfl
  refine aH (B:=True) ?_
  refine vf es (λd=>d) (λe=>.bool (rwB n e)) .imm (List.map_id' es).symm (by omega) (λe he A B hA=>?_) ?_
  ·refine Rr (.inr rfl) ?_
   rintro s (rfl|rfl) <;> exact aH (B:=B) ⟨n,us,e,rfl,fe e he,rfl,hA⟩
  refine⟨es.map (rwB n),by rw[ï];rfl,rfl,?_⟩
  have e:(es.map (rwB n)).all id=es.all (rwB n):=by rw[List.all_map];rfl
  rw[e]
  exact q
 |tuple es=>rcases bB (.tuple es) with e|e <;> rw[e] <;> exact aL (A:=True) ⟨rfl,q⟩
 |_=>exact aL (A:=True) ⟨rfl,q⟩
def jQ:FnScope ["offer","rows"] ["offer","rows"] (aj (top 46)):=zC
def iI:(["some","weight","offer","rows"]:List Str).Nodup:=by decide +kernel
def uT(F:Fun K "weight_on" "weight_on" (top 46) f fd)(B:ĝ mg)(m_sum:mg "sum"=none)(C_leaves:Ü P w K mg base 1 "leaves" ["tie","some"] (spD fLv)):FnOk P w K mg base CX0 2 f fd ["offer","rows"] (spD UL):=by
 refine F.ok jQ Ĕ (λcdv A outer s H vs Q E hr h=>?_)
 have nd:=jQ.nd
 refine⟨_,Ĝ (ã (é (Wr.j5 rfl m_sum (À (Wr.eV ["some","weight"] rfl (œ (Å 1)) (λc=>(Wr.qZ (n:=2) rfl (Wr.cA (Ĉ (i:=0) iI rfl zQ) (Wr.cA (Ĉ (i:=1) iI rfl zQ) Wr.jt)))) (λc=>(Wr.dR (Ħ (ĥ C_leaves hr (À (Å 2) (À (Å 0) Á)))))) (λc=>(Å 1))) Á)))),aR h ?_⟩
 rintro ds P ⟨o,rs,rfl,lr,q⟩
 refine⟨[.im (oD o),.sh (.list (rs.map rwD))],rfl,?_⟩
 refine sX rs rwD (λr=>lv r.1 (tO o)) (λr=>.int r.2) .imm rfl (by omega) (λr hr A B hA hB=>⟨rfl,Jh λs0 s1 e0 e1=>?_⟩) ?_
 ·have e0:s0=.sh (iD r.1):=e0
  have e1:s1=.im (.int r.2):=e1
  subst e0 e1
  refine⟨tO o,[.int o.2.2],r.1,rfl,rfl,?_⟩
  show if lv r.1 (tO o)=true then _ else _
  cases h:lv r.1 (tO o) with
  |true=>exact aH (B:=B) ⟨rfl,hA h⟩
  |false=>exact aL (A:=True) (hB h)
 ·exact⟨(rs.filter λr:Rw=>lv r.1 (tO o)).map λr:Rw=>r.2,by rw[ï];rfl,rfl,q⟩
def gU:FnScope ["made","offers","free","asked","rows"] ["made","offers","free","asked","rows"] (aj (top 47)):=zC
def kh:(["number","made","offers","free","asked","rows"]:List Str).Nodup:=by decide +kernel
def eY:(["some","weight","made","offers","free","asked","rows"]:List Str).Nodup:=by decide +kernel
def oG(F:Fun K "weights_hold" "weights_hold" (top 47) f fd)(B:ĝ mg)(m_any:mg "any"=none)(m_sum:mg "sum"=none)(C_are_rows:Ü P w K mg base 6 "are_rows" ["web","thing"] (spD Oq))(C_weight_on:Ü P w K mg base 2 "weight_on" ["offer","rows"] (spD UL))(C_need:Ü P w K mg base 8 "need" ["web","falls","some"] (spD Jw)):FnOk P w K mg base CX0 9 f fd ["made","offers","free","asked","rows"] (spD M7):=by
 refine F.ok gU Ĕ (λcdv A outer s H vs Q E hr h=>?_)
 have nd:=gU.nd
 refine⟨_,Ĝ (ê (Ĺ (ŧ (Ħ (ĥ C_are_rows hr (À (Å 0) (À (Å 4) Á))))) (ã (é ũ)) ú)
  (ê (Ĺ (Ħ (Wr.zu rfl m_any (À (Wr.eV ["number"] rfl (œ (Å 2)) (λc=>(Ĉ (i:=0) kh rfl zQ)) (λc=>Wr.cC) (λc=>(Wr.BX (ĥ C_weight_on hr (À (õ (Å 2) (Å 0)) (À (Å 5) Á))) (õ (õ (Å 2) (Å 0)) Ä)))) Á))) (ã (é ũ)) ú)
  (ã (é (Wr.wL (Wr.j5 rfl m_sum (À (Wr.eV ["some","weight"] rfl (œ (Å 4)) (λc=>(Wr.qZ (n:=2) rfl (Wr.cA (Ĉ (i:=0) eY rfl zQ) (Wr.cA (Ĉ (i:=1) eY rfl zQ) Wr.jt)))) (λc=>Wr.cC) (λc=>(Wr.qj (Å 1) (ĥ C_need hr (À (Å 2) (À Ä (À (Å 0) Á))))))) Á)) (Å 3)))))),aR h ?_⟩
 rintro ds P ⟨n,ws,b,os,free,ask,d,rfl,lw,n16,lo,lf,rf,few,q0,q1⟩
 cases hr9:rJ n d with
 |false =>
  refine⟨[.im (au n ws),if b=true then .sh (oT true os) else .im (oT false os),.sh (iD free),.im (.int ask),aB d],by show [aB (au _ ws),aB (oT b os),_,_,aB d]=_;rw[Ģ,cZ];rfl,?_⟩
  rcases bB d with e|e
  all_goals
   rw[e]
   refine⟨n,ws,d,rfl,few,?_⟩
   show if (!rJ n d)=true then _ else _
   rw[hr9]
   exact aH (B:=True) ⟨rfl,q0 hr9⟩
 |true =>
 obtain⟨rs,rfl,ok⟩:=Kr n16 few hr9
 have q:=q1 rs rfl ok
 have lr:=ok.1
 refine⟨[.im (au n ws),if b=true then .sh (oT true os) else .im (oT false os),.sh (iD free),.im (.int ask),.sh (.list (rs.map rwD))],by show [aB (au _ ws),aB (oT b os),_,_,_]=_;rw[Ģ,cZ];rfl,?_⟩
 cases b
 all_goals
  refine⟨n,ws,.list (rs.map rwD),rfl,few,?_⟩
  show if (!rJ n (.list (rs.map rwD)))=true then _ else _
  rw[hr9]
  refine aL (A:=True) ?_
  refine vf free Í (λk=>.bool (decide ((oA os k).2.2<wOn (oA os k) rs))) .imm rfl (by omega) (λk hk A B hA=>aH (B:=B) ⟨oD (oA os k),iG (rf k hk).1 (rf k hk).2,oA os k,rs,rfl,lr,oD (oA os k),iG (rf k hk).1 (rf k hk).2,.int (oA os k).2.2,rfl,rfl,hA⟩) ?_
  refine⟨free.map λk=>decide ((oA os k).2.2<wOn (oA os k) rs),by rw[ï];rfl,?_⟩
  show if (free.map λk=>decide ((oA os k).2.2<wOn (oA os k) rs)).any id=true then _ else _
  rw[Nx free (λk=>wOn (oA os k) rs) (λk=>(oA os k).2.2)]
  cases h:free.all λk=>decide (wOn (oA os k) rs<=(oA os k).2.2)
  ·rw[h] at q
   exact aH (B:=True) ⟨rfl,q⟩
  ·rw[h] at q
   refine aL (A:=True) ?_
   refine vf rs rwD (λr=>.int (r.2 * lack ws os [] r.1)) .imm rfl (by omega) (λr hr A B hA=>⟨rfl,Jh λs0 s1 e0 e1=>?_⟩) ?_
   ·have e0:s0=.sh (iD r.1):=e0
    have e1:s1=.im (.int r.2):=e1
    subst e0 e1
    refine aH (B:=B) ?_
    refine⟨n,ws,r.1,1,rfl,(ok.2 r hr).1,by omega,?_⟩
    have lk:=Ja ws os r.1
    have lr:=IW ws os [] r.1
    rw[lk]
    exact⟨.inr ⟨by omega,by omega⟩,rfl,hA⟩
   ·exact⟨rs.map λr:Rw=>r.2 * lack ws os [] r.1,by rw[ï];rfl,rfl,q⟩
def Bl:FnScope ["made","offers","free","thing"] ["made","offers","free","thing"] (aj (top 48)):=zC
def Li(F:Fun K "bars" "bars" (top 48) f fd)(B:ĝ mg)(C_leaving:Ü P w K mg base 7 "leaving" ["web","some"] (spD tH))(C_with_offers:Ü P w K mg base 2 "with_offers" ["web","offers","numbers"] (spD eZ))(C_is_proper_set:Ü P w K mg base 4 "is_proper_set" ["n","thing"] (spD pF)):FnOk P w K mg base CX0 8 f fd ["made","offers","free","thing"] (spD vD):=by
 refine F.ok Bl Ĕ (λcdv A outer s H vs Q E hr h=>?_)
 have nd:=Bl.nd
 refine⟨_,Ĝ (ã (é (ŝ (ĥ C_is_proper_set hr (À (õ (Å 0) Ä) (À (Å 3) Á))) (Wr.cF (Wr.BP (ĥ C_leaving hr (À (ĥ C_with_offers hr (À (Å 0) (À (Å 1) (À (Å 2) Á)))) (À (Å 3) Á))) Ä))))),aR h ?_⟩
 rintro ds P ⟨n,ws,b,os,free,d,rfl,lw,n16,okw,lo,oko,rf,few,q0,q1⟩
 cases hp9:aO n d with
 |false =>
  refine⟨[.im (au n ws),aB (oT b os),.sh (iD free),aB d],by show [aB (au _ ws),_,_,_]=_;rw[Ģ];rfl,?_⟩
  rcases bB d with e|e
  all_goals
   rw[e]
   refine⟨.int n,rfl,n,d,rfl,few,?_⟩
   show if aO n d=true then _ else _
   rw[hp9]
   exact aL (A:=True) ⟨rfl,q0 hp9⟩
 |true =>
 obtain⟨l,rfl,pl⟩:=pZ n16 hp9
 have q:=q1 l rfl pl
 refine⟨[.im (au n ws),aB (oT b os),.sh (iD free),.sh (iD l)],by show [aB (au _ ws),_,_,_]=_;rw[Ģ];rfl,?_⟩
 refine⟨.int n,rfl,n,iD l,rfl,xV (by have:=pl.few;have:=pl.n16;omega),?_⟩
 show if aO n (iD l)=true then _ else _
 rw[show aO n (iD l)=true from gw pl]
 refine aH (B:=True) ?_
 have lfr:=rf.len
 rcases bB (oT b os) with e|e
 all_goals
  rw[e]
  refine⟨n,ws,b,os,free,rfl,lw,n16,okw,lo,oko,rf,λys hp=>⟨n,ys,l,rfl,pl,?_,rfl,?_⟩⟩
  ·have:=hp.length_eq
   rw[Ð,Ã] at this
   unfold dI at this
   rw[Ã] at this
   omega
  ·show P (.bool (decide ((((ys.filter (lv l)).length:Nat):Int)<2)))
   rw[I9 (kW hp l)]
   exact q
end
def jV{m:Nat}{k:Int}:k∈d8 m↔0<=k/\k<(m:Int):=by
 unfold d8
 rw[List.mem_map]
 constructor
 ·rintro⟨i,hi,rfl⟩
  have:=Ķ.mp hi
  omega
 ·rintro⟨h0,h1⟩
  exact⟨k.toNat,Ķ.mpr (by omega),by omega⟩
def cG(m:Nat):(d8 m).Pairwise (·<·):=by
 unfold d8
 rw[List.pairwise_map]
 exact List.pairwise_lt_range.imp λh=>by omega
def cg{m:Nat}{tk lf:List Int}{k:Int}:k∈cY m tk lf↔(0<=k/\k<(m:Int))/\k∉tk/\k∉lf:=by
 unfold cY
 rw[ġ,jV,Î,ī,ī,decide_eq_false_iff_not,decide_eq_false_iff_not]
def jq(m:Nat)(tk lf:List Int):jy m (cY m tk lf):=⟨(cG m).filter _,λk hk=>(cg.mp hk).1⟩
def MN(m:Nat)(tk lf:List Int)(k:Int):cY m tk (lf++[k])=(cY m tk lf).filter λx=>!decide (x=k):=by
 unfold cY
 rw[List.filter_filter]
 refine List.filter_congr λx _=>?_
 rw[ę]
 simp only[Î,ī,decide_eq_false_iff_not,Ø,Ò]
 constructor
 ·exact λh=>⟨λe=>h.2 (.inr e),h.1,λe=>h.2 (.inl e)⟩
 ·exact λh=>⟨h.2.1,λe=>e.elim h.2.2 h.1⟩
def MK(m:Nat)(tk lf:List Int)(k:Int):cY m (tk++[k]) lf=(cY m tk lf).filter λx=>!decide (x=k):=by
 unfold cY
 rw[List.filter_filter]
 refine List.filter_congr λx _=>?_
 rw[ę]
 simp only[Î,ī,decide_eq_false_iff_not,Ø,Ò]
 constructor
 ·exact λh=>⟨λe=>h.1 (.inr e),λe=>h.1 (.inl e),h.2⟩
 ·exact λh=>⟨λe=>e.elim h.2.1 h.1,h.2.2⟩
def At41.per{us:List Tie}{os:List Off}{num:Int}{tk lf:List Int}{ws:List Tie}{free:List Int}{ask:Int}(h:At41 us os num tk lf ws free ask):(tk++free).Perm (Dz os.length lf):=by
 refine(List.perm_ext_iff_of_nodup ?_ ?_).mpr λk=>?_
 ·refine List.nodup_append.mpr ⟨h.nd,?_,λa ha b hb e=>?_⟩
  ·rw[h.fr]
   exact uz (jq _ _ _).1
  ·rw[h.fr] at hb
   subst e
   exact(cg.mp hb).2.1 ha
 ·exact uz ((cG _).filter _)
 ·unfold Dz
  rw[Ø,h.fr,cg,ġ,jV,ī,decide_eq_false_iff_not]
  constructor
  ·rintro(a|a)
   ·exact⟨h.rg k a,h.ap k a⟩
   ·exact⟨a.1,a.2.2⟩
  ·rintro⟨a,b⟩
   by_cases c:k∈tk
   ·exact .inl c
   ·exact .inr ⟨a,c,b⟩
def At41.wl{us:List Tie}{os:List Off}{num:Int}{tk lf:List Int}{ws:List Tie}{free:List Int}{ask:Int}(h:At41 us os num tk lf ws free ask)(lu:us.length<=40)(lo:os.length<=8):ws.length<=52:=by
 have a:=h.ws.length_eq
 have b:=xg h.nd h.rg
 unfold dI at a
 rw[Ð,Ã,Ã] at a
 omega
def Cj{n:Int}{os:List Off}{ks:List Int}(ok:OkO n os)(h:∀k∈ks,0<=k/\k<((os.length:Nat):Int)):OkN n (dI os ks):=λt ht=>by
 obtain⟨k,hk,rfl⟩:=Ă.mp ht
 exact zJ (ks:=[k]) ok ⟨ż _ _,λx hx=>by rw[Ò.mp hx];exact h k hk⟩ _ (Ă.mpr ⟨k,by simp,rfl⟩)
def At41.ok{us:List Tie}{os:List Off}{num:Int}{tk lf:List Int}{ws:List Tie}{free:List Int}{ask:Int}{n:Int}(h:At41 us os num tk lf ws free ask)(ou:OkN n us)(oo:OkO n os):OkN n ws:=λt ht =>
 (ou.app (Ih (Cj oo h.rg))) t (h.ws.mem_iff.mp ht)
def At41.left{us:List Tie}{os:List Off}{num:Int}{tk lf:List Int}{ws:List Tie}{free:List Int}{ask k:Int}(h:At41 us os num tk lf ws free ask)(hk:k∈free):At41 us os num tk (lf++[k]) ws (free.filter λx=>!decide (x=k)) ask:=by
 have hk:=hk
 rw[h.fr,cg] at hk
 refine⟨h.nd,h.rg,λx hx e=>?_,h.ws,by rw[h.fr,MN],h.as⟩
 rcases Ø.mp e with e|e
 ·exact h.ap x hx e
 ·rw[Ò.mp e] at hx
  exact hk.2.1 hx
def At41.take{us:List Tie}{os:List Off}{num:Int}{tk lf:List Int}{ws ys:List Tie}{free:List Int}{ask k:Int}(h:At41 us os num tk lf ws free ask)(hk:k∈free)(hp:ys.Perm (ws++(dI os [k]).map mmT)):At41 us os num (tk++[k]) lf ys (free.filter λx=>!decide (x=k)) (ask - (oA os k).2.2):=by
 have hk:=hk
 rw[h.fr,cg] at hk
 refine⟨List.nodup_append.mpr ⟨h.nd,by simp,λa ha b hb e=>?_⟩,λx hx=>?_,λx hx=>?_,?_,by rw[h.fr,MK],?_⟩
 ·rw[Ò.mp hb] at e
  subst e
  exact hk.2.1 ha
 ·rcases Ø.mp hx with e|e
  ·exact h.rg x e
  ·rw[Ò.mp e]
   exact hk.1
 ·rcases Ø.mp hx with e|e
  ·exact h.ap x e
  ·rw[Ò.mp e]
   exact hk.2.2
 ·refine hp.trans ?_
  refine(h.ws.append_right _).trans ?_
  unfold dI
  rw[ó,ó,List.append_assoc]
 ·rw[h.as]
  unfold cst
  rw[ó,List.sum_append]
  show num - _ - _=num - (_+((oA os k).2.2+0))
  omega
def Ls(os:List Off)(a b l:List Int):ofN os (a++b) l=ofN os a l+ofN os b l:=by
 unfold ofN
 rw[ź,Ð]
def w5{os:List Off}{a b:List Int}(h:a.Perm b)(l:List Int):ofN os a l=ofN os b l:=(h.filter _).length_eq
def At41.Vb{us:List Tie}{os:List Off}{num:Int}{tk lf:List Int}{ws:List Tie}{free:List Int}{ask:Int}(h:At41 us os num tk lf ws free ask)(l:List Int):lack ws os free l=lack us os (Dz os.length lf) l:=by
 have a:=kW h.ws l
 have b:=w5 (os:=os) h.per l
 rw[Ls] at b
 unfold lack
 rw[a,←b]
 congr 1
 all_goals first|omega|(rw[eq_iff_iff];omega)
def At41.weigh{us:List Tie}{os:List Off}{num:Int}{tk lf:List Int}{ws:List Tie}{free:List Int}{ask:Int}(h:At41 us os num tk lf ws free ask)(l:List Int):lack ws os [] l=lack us os tk l:=by
 have a:=kW h.ws l
 have b:ofN os [] l=0:=rfl
 unfold lack
 rw[a,b]
 congr 1
 all_goals first|omega|(rw[eq_iff_iff];omega)
def one_le(m:Nat):1<=m+1:=Nat.le_add_left 1 m
inductive Bt where
 |tri (x:D) (a b:Bt)
 |bar (s:D)
 |wts (r:D)
 |odd (d:D)
def Bt.D:Bt->Dl.D
 |.tri x a b=>.tuple [.str "try",x,a.D,b.D]
 |.bar s=>.tuple [.str "barred",s]
 |.wts r=>.tuple [.str "weights",r]
 |.odd d=>d
def Bt.Ok:Nat->Bt->Prop
 |d+1,.tri _ a b=>a.Ok d/\b.Ok d
 |0,.tri _ _ _=>False
 |_,.bar s=>Few s
 |_,.wts r=>yu r
 |_,.odd d=>jE "try" 4 d=false/\jE "barred" 2 d=false/\jE "weights" 2 d=false
def Gq:D->List Int
 |.list es=>es.map toI
 |_=>[]
def Qe:D->Rw
 |.tuple [a,.int i]=>(Gq a,i)
 |_=>([],0)
def wF:D->List Rw
 |.list es=>es.map Qe
 |_=>[]
def Bj(l:List Int):Gq (iD l)=l:=by
 show(l.map Í).map toI=l
 rw[ï]
 exact List.map_id' l
def Gy(rs:List Rw):wF (.list (rs.map rwD))=rs:=by
 show(rs.map rwD).map Qe=rs
 rw[ï]
 have:rs.map (Qe ∘ rwD)=rs.map id:=Ő λr _=>by
  show(Gq (iD r.1),r.2)=r
  rw[Bj]
 rw[this,List.map_id]
def Kq{n:Int}{rs:List Rw}(h:RwG n rs):rJ n (.list (rs.map rwD))=true:=Ą.mpr λe he=>by
 obtain⟨r,hr,rfl⟩:=Ă.mp he
 obtain⟨h1,h2⟩:=h.2 r hr
 show(aO n (iD r.1)&&decide ((1:Int)<=r.2))=true
 rw[show aO n (iD r.1)=true from gw h1,decide_eq_true h2]
 rfl
def gB(n:Int)(us:List Tie)(os:List Off)(num:Int):Bt->List Int->List Int->Bool
 |.tri (.int k) a b,tk,lf=>decide (k∈cY os.length tk lf)&&(gB n us os num a (tk++[k]) lf&&gB n us os num b tk (lf++[k]))
 |.tri _ _ _,_,_=>false
 |.bar s,_,lf=>aO n s&&decide (0<lack us os (Dz os.length lf) (Gq s))
 |.wts r,tk,lf=>rJ n r&&(((cY os.length tk lf).all λk=>decide (wOn (oA os k) (wF r)<=(oA os k).2.2))&&decide (num<=cst os tk+((wF r).map λr=>r.2 * lack us os tk r.1).sum))
 |.odd _,_,_=>false
def uX(d:D):norm .shr d=.imm\/norm .shr d=.shr:=by
 by_cases h:bU d=true
 ·exact .inl (ŗ h)
 ·exact .inr (Ř h)
def lK{P:DEnds}{ρ:List Sl}{i:Nat}{k:Kd}{d:D}(hk:k=.imm\/k=.shr)(h:∀s,(s=.im d\/s=.sh d)->P.nx (ρ.set i s)):(match Dl.stK none ρ i (norm k d) d with
  |some s=>P.nx (ρ.set i s)
  |none=>False):=by
 rcases hk with rfl|rfl
 ·exact h _ (.inl rfl)
 ·by_cases hi:bU d=true
  ·rw[ŗ hi];exact h _ (.inl rfl)
  ·rw[Ř hi];exact h _ (.inr rfl)
def fHo:Nat->List D->(D->Prop)->Prop
 |0,_,_=>False
 |d+1,ds,P=>∃(n:Int) (us ws:List Tie) (b:Bool) (os:List Off) (free:List Int) (ask num:Int) (t:Bt) (tk lf:List Int),ds=[au n ws,oT b os,iD free,.int ask,t.D]/\t.Ok d/\us.length<=40/\n<=16/\OkN n us/\os.length<=8/\OkO n os/\At41 us os num tk lf ws free ask/\P (.bool (gB n us os num t tk lf))
def fTy(e:Nat)(ds:List D)(P:D->Prop):Prop:=∃(d:Nat) (n:Int) (us ws:List Tie) (b:Bool) (os:List Off) (free:List Int) (ask num:Int) (x:D) (t1 t2:Bt) (tk lf:List Int),ds=[au n ws,oT b os,iD free,.int ask,(Bt.tri x t1 t2).D]/\e=d+1/\t1.Ok d/\t2.Ok d/\us.length<=40/\n<=16/\OkN n us/\os.length<=8/\OkO n os/\At41 us os num tk lf ws free ask/\P (.bool (gB n us os num (.tri x t1 t2) tk lf))
section
variable {P:Program}{w:World}{K:Ñ}{mg:Str->Option Value}{base:Heap}{f:Addr}{fd:FuncData}{kk:Nat}
def gj:FnScope ["made","offers","free","asked","tree","tried","rest"] ["made","offers","free","asked","tree"] (aj (top 49)):=zC
def qL:(["number","made","offers","free","asked","tree","tried","rest"]:List Str).Nodup:=by decide +kernel
def K8(F:Fun K "try_holds" "try_holds" (top 49) f fd)(B:ĝ mg)(C_is_whole:Ü P w K mg base 1 "is_whole" ["thing"] (spD jK))(C_holds:Ü P w K mg base (2*kk+10) "holds" ["made","offers","free","asked","tree"] (spD (fHo kk)))(C_with_offers:Ü P w K mg base 2 "with_offers" ["web","offers","numbers"] (spD eZ)):FnOk P w K mg base CX0 (2*kk+11) f fd ["made","offers","free","asked","tree"] (spD (fTy kk)):=by
 refine F.ok gj Ĕ (λcdv A outer s H vs Q E hr h=>?_)
 have nd:=gj.nd
 refine⟨_,Ĝ (ê (ĳ none (i:=5) nd rfl zQ (õ (Å 4) Ä))
  (ê (Ĺ (Wr.wpt (ŭ (ŧ (Ħ (ĥ (hk:=by omega) C_is_whole hr (À (Å 5) Á)))) (Wr.cB (Wr.mK hr.units (Å 5) (Å 2))))) (ã (é ũ)) ú)
  (ê (Wr.lN none ["number"] (i:=6) rfl nd rfl zQ (œ (Å 2)) (λc=>(Ĉ (i:=0) qL rfl zQ)) (λc=>(Wr.dR (ř hr.units (Å 0) (Å 6)))) (λc=>(Å 0)))
  (ê (Ĺ (ŧ (Ħ (ĥ (hk:=by omega) C_holds hr (À (Å 0) (À (Å 1) (À (Å 6) (À (Å 3) (À (õ (Å 4) Ä) Á)))))))) (ã (é ũ)) ú)
  (ã (é (ĥ (hk:=by omega) C_holds hr (À (ĥ (hk:=by omega) C_with_offers hr (À (Å 0) (À (Å 1) (À (þ (À (Å 5) Á)) Á)))) (À (Å 1) (À (Å 6) (À (Ġ (Å 3) (õ (õ (Å 1) (Å 5)) Ä)) (À (õ (Å 4) Ä) Á)))))))))))),aR h ?_⟩
 rintro ds P ⟨d,n,us,ws,b,os,free,ask,num,x,t1,t2,tk,lf,rfl,rfl,g1,g2,lu,n16,ou,lo,oo,h,q⟩
 refine⟨[.im (au n ws),if b=true then .sh (oT true os) else .im (oT false os),.sh (iD free),.im (.int ask),aB (Bt.tri x t1 t2).D,.any,.any],by show [aB (au _ ws),aB (oT b os),_,_,_,_,_]=_;rw[Ģ,cZ];rfl,?_⟩
 cases x with
 |int k =>
  rcases bB (Bt.tri (.int k) t1 t2).D with e|e
  all_goals
   rw[e]
   cases b
   all_goals
    refine⟨.int k,rfl,.int k,rfl,aL (A:=True) ⟨rfl,o8 free,?_⟩⟩
    show if (!((free.map Í).any λe=>Ē e (.int k)))=true then _ else _
    rw[Dl.any_ints]
    have q:P (.bool (decide (k∈cY os.length tk lf)&&(gB n us os num t1 (tk++[k]) lf&&gB n us os num t2 tk (lf++[k])))):=q
    rw[←h.fr] at q
    by_cases hk:k∈free
    ·obtain⟨k0,k1⟩:0<=k/\k<((os.length:Nat):Int):=by
      have hk:=hk
      rw[h.fr,cg] at hk
      exact hk.1
     rw[decide_eq_true hk] at q ⊢
     rw[Ŝ] at q
     refine aL (A:=True) ?_
     refine sX free Í (λx=>!decide (x=k)) Í .imm rfl (by have:=(jq os.length tk lf).len;rw[←h.fr] at this;omega) (λx hx A B hA hB=>?_) ?_
     ·show if (!decide (x=k))=true then _ else _
      exact bQ (λc=>⟨rfl,hA c⟩) (λc=>hB (Bool.eq_false_iff.mpr c))
     first
      |refine⟨t2.D,rfl,n,us,ws,false,os,_,ask,num,t2,tk,lf++[k],rfl,g2,lu,n16,ou,lo,oo,h.left hk,?_⟩
      |refine⟨t2.D,rfl,n,us,ws,true,os,_,ask,num,t2,tk,lf++[k],rfl,g2,lu,n16,ou,lo,oo,h.left hk,?_⟩
     show if (!gB n us os num t2 tk (lf++[k]))=true then _ else _
     cases e2:gB n us os num t2 tk (lf++[k]) with
     |false =>
      rw[e2,ķ] at q
      exact aH (B:=True) ⟨rfl,q⟩
     |true =>
      rw[e2,Bool.and_true] at q
      refine aL (A:=True) ?_
      first
       |refine⟨one_le 999,n,ws,false,os,[k],rfl,h.wl lu lo,n16,h.ok ou oo,lo,oo,⟨ż _ _,λx hx=>by rw[Ò.mp hx];exact⟨k0,k1⟩⟩,λys hp=>?_⟩
       |refine⟨one_le 999,n,ws,true,os,[k],rfl,h.wl lu lo,n16,h.ok ou oo,lo,oo,⟨ż _ _,λx hx=>by rw[Ò.mp hx];exact⟨k0,k1⟩⟩,λys hp=>?_⟩
      refine⟨oD (oA os k),iG k0 k1,.int (oA os k).2.2,rfl,?_⟩
      first
       |refine⟨t1.D,rfl,n,us,ys,false,os,_,_,num,t1,tk++[k],lf,rfl,g1,lu,n16,ou,lo,oo,h.take hk hp,?_⟩
       |refine⟨t1.D,rfl,n,us,ys,true,os,_,_,num,t1,tk++[k],lf,rfl,g1,lu,n16,ou,lo,oo,h.take hk hp,?_⟩
      exact⟨rfl,q⟩
    ·rw[decide_eq_false hk] at q ⊢
     exact aH (B:=True) ⟨rfl,q⟩
 |tuple xs =>
  rcases bB (Bt.tri (.tuple xs) t1 t2).D with e|e
  all_goals
   rw[e]
   cases b
   all_goals
    refine⟨.tuple xs,rfl,?_⟩
    first
     |refine lK (k:=norm .imm (.tuple xs)) (.inl rfl) ?_
      rintro s (rfl|rfl) <;> exact⟨.tuple xs,rfl,aH (B:=True) ⟨rfl,q⟩⟩
     |refine lK (k:=norm .shr (.tuple xs)) (uX _) ?_
      rintro s (rfl|rfl) <;> exact⟨.tuple xs,rfl,aH (B:=True) ⟨rfl,q⟩⟩
 |_ =>
  rename_i y
  rcases bB (Bt.tri _ t1 t2).D with e|e
  all_goals
   rw[e]
   cases b
   all_goals
    exact⟨_,rfl,_,rfl,aH (B:=True) ⟨rfl,q⟩⟩
def pP:FnScope ["made","offers","free","asked","tree"] ["made","offers","free","asked","tree"] (aj (top 50)):=zC
def Eb(F:Fun K "holds" "holds" (top 50) f fd)(B:ĝ mg)(C_has_form:Ü P w K mg base 1 "has_form" ["thing","word","count"] (spD CK))(C_try_holds:Ü P w K mg base (2*kk+11) "try_holds" ["made","offers","free","asked","tree"] (spD (fTy kk)))(C_bars:Ü P w K mg base 8 "bars" ["made","offers","free","thing"] (spD vD))(C_weights_hold:Ü P w K mg base 9 "weights_hold" ["made","offers","free","asked","rows"] (spD M7)):FnOk P w K mg base CX0 (2*kk+12) f fd ["made","offers","free","asked","tree"] (spD (fHo (kk+1))):=by
 refine F.ok pP Ĕ (λcdv A outer s H vs Q E hr h=>?_)
 have nd:=pP.nd
 refine⟨_,Ĝ (ê (Ĺ (Ħ (ĥ (hk:=by omega) C_has_form hr (À (Å 4) (À ĉ (À Ä Á))))) (ã (é (ĥ (hk:=by omega) C_try_holds hr (À (Å 0) (À (Å 1) (À (Å 2) (À (Å 3) (À (Å 4) Á)))))))) ú)
  (ê (Ĺ (Ħ (ĥ (hk:=by omega) C_has_form hr (À (Å 4) (À ĉ (À Ä Á))))) (ã (é (ĥ (hk:=by omega) C_bars hr (À (Å 0) (À (Å 1) (À (Å 2) (À (õ (Å 4) Ä) Á))))))) ú)
  (ã (é (ŝ (ĥ (hk:=by omega) C_has_form hr (À (Å 4) (À ĉ (À Ä Á)))) (Wr.cF (ĥ (hk:=by omega) C_weights_hold hr (À (Å 0) (À (Å 1) (À (Å 2) (À (Å 3) (À (õ (Å 4) Ä) Á)))))))))))),aR h ?_⟩
 rintro ds P ⟨n,us,ws,b,os,free,ask,num,t,tk,lf,rfl,g,lu,n16,ou,lo,oo,ha,q⟩
 refine⟨[.im (au n ws),if b=true then .sh (oT true os) else .im (oT false os),.sh (iD free),.im (.int ask),aB t.D],by show [aB (au _ ws),aB (oT b os),_,_,_]=_;rw[Ģ,cZ];rfl,?_⟩
 have rf:jy os.length free:=by
  rw[ha.fr]
  exact jq _ _ _
 have lf8:=rf.len
 rcases bB t.D with e|e
 all_goals
  rw[e]
  cases b
  all_goals
   cases t with
   |tri x t1 t2 =>
    cases kk with
    |zero=>exact g.elim
    |succ d =>
     refine⟨_,"try",4,rfl,by decide,aH (B:=True) ?_⟩
     first
     |exact⟨d,n,us,ws,false,os,free,ask,num,x,t1,t2,tk,lf,rfl,rfl,g.1,g.2,lu,n16,ou,lo,oo,ha,rfl,q⟩
     |exact⟨d,n,us,ws,true,os,free,ask,num,x,t1,t2,tk,lf,rfl,rfl,g.1,g.2,lu,n16,ou,lo,oo,ha,rfl,q⟩
   |bar s =>
    have g:Few s:=by cases kk <;> exact g
    have q:P (.bool (aO n s&&decide (0<lack us os (Dz os.length lf) (Gq s)))):=q
    refine⟨_,"try",4,rfl,by decide,aL (A:=True) ⟨_,"barred",2,rfl,by decide,aH (B:=True) ⟨s,rfl,?_⟩⟩⟩
    have q0:aO n s=false->P (.bool false):=λz=>by rw[z] at q;exact q
    have q1:∀l,s=iD l->Proper n l->P (.bool (decide (0<lack ws os free l))):=λl z pl=>by
     subst z
     rw[show aO n (iD l)=true from gw pl,Ŝ,Bj,←ha.Vb l] at q
     exact q
    first
     |exact⟨n,ws,false,os,free,s,rfl,ha.wl lu lo,n16,ha.ok ou oo,lo,oo,rf,g,λz=>⟨rfl,q0 z⟩,λl z pl=>⟨rfl,q1 l z pl⟩⟩
     |exact⟨n,ws,true,os,free,s,rfl,ha.wl lu lo,n16,ha.ok ou oo,lo,oo,rf,g,λz=>⟨rfl,q0 z⟩,λl z pl=>⟨rfl,q1 l z pl⟩⟩
   |wts r =>
    have g:yu r:=by cases kk <;> exact g
    have q:P (.bool (rJ n r&&(((cY os.length tk lf).all λk=>decide (wOn (oA os k) (wF r)<=(oA os k).2.2))&&decide (num<=cst os tk+((wF r).map λr=>r.2 * lack us os tk r.1).sum)))):=q
    refine⟨_,"try",4,rfl,by decide,aL (A:=True) ⟨_,"barred",2,rfl,by decide,aL (A:=True) ⟨_,"weights",2,rfl,by decide,aH (B:=True) ⟨r,rfl,?_⟩⟩⟩⟩
    have q0:rJ n r=false->P (.bool false):=λz=>by rw[z] at q;exact q
    have q1:∀rs,r=.list (rs.map rwD)->RwG n rs->P (.bool ((free.all λk=>decide (wOn (oA os k) rs<=(oA os k).2.2))&&decide (ask<=(rs.map λr=>r.2 * lack ws os [] r.1).sum))):=λrs z ok=>by
     subst z
     rw[Kq ok,Ŝ,Gy,←ha.fr] at q
     have e2:(rs.map λr=>r.2 * lack ws os [] r.1)=rs.map λr=>r.2 * lack us os tk r.1:=Ő λr _=>by rw[ha.weigh]
     rw[e2,show decide (ask<=(rs.map λr=>r.2 * lack us os tk r.1).sum)=decide (num<=cst os tk+(rs.map λr=>r.2 * lack us os tk r.1).sum) from by rw[ę,decide_eq_true_eq,decide_eq_true_eq,ha.as];omega]
     exact q
    first
     |exact⟨n,ws,false,os,free,ask,r,rfl,ha.wl lu lo,n16,lo,by omega,rf.2,g,λz=>⟨rfl,q0 z⟩,λl z pl=>⟨rfl,q1 l z pl⟩⟩
     |exact⟨n,ws,true,os,free,ask,r,rfl,ha.wl lu lo,n16,lo,by omega,rf.2,g,λz=>⟨rfl,q0 z⟩,λl z pl=>⟨rfl,q1 l z pl⟩⟩
   |odd d =>
    have g:jE "try" 4 d=false/\jE "barred" 2 d=false/\jE "weights" 2 d=false:=by cases kk <;> exact g
    refine⟨d,"try",4,rfl,by decide,?_⟩
    show if jE "try" 4 d=true then _ else _
    rw[g.1]
    refine aL (A:=True) ⟨d,"barred",2,rfl,by decide,?_⟩
    show if jE "barred" 2 d=true then _ else _
    rw[g.2.1]
    refine aL (A:=True) ⟨d,"weights",2,rfl,by decide,?_⟩
    show if jE "weights" 2 d=true then _ else _
    rw[g.2.2]
    exact aL (A:=True) ⟨rfl,q⟩
end
def fNo(ds:List D)(P:D->Prop):Prop:=False
def fTH(ds:List D)(P:D->Prop):Prop:=∃(n:Int) (us:List Tie) (b:Bool) (os:List Off) (num:Int) (t:Bt),ds=[au n us,oT b os,.int num,t.D]/\t.Ok 7/\us.length<=40/\n<=16/\OkN n us/\os.length<=8/\OkO n os/\P (.bool (gB n us os num t [] []))
def R3(us:List Tie)(os:List Off)(num:Int):At41 us os num [] [] us (d8 os.length) num:=by
 refine⟨List.nodup_nil,λk hk=>(ń hk).elim,λk hk=>(ń hk).elim,?_,?_,?_⟩
 ·show us.Perm (us++[])
  rw[í]
 ·unfold cY
  exact(List.filter_eq_self.mpr λa _=>rfl).symm
 ·show num=num - 0
  omega
section
variable {P:Program}{w:World}{K:Ñ}{mg:Str->Option Value}{base:Heap}{f f1:Addr}{fd fd1:FuncData}{CN:Addr}
def K7(F:Fun K "try_holds" "try_holds" (top 49) f fd):FnOk P w K mg base CX0 1 f fd ["made","offers","free","asked","tree"] (spD fNo) :=
 F.ok gj (Ĕ λds P h=>h.elim) (λcdv A outer s H vs Q E hr h=>by
  obtain⟨_,_,_,t,_⟩:=h
  exact t.elim)
def Ef(F:Fun K "holds" "holds" (top 50) f fd):FnOk P w K mg base CX0 10 f fd ["made","offers","free","asked","tree"] (spD (fHo 0)) :=
 F.ok pP (Ĕ λds P h=>h.elim) (λcdv A outer s H vs Q E hr h=>by
  obtain⟨_,_,_,t,_⟩:=h
  exact t.elim)
def Ec(k:Nat)(F:Fun K "holds" "holds" (top 50) f fd)(B:ĝ mg)(b:Binds K fd ["made","offers","free","asked","tree"] [])(m:mg "holds"=some (.ref f))(F1:Fun K "try_holds" "try_holds" (top 49) f1 fd1)(b1:Binds K fd1 ["made","offers","free","asked","tree"] [])(m1:mg "try_holds"=some (.ref f1))(C_is_whole:Ü P w K mg base 1 "is_whole" ["thing"] (spD jK))(C_with_offers:Ü P w K mg base 2 "with_offers" ["web","offers","numbers"] (spD eZ))(C_has_form:Ü P w K mg base 1 "has_form" ["thing","word","count"] (spD CK))(C_bars:Ü P w K mg base 8 "bars" ["made","offers","free","thing"] (spD vD))(C_weights_hold:Ü P w K mg base 9 "weights_hold" ["made","offers","free","asked","rows"] (spD M7)) :
  FnOk P w K mg base CX0 (2 * k+10) f fd ["made","offers","free","asked","tree"] (spD (fHo k)):=by
 induction k with
 |zero=>exact Ef F
 |succ k ih =>
  have t:=K8 F1 B C_is_whole ⟨f,fd,ih,b,F.kp,m⟩ C_with_offers
  have r:=Eb F B C_has_form ⟨f1,fd1,t,b1,F1.kp,m1⟩ C_bars C_weights_hold
  rw[show 2 * (k+1)+10=2 * k+12 by omega]
  exact r
def Ed(F:Fun K "holds" "holds" (top 50) f fd)(B:ĝ mg)(b:Binds K fd ["made","offers","free","asked","tree"] [])(m:mg "holds"=some (.ref f))(F1:Fun K "try_holds" "try_holds" (top 49) f1 fd1)(b1:Binds K fd1 ["made","offers","free","asked","tree"] [])(m1:mg "try_holds"=some (.ref f1))(C_is_whole:Ü P w K mg base 1 "is_whole" ["thing"] (spD jK))(C_with_offers:Ü P w K mg base 2 "with_offers" ["web","offers","numbers"] (spD eZ))(C_has_form:Ü P w K mg base 1 "has_form" ["thing","word","count"] (spD CK))(C_bars:Ü P w K mg base 8 "bars" ["made","offers","free","thing"] (spD vD))(C_weights_hold:Ü P w K mg base 9 "weights_hold" ["made","offers","free","asked","rows"] (spD M7)) :
  FnOk P w K mg base CX0 26 f fd ["made","offers","free","asked","tree"] (spD (fHo 8)):=Ec 8 F B b m F1 b1 m1 C_is_whole C_with_offers C_has_form C_bars C_weights_hold
def jz:FnScope ["web","offers","number","tree"] ["web","offers","number","tree"] (aj (top 51)):=zC
def rK(F:Fun K "tree_holds" "tree_holds" (top 51) f fd)(B:ĝ mg)(C_check_offers:ň P w K mg base 5 "check_offers" ["web","thing"] (spX (fj CN)))(C_holds:Ü P w K mg base 26 "holds" ["made","offers","free","asked","tree"] (spD (fHo 8))):FnOk P w K mg base CX0 27 f fd ["web","offers","number","tree"] (spD fTH):=by
 refine F.ok jz Ĕ (λcdv A outer s H vs Q E hr h=>?_)
 have nd:=jz.nd
 refine⟨_,Ĝ (ê (Wr.jr (Wr.dcF C_check_offers hr (À (Å 0) (À (Å 1) Á))))
  (ã (é (ĥ C_holds hr (À (Å 0) (À (Å 1) (À (Wr.gF rfl B.list B.range (À (ļ B.len (À (Å 1) Á)) Á)) (À (Å 2) (À (Å 3) Á))))))))),aR h ?_⟩
 rintro ds P ⟨n,us,b,os,num,t,rfl,g,lu,n16,ou,lo,oo,q⟩
 refine⟨[.im (au n us),if b=true then .sh (oT true os) else .im (oT false os),.im (.int num),aB t.D],by show [aB (au _ us),aB (oT b os),_,_]=_;rw[Ģ,cZ];rfl,?_⟩
 have ha:=R3 us os num
 have lm:(os.map oD).length=os.length:=Ã ..
 have eI:Ċ (cR 0 ((((os.map oD).length:Nat):Int) - 0).toNat)=iD (d8 os.length):=by
  rw[lm,show((((os.length:Nat):Int)) - 0).toNat=os.length by omega]
  unfold cR d8 iD
  rw[ï]
  rfl
 rcases bB t.D with e|e
 all_goals
  rw[e]
  cases b with
  |false =>
   refine⟨n,us,oT false os,rfl,nj false lo,.inr ⟨fU false lo oo,?_⟩⟩
   refine⟨⟨by show(-1000:Int)<=(((os.map oD).length:Nat):Int);omega,by show(((os.map oD).length:Nat):Int)<=1000;omega⟩,?_⟩
   exact⟨n,us,us,false,os,d8 os.length,num,num,t,[],[],(by show [_,_,Ċ (cR 0 ((((os.map oD).length:Nat):Int) - 0).toNat),_,_]=_;rw[eI] <;> rfl),g,lu,n16,ou,lo,oo,ha,rfl,q⟩
  |true =>
   refine⟨n,us,oT true os,rfl,nj true lo,.inr ⟨fU true lo oo,?_⟩⟩
   refine⟨⟨by show(-1000:Int)<=(((os.map oD).length:Nat):Int);omega,by show(((os.map oD).length:Nat):Int)<=1000;omega⟩,?_⟩
   exact⟨n,us,us,true,os,d8 os.length,num,num,t,[],[],(by show [_,_,Ċ (cR 0 ((((os.map oD).length:Nat):Int) - 0).toNat),_,_]=_;rw[eI] <;> rfl),g,lu,n16,ou,lo,oo,ha,rfl,q⟩
end
section
variable {P:Program}{w:World}{K:Ñ}{mg:Str->Option Value}{base:Heap}{f:Addr}{fd:FuncData}
end
def Jf:∀t:Tr,bU t.D=false
 |.tri k a b=>by
  have:=Jf a
  show(bU (.str "try")&&(bU (.int k)&&(bU a.D&&(bU b.D&&true))))=false
  rw[this,Bool.false_and,ķ,ķ]
 |.bar l=>rfl
 |.wts rs=>rfl
def j9(t:Tr):¬bU t.D=true:=by
 rw[Jf]
 exact É
def yJ(d:D):(norm .snw d).le .n0=true:=by
 show(if bU d then Kd.imm else .snw).le .n0=true
 split <;> rfl
def RT(n:Int)(kk:Nat)(fr:List Int)(s7:Sl):List Sl:=[.pen TP,.im (.int n),.sh (iD fr),.im (.int ((kk:Nat):Int)),.any,.any,.any,s7,.any]
section
variable {P:Program}{w:World}{K:Ñ}{mg:Str->Option Value}{base:Heap}{f:Addr}{fd:FuncData}{CN:Addr}{kk cc:Nat}
end
def lD(l:List Int):D:=.list (l.map Í)
def subs:Nat->List (List Int)
 |0=>[[]]
 |k+1=>subs k++(subs k).map λl=>l++[0+((k:Nat):Int)]
def qQ:∀k,(subs k).length=2 ^ k
 |0=>rfl
 |k+1=>by
  show(subs k++(subs k).map _).length=_
  rw[Ð,Ã,qQ k,Nat.pow_succ]
  omega
def mG:∀k,∃r,subs k=[]::r/\∀l∈r,l≠[]
 |0=>⟨[],rfl,λl h=>nomatch h⟩
 |k+1=>by
  obtain⟨r,e,h⟩:=mG k
  refine⟨r++(subs k).map λl=>l++[0+((k:Nat):Int)],?_,λl hl=>?_⟩
  ·have h2:∀M:List (List Int),subs k++M=[]::(r++M):=λM=>by rw[e];rfl
   exact h2 _
  ·rcases Ø.mp hl with z|z
   ·exact h l z
   ·obtain⟨a,_,rfl⟩:=Ă.mp z
    simp
def dM:∀k (l:List Int),l∈subs k->l.Pairwise (·<·)/\(∀x∈l,0<=x/\x<k)/\l.length<=k
 |0,l,h=>by
  rw[Ò.mp h]
  exact⟨.nil,λx h=>(nomatch h),Ì _⟩
 |k+1,l,h=>by
  rcases Ø.mp h with z|z
  ·obtain⟨h1,h2,h3⟩:=dM k l z
   exact⟨h1,λx hx=>by have:=h2 x hx;omega,by omega⟩
  ·obtain⟨a,ha,rfl⟩:=Ă.mp z
   obtain⟨h1,h2,h3⟩:=dM k a ha
   refine⟨List.pairwise_append.mpr ⟨h1,by simp,λx hx y hy=>?_⟩,λx hx=>?_,by rw[Ð,ņ];omega⟩
   ·rw[Ò.mp hy]
    have:=h2 x hx
    omega
   ·rcases Ø.mp hx with z|z
    ·have:=h2 x z;omega
    ·rw[Ò.mp z];omega
def pU(k:Nat):List Int:=(á k).map λi=>0+((i:Nat):Int)
def pA(p:Int->Bool):∀k,(pU k).filter p∈subs k
 |0=>Ò.mpr rfl
 |k+1=>by
  have e:pU (k+1)=pU k++[0+((k:Nat):Int)]:=by
   unfold pU
   rw[List.range_succ,ó]
   rfl
  rw[e,ź]
  cases hp:p (0+((k:Nat):Int)) with
  |true =>
   rw[List.filter_cons_of_pos hp]
   exact å _ (Ă.mpr ⟨_,pA p k,rfl⟩)
  |false =>
   rw[List.filter_cons_of_neg (by rw[hp];exact É)]
   rw[List.filter_nil,í]
   exact Ŧ _ (pA p k)
def fSB(ds:List D)(P:D->Prop):Prop:=∃c:Int,ds=[.int c]/\0<=c/\c<=7/\P (.list ((subs c.toNat).map lD))
def vV(n:Int)(us:List Tie)(fa:Int):Prop:=∀l∈(subs (n - 1).toNat).drop 1,fa<((us.filter (lv l)).length:Nat)
def pB(ds:List D)(P:D->Prop):Prop:=∃(n:Int) (us:List Tie) (fa:Int),ds=[au n us,.int fa]/\1<=n/\n<=8/\us.length<=100/\∀b:Bool,(b=true↔vV n us fa)->P (.bool b)
def Vh(n:Int)(us:List Tie)(fa:Int)(d:D):Prop:=(d=.none/\vV n us fa)\/∃l:List Int,d=.list (l.map Í)/\l∈(subs (n - 1).toNat).drop 1/\Proper n l/\((us.filter (lv l)).length:Int)<=fa
def iT(ds:List D)(P:D->Prop):Prop:=∃(n:Int) (us:List Tie) (fa:Int),ds=[au n us,.int fa]/\1<=n/\n<=8/\us.length<=100/\∀d:D,Vh n us fa d->P d
def gZ{n:Int}{l:List Int}(n1:1<=n)(n8:n<=8)(h:l∈(subs (n - 1).toNat).drop 1):Proper n l:=by
 obtain⟨r,e,hr⟩:=mG (n - 1).toNat
 obtain⟨h1,h2,h3⟩:=dM _ l (List.mem_of_mem_drop h)
 rw[e] at h
 have hne:=hr l h
 have hp:0<l.length:=ů.mpr hne
 exact⟨hp,by omega,λx hx=>by have:=h2 x hx;omega,h1,by omega⟩
section
variable {P:Program}{w:World}{K:Ñ}{mg:Str->Option Value}{base:Heap}{f:Addr}{fd:FuncData}
def NT:FnScope ["count","told","place"] ["count"] (aj (top 23)):=zC
def Ui:(["some","count","told","place"]:List Str).Nodup:=by decide +kernel
def Uc(F:Fun K "sets_below" "sets_below" (top 23) f fd)(B:ĝ mg):FnOk P w K mg base CX0 1 f fd ["count"] (spD fSB):=by
 refine F.ok NT Ĕ (λcdv A outer s H vs Q E hr h=>?_)
 have nd:=NT.nd
 refine⟨_,dU (jL none (dg (i:=1) nd rfl (Ń rfl) (gG (aA (gG aK) aK))))
  (dU (nA Ņ rfl (fY B.range (aA (dv 0) aK)) (dW (dO (i:=2) nd rfl (Or.inr rfl)))
   (bF (jL none (dg (i:=1) nd rfl (Ń rfl) (Hh (dv 1) (eV ["some"] rfl (iV (dv 1)) (λc=>dW (dO (i:=0) Ui rfl (Ń rfl))) (λc=>cC) (λc=>Hh (dv 0) (gG (aA (dv 3) aK)))))))))
  (bF (bV (dv 1)))),aR h ?_⟩
 rintro ds P ⟨c,rfl,c0,c7,q⟩
 refine⟨[.im (.int c),.any,.any],rfl,zK,zK,⟨by omega,by omega⟩,rfl,λ(i:Nat) ρ=>∃s2,ρ=[.im (.int c),.sn (.list ((subs i).map lD)),s2],⟨_,rfl⟩,?_,?_⟩
 ·rintro i d ρ hd ⟨s2,rfl⟩
  obtain⟨hi,rfl⟩:=dY hd
  have ls:((subs i).map lD).length<=64:=by
   rw[Ã,qQ]
   exact Nat.pow_le_pow_right (by decide) (show i<=6 by omega)
  refine⟨by omega,.new,λj ys=>ys=((subs i).take j).map λl=>lD (l++[0+((i:Nat):Int)]),rfl,?_,?_⟩
  ·rintro j d ys hd rfl
   obtain⟨l,hl,rfl⟩:=kJ hd
   have hok:=dM i l (Ó hl)
   have im:=lG (l++[0+((i:Nat):Int)])
   rw[ó] at im
   refine aH (B:=True) ⟨zK,?_,.inl ⟨im,rfl,?_⟩⟩
   ·show(l.map Í).length+1<=1000
    rw[Ã]
    omega
   ·dsimp only
    rw[u6 _ hl]
    show _++[Ċ (l.map Í++[.int (0+((i:Nat):Int))])]=_++[Ċ ((l++[0+((i:Nat):Int)]).map Í)]
    rw[ó]
    rfl
  ·rintro ys rfl
   refine⟨?_,.inr ⟨.im (.int (0+((i:Nat):Int))),?_⟩⟩
   ·rw[Ã (as:=ś _ _),Ě]
    rw[Ã] at ls ⊢
    omega
   ·have e:(subs i).map lD++(((subs i).take ((subs i).map lD).length).map λl=>lD (l++[0+((i:Nat):Int)]))=(subs (i+1)).map lD:=by
     rw[Ã,Ĩ]
     show _=(subs i++(subs i).map _).map lD
     rw[ó,ï]
     rfl
    rw[e]
    rfl
 ·rintro ρ ⟨s2,rfl⟩
  rw[bW]
  exact⟨rfl,q⟩
def NQ:FnScope ["web","falls","some"] ["web","falls"] (aj (top 29)):=zC
def Hw(F:Fun K "needy_set" "needy_set" (top 29) f fd)(SB:Ü P w K mg base 1 "sets_below" ["count"] (spD fSB))(NE:Ü P w K mg base 8 "need" ["web","falls","some"] (spD Jw)):FnOk P w K mg base CX0 9 f fd ["web","falls"] (spD iT):=by
 refine F.ok NQ Ĕ (λcdv A outer s H vs Q E hr h=>?_)
 have nd:=NQ.nd
 refine⟨_,dU (nA Ņ rfl (iV (yW (dc SB hr (aA (ql (jG (dv 0) bD (λ_ _=>rfl)) bD) aK)) (cT bD) cU)) (dW (dO (i:=2) nd rfl (Ń rfl)))
   (bF (tL (qg (dc NE hr (aA (dv 0) (aA (dv 1) (aA (dv 2) aK)))) bD) (bF (bV (dv 2))) nu)))
  (bF (bV gD)),aR h ?_⟩
 rintro ds P ⟨n,us,fa,rfl,n1,n8,lu,q⟩
 refine⟨[.im (au n us),.im (.int fa),.any],?_,.int n,rfl,n - 1,rfl,by omega,by omega,.inr ?_⟩
 ·show [aB (au n us),aB (.int fa),.any]=_
  rw[Ģ]
  rfl
 dsimp only
 rw[lQ,←List.map_drop]
 refine⟨rfl,λ(i:Nat) ρ=>∃s2,ρ=[.im (au n us),.im (.int fa),s2]/\∀l∈((subs (n - 1).toNat).drop 1).take i,fa<((us.filter (lv l)).length:Nat),⟨_,rfl,λl h=>nomatch h⟩,?_,?_⟩
 ·rintro i d ρ hd ⟨s2,rfl,al⟩
  obtain⟨l,hl,rfl⟩:=kJ hd
  refine⟨n,us,l,fa,rfl,gZ n1 n8 (Ó hl),lu,bQ (λc=>?_) (λc=>⟨_,rfl,λl' hl'=>?_⟩)⟩
  ·have c:=of_decide_eq_true c
   refine⟨rfl,q _ (.inr ⟨l,rfl,Ó hl,gZ n1 n8 (Ó hl),?_⟩)⟩
   split at c <;> omega
  ·rw[Ğ,hl] at hl'
   rcases Ø.mp hl' with z|z
   ·exact al l' z
   ·have z:l'=l:=by simpa using z
    rw[z]
    have c:¬(0<if 0 > fa+1 - ((us.filter (lv l)).length:Nat) then 0 else fa+1 - ((us.filter (lv l)).length:Nat)):=λy=>c (decide_eq_true y)
    split at c <;> omega
 ·rintro ρ ⟨s2,rfl,al⟩
  rw[Ã,Ĩ] at al
  exact⟨rfl,q _ (.inl ⟨rfl,al⟩)⟩
def Tp:FnScope ["web","falls"] ["web","falls"] (aj (top 30)):=zC
def DP(F:Fun K "stands" "stands" (top 30) f fd)(NS:Ü P w K mg base 9 "needy_set" ["web","falls"] (spD iT)):FnOk P w K mg base CX0 10 f fd ["web","falls"] (spD pB):=by
 refine F.ok Tp Ĕ (λcdv A outer s H vs Q E hr h=>?_)
 refine⟨_,bF (bV (Qy (dc NS hr (aA (dv 0) (aA (dv 1) aK))) gD)),aR h ?_⟩
 rintro ds P ⟨n,us,fa,rfl,n1,n8,lu,q⟩
 refine⟨[.im (au n us),.im (.int fa)],?_,n,us,fa,rfl,n1,n8,lu,λd hd=>?_⟩
 ·show [aB (au n us),aB (.int fa)]=_
  rw[Ģ]
  rfl
 rcases hd with ⟨rfl,h⟩|⟨l,rfl,ml,pr,c⟩
 ·exact⟨rfl,q _ ⟨λ_=>h,λ_=>rfl⟩⟩
 ·exact⟨rfl,q _ ⟨λz=>absurd z É,λz=>absurd (z l ml) (by omega)⟩⟩
end
def mj(n:Int)(us:List Tie)(os:List Off)(ks:List Int):Prop:=∀l,Proper n l->2<=lvN us l+ofN os ks l
def InR(m:Nat)(ks:List Int):Prop:=ks.Nodup/\∀k∈ks,0<=k/\k<((m:Nat):Int)
def Ny(n:Int)(us:List Tie)(os:List Off)(num:Int):Prop:=∀ks,InR os.length ks->mj n us os ks->num<=cst os ks
def H9:∀{a b:List Int},a.Nodup->(∀x∈a,x∈b)->a.length<=b.length
 |[],_,_,_=>ä _
 |x::a,b,nd,h=>by
  obtain⟨n1,n2⟩:=List.nodup_cons.mp nd
  have hx:=h x Ö
  have ih:=H9 (b:=b.erase x) n2 λy hy=>(List.mem_erase_of_ne (λe:y=x=>n1 (by rw[←e];exact hy))).mpr (h y (Ô _ hy))
  rw[List.length_erase_of_mem hx] at ih
  have:=List.length_pos_of_mem hx
  rw[ç]
  omega
def Ij{l l':List Int}{t:Tie}(h1:t.1∈l↔t.1∈l')(h2:t.2∈l↔t.2∈l'):lv l t=lv l' t:=by
 unfold lv
 rw[decide_eq_decide.mpr h1,decide_eq_decide.mpr h2]
def Ik{l l':List Int}{t:Tie}(h1:t.1∈l'↔t.1∉l)(h2:t.2∈l'↔t.2∉l):lv l' t=lv l t:=by
 unfold lv
 by_cases a:t.1∈l <;> by_cases b:t.2∈l <;> simp[h1,h2,a,b]
def Alike(n:Int)(l' l:List Int):Prop:=(∀x,0<=x->x<n->(x∈l'↔x∈l))\/(∀x,0<=x->x<n->(x∈l'↔x∉l))
def yp{n:Int}{l' l:List Int}{t:Tie}(h:Alike n l' l)(ok:OkT n t):lv l' t=lv l t:=by
 obtain⟨⟨a0,a1⟩,⟨b0,b1⟩,_⟩:=ok
 rcases h with h|h
 ·exact Ij (h _ a0 a1) (h _ b0 b1)
 ·exact Ik (h _ a0 a1) (h _ b0 b1)
def Fz{n:Int}{us:List Tie}{l' l:List Int}(h:Alike n l' l)(ok:OkN n us):lvN us l'=lvN us l:=by
 unfold lvN
 rw[List.filter_congr λt ht=>yp h (ok t ht)]
def Fy{n:Int}{os:List Off}{ks:List Int}{l' l:List Int}(h:Alike n l' l)(ok:OkO n os)(hk:∀k∈ks,0<=k/\k<((os.length:Nat):Int)):ofN os ks l'=ofN os ks l:=by
 unfold ofN
 rw[List.filter_congr λk z=>yp h (Cj ok hk _ (Ă.mpr ⟨k,z,rfl⟩))]
def iy{m:Nat}{k:Int}:k∈pU m↔0<=k/\k<(m:Int):=jV
def yF{n:Int}(n1:1<=n){l:List Int}(h:Proper n l):∃l'∈(subs (n - 1).toNat).drop 1,Alike n l' l:=by
 have key:∀p:Int->Bool,(∃x,0<=x/\x<n - 1/\p x=true)->(pU (n - 1).toNat).filter p∈(subs (n - 1).toNat).drop 1:=λp ⟨x,x0,x1,px⟩=>by
  have hm:=pA p (n - 1).toNat
  obtain⟨r,e,_⟩:=mG (n - 1).toNat
  rw[e] at hm ⊢
  rcases â.mp hm with z|z
  ·have:x∈(pU (n - 1).toNat).filter p:=ġ.mpr ⟨iy.mpr ⟨x0,by omega⟩,px⟩
   rw[z] at this
   cases this
  ·exact z
 by_cases hn:n - 1∈l
 ·obtain⟨x,x0,x1,hx⟩:∃x,0<=x/\x<n - 1/\x∉l:=by
   apply Classical.byContradiction
   intro c
   have sub:∀x∈pU n.toNat,x∈l:=λx hx=>by
    have:=iy.mp hx
    by_cases e:x=n - 1
    ·rw[e];exact hn
    ·exact Classical.byContradiction λz=>c ⟨x,this.1,by omega,z⟩
   have nd:(pU n.toNat).Nodup:=(cG n.toNat).imp λh=>by omega
   have:=H9 nd sub
   have e:(pU n.toNat).length=n.toNat:=by unfold pU;rw[Ã,List.length_range]
   have:=h.few
   omega
  refine⟨_,key (λx=>!decide (x∈l)) ⟨x,x0,x1,by simpa using hx⟩,.inr λy y0 y1=>?_⟩
  rw[ġ,iy]
  simp only[ī,decide_eq_false_iff_not]
  refine⟨λz=>z.2,λz=>⟨⟨y0,?_⟩,z⟩⟩
  have:y≠n - 1:=λe=>z (e ▸ hn)
  omega
 ·obtain⟨x,hx⟩:∃x,x∈l:=by
   cases l with
   |nil=>exact absurd h.one (by simp)
   |cons a r=>exact⟨a,Ö⟩
  have hr:=h.rng x hx
  have:x≠n - 1:=λe=>hn (e ▸ hx)
  refine⟨_,key (λx=>decide (x∈l)) ⟨x,hr.1,by omega,by simpa using hx⟩,.inl λy y0 y1=>?_⟩
  rw[ġ,iy]
  simp only[decide_eq_true_eq]
  refine⟨λz=>z.2,λz=>⟨⟨y0,?_⟩,z⟩⟩
  have:y≠n - 1:=λe=>hn (e ▸ z)
  omega
def cD{n:Int}{us ws:List Tie}{os:List Off}{ks:List Int}(n1:1<=n)(n8:n<=8)(ok:OkN n us)(oko:OkO n os)(hk:∀k∈ks,0<=k/\k<((os.length:Nat):Int))(hw:ws.Perm (us++(dI os ks).map mmT)):vV n ws 1↔mj n us os ks:=by
 constructor
 ·intro h l hl
  obtain⟨l',m',al⟩:=yF n1 hl
  have:=h l' m'
  have e:(ws.filter (lv l')).length=lvN ws l':=rfl
  rw[e,kW hw,Fz al ok,Fy al oko hk] at this
  omega
 ·intro h l hl
  have e:(ws.filter (lv l)).length=lvN ws l:=rfl
  have:=h l (gZ n1 n8 hl)
  rw[e,kW hw]
  omega
def JR{os:List Off}{a b:List Int}(h:a.Perm b):cst os a=cst os b:=by
 unfold cst
 induction h with
 |nil=>rfl
 |cons x _ ih=>rw[û,Ŷ,û,Ŷ,ih]
 |swap x y l=>rw[û,Ŷ,û,Ŷ,û,Ŷ,û,Ŷ];omega
 |trans _ _ a b=>rw[a,b]
def fCO(ds:List D)(P:D->Prop):Prop:=∃(b:Bool) (os:List Off) (ks:List Int),ds=[oT b os,iD ks]/\ks.length<=8/\(∀k∈ks,0<=k/\k<((os.length:Nat):Int))/\P (.int (cst os ks))
def fTF:Nat->List D->(D->Prop)->Prop
 |0,_,_=>False
 |d+1,ds,P=>∃(n:Int) (us ws:List Tie) (b:Bool) (os:List Off) (free:List Int) (ask num:Int) (tk lf:List Int),ds=[au n ws,oT b os,iD free,.int ask]/\1<=n/\n<=8/\us.length<=40/\OkN n us/\os.length<=8/\OkO n os/\At41 us os num tk lf ws free ask/\free.length<=d/\Ny n us os num /\
  ∀t,t.Ok n os.length d->hL us os num t tk lf=true->P t.D
def Eo{n:Int}{us ws:List Tie}{os:List Off}{num ask:Int}{tk lf free:List Int}(h:At41 us os num tk lf ws free ask)(oo:OkO n os)(c:ask<=0):hL us os num (.wts []) tk lf=true:=by
 show(((cY os.length tk lf).all λk=>decide (wOn (oA os k) []<=(oA os k).2.2))&&decide (num<=cst os tk+0))=true
 rw[Î,Ą,decide_eq_true_iff]
 refine⟨λk hk=>decide_eq_true ?_,by have:=h.as;omega⟩
 obtain⟨k0,k1⟩:=(cg.mp hk).1
 exact(oo _ (Ó (Lw (b:=true) k0 k1))).2.1
def Iz{us ws:List Tie}{os:List Off}{num ask:Int}{tk lf free l:List Int}(h:At41 us os num tk lf ws free ask)(c:(((ws.filter (lv l)).length:Nat):Int)+((ofN os free l:Nat):Int)<2):hL us os num (.bar l) tk lf=true:=by
 refine decide_eq_true ?_
 rw[←h.Vb]
 have e:(ws.filter (lv l)).length=lvN ws l:=rfl
 rw[e] at c
 unfold lack
 split <;> omega
section
variable {P:Program}{w:World}{K:Ñ}{mg:Str->Option Value}{base:Heap}{f:Addr}{fd:FuncData}{kk:Nat}
def pQ:FnScope ["offers","numbers"] ["offers","numbers"] (aj (top 36)):=zC
def u5:(["number","offers","numbers"]:List Str).Nodup:=by decide +kernel
def zH(F:Fun K "cost_of" "cost_of" (top 36) f fd)(B:ĝ mg)(m_sum:mg "sum"=none):FnOk P w K mg base CX0 1 f fd ["offers","numbers"] (spD fCO):=by
 refine F.ok pQ Ĕ (λcdv A outer s H vs Q E hr h=>?_)
 have nd:=pQ.nd
 refine⟨_,Ĝ (ã (é (Wr.j5 rfl m_sum (À (Wr.eV ["number"] rfl (œ (Å 1)) (λc=>(Ĉ (i:=0) u5 rfl zQ)) (λc=>Wr.cC) (λc=>(õ (õ (Å 1) (Å 0)) Ä))) Á)))),aR h ?_⟩
 rintro ds P ⟨b,os,ks,rfl,lk,hk,q⟩
 cases b
 all_goals
  first
  |refine⟨[.sh (.list (os.map oD)),.sh (iD ks)],by show [aB (oT true os),aB (iD ks)]=_;rw[cZ];rfl,?_⟩
  |refine⟨[.im (.tuple (os.map oD)),.sh (iD ks)],by show [aB (oT false os),aB (iD ks)]=_;rw[cZ];rfl,?_⟩
  refine vf ks Í (λk=>Í (oA os k).2.2) .imm rfl (by omega) (λk z A B h=>?_) ?_
  ·obtain⟨k0,k1⟩:=hk k z
   exact aH (B:=B) ⟨_,iG k0 k1,.int (oA os k).2.2,rfl,rfl,h⟩
  ·exact⟨ks.map (λk=>(oA os k).2.2),by rw[ï];rfl,rfl,q⟩
def iu:FnScope ["made","offers","free","asked","some","useful","tried","rest","taken"] ["made","offers","free","asked"] (aj (top 39)):=zC
def jB:(["number","made","offers","free","asked","some","useful","tried","rest","taken"]:List Str).Nodup:=by decide +kernel
def QJ(F:Fun K "tree_for" "tree_for" (top 39) f fd)(B:ĝ mg)(C_needy_set:Ü P w K mg base 9 "needy_set" ["web","falls"] (spD iT))(C_leaves:Ü P w K mg base 1 "leaves" ["tie","some"] (spD fLv))(C_leaving:Ü P w K mg base 7 "leaving" ["web","some"] (spD tH))(C_tree_for:Ü P w K mg base (kk+12) "tree_for" ["made","offers","free","asked"] (spD (fTF kk)))(C_with_offers:Ü P w K mg base 2 "with_offers" ["web","offers","numbers"] (spD eZ)):FnOk P w K mg base CX0 (kk+13) f fd ["made","offers","free","asked"] (spD (fTF (kk+1))):=by
 refine F.ok iu Ĕ (λcdv A outer s H vs Q E hr h=>?_)
 have nd:=iu.nd
 refine⟨_,Ĝ (ê (Ĺ (Wr.uH (Å 3) Ä) (ã (é (Ú (À ĉ (À (þ Á) Á))))) ú)
  (ê (ĳ none (i:=4) nd rfl zQ (ĥ (hk:=by omega) C_needy_set hr (À (Å 0) (À Ä Á))))
  (ê (Wr.lN none ["number"] (i:=5) rfl nd rfl zQ (œ (Å 2)) (λc=>(Ĉ (i:=0) jB rfl zQ)) (λc=>(Wr.dR (Ħ (ĥ (hk:=by omega) C_leaves hr (À (õ (Å 2) (Å 0)) (À (Å 5) Á)))))) (λc=>(Å 0)))
  (ê (Ĺ (Wr.yV (Ũ (ĥ (hk:=by omega) C_leaving hr (À (Å 0) (À (Å 4) Á))) (ļ B.len (À (Å 5) Á))) Ä) (ã (é (Ú (À ĉ (À (Å 4) Á))))) ú)
  (ê (ĳ none (i:=6) nd rfl zQ (õ (Å 5) Ä))
  (ê (Wr.lN none ["number"] (i:=7) rfl nd rfl zQ (œ (Å 2)) (λc=>(Ĉ (i:=0) jB rfl zQ)) (λc=>(Wr.dR (ř hr.units (Å 0) (Å 7)))) (λc=>(Å 0)))
  (ê (ĳ none (i:=8) nd rfl zQ (ĥ (hk:=by omega) C_tree_for hr (À (ĥ (hk:=by omega) C_with_offers hr (À (Å 0) (À (Å 1) (À (þ (À (Å 6) Á)) Á)))) (À (Å 1) (À (Å 7) (À (Ġ (Å 3) (õ (õ (Å 1) (Å 6)) Ä)) Á))))))
  (ã (é (Ú (À ĉ (À (Å 6) (À (Å 8) (À (ĥ (hk:=by omega) C_tree_for hr (À (Å 0) (À (Å 1) (À (Å 7) (À (Å 3) Á))))) Á)))))))))))))),aR h ?_⟩
 rintro ds P ⟨n,us,ws,b,os,free,ask,num,tk,lf,rfl,n1,n8,lu,ou,lo,oo,g41,ll,lb,q⟩
 have lf8:free.length<=8:=by
  have:=(jq os.length tk lf).len
  rw[←g41.fr] at this
  omega
 have hfr:∀k∈free,0<=k/\k<((os.length:Nat):Int):=λk hk=>by
  rw[g41.fr] at hk
  exact(cg.mp hk).1
 have lw:=g41.wl lu lo
 have okw:=g41.ok ou oo
 cases b
 all_goals
  first
  |refine⟨[.im (au n ws),.sh (.list (os.map oD)),.sh (iD free),.im (.int ask),.any,.any,.any,.any,.any],by show [aB (au n ws),aB (oT true os),aB (iD free),aB (.int ask),.any,.any,.any,.any,.any]=_;rw[Ģ,cZ];rfl,?_⟩
  |refine⟨[.im (au n ws),.im (.tuple (os.map oD)),.sh (iD free),.im (.int ask),.any,.any,.any,.any,.any],by show [aB (au n ws),aB (oT false os),aB (iD free),aB (.int ask),.any,.any,.any,.any,.any]=_;rw[Ģ,cZ];rfl,?_⟩
  refine bQ (λc=>?_) (λc=>?_)
  ·have c:ask<=0:=of_decide_eq_true c
   refine⟨zK,zK,rfl,q (.wts []) (by cases kk <;> exact⟨ä _,(λr hr=>nomatch hr)⟩) (Eo g41 oo c)⟩
  have c:¬ask<=0:=λz=>c (decide_eq_true z)
  refine⟨n,ws,1,rfl,n1,n8,by omega,λd hd=>?_⟩
  rcases hd with ⟨rfl,st⟩|⟨l,rfl,ml,pr,cl⟩
  ·exact absurd (lb tk ⟨g41.nd,g41.rg⟩ ((cD n1 n8 ou oo g41.rg g41.ws).mp st)) (by have:=g41.as;omega)
  refine sX free Í (λk=>lv l (tO (oA os k))) Í .imm rfl (by omega) (λk hk A B hA hB=>?_) ?_
  ·obtain⟨k0,k1⟩:=hfr k hk
   exact⟨_,iG k0 k1,tO (oA os k),[.int (oA os k).2.2],l,rfl,rfl,bQ (λc=>⟨rfl,hA c⟩) (λc=>hB (Bool.eq_false_iff.mpr c))⟩
  refine⟨n,ws,l,rfl,pr,by omega,?_⟩
  have lU:((free.filter λk=>lv l (tO (oA os k))).map Í).length=ofN os free l:=Ã ..
  have c:¬ask<=0:=c
  refine bQ (λc2=>?_) (λc2=>?_)
  ·have c2:(((ws.filter (lv l)).length:Nat):Int)+((((free.filter λk=>lv l (tO (oA os k))).map Í).length:Nat):Int)<2:=of_decide_eq_true c2
   refine⟨zK,rfl,q (.bar l) (by cases kk <;> exact pr) (Iz g41 (by rw[lU] at c2;exact c2))⟩
  have c2:¬(((ws.filter (lv l)).length:Nat):Int)+((((free.filter λk=>lv l (tO (oA os k))).map Í).length:Nat):Int)<2:=λz=>c2 (decide_eq_true z)
  obtain⟨z,r,er⟩:∃z r,(free.filter λk=>lv l (tO (oA os k)))=z::r:=by
   cases e:free.filter λk=>lv l (tO (oA os k)) with
   |nil=>rw[e] at c2;exact absurd c2 (by simp;omega)
   |cons z r=>exact⟨z,r,rfl⟩
  have zf:z∈free:=(ġ.mp (show z∈free.filter λk=>lv l (tO (oA os k)) by rw[er];exact Ö)).1
  obtain⟨z0,z1⟩:=hfr z zf
  refine⟨.int z,by rw[er];exact(show atI ((z::r).map Í) ((0:Nat):Int)=_ from dB rfl),?_⟩
  refine sX free Í (λx=>!decide (x=z)) Í .imm rfl (by omega) (λx hx A B hA hB=>?_) ?_
  ·show if (!decide (x=z))=true then _ else _
   exact bQ (λc=>⟨rfl,hA c⟩) (λc=>hB (by simpa using c))
  have lr:(free.filter λx=>!decide (x=z)).length<free.length:=by
   refine Nat.lt_of_le_of_ne (List.length_filter_le _ _) λe=>?_
   have:=List.length_filter_eq_length_iff.mp e z zf
   simp at this
  obtain⟨d,rfl⟩:∃d,kk=d+1:=⟨kk - 1,by omega⟩
  have rz:jy os.length [z]:=⟨ż _ _,λx hx=>by rw[Ò.mp hx];exact⟨z0,z1⟩⟩
  have nz:z∉tk++lf:=by
   have zf:=zf
   rw[g41.fr,cg] at zf
   exact λy=>(Ø.mp y).elim zf.2.1 zf.2.2
  first
   |refine⟨one_le 999,n,ws,false,os,[z],rfl,lw,by omega,okw,lo,oo,rz,λys hp=>?_⟩
   |refine⟨one_le 999,n,ws,true,os,[z],rfl,lw,by omega,okw,lo,oo,rz,λys hp=>?_⟩
  refine⟨oD (oA os z),iG z0 z1,.int (oA os z).2.2,rfl,?_⟩
  first
   |refine⟨n,us,ys,false,os,_,_,num,tk++[z],lf,rfl,n1,n8,lu,ou,lo,oo,g41.take zf hp,by omega,lb,λt1 h1 e1=>?_⟩
   |refine⟨n,us,ys,true,os,_,_,num,tk++[z],lf,rfl,n1,n8,lu,ou,lo,oo,g41.take zf hp,by omega,lb,λt1 h1 e1=>?_⟩
  refine lM (s:=.sn t1.D) (by rw[Ř (j9 t1),Ř (j9 t1)];rfl) ?_
  first
   |refine⟨n,us,ws,false,os,_,ask,num,tk,lf++[z],rfl,n1,n8,lu,ou,lo,oo,g41.left zf,by omega,lb,λt2 h2 e2=>?_⟩
   |refine⟨n,us,ws,true,os,_,ask,num,tk,lf++[z],rfl,n1,n8,lu,ou,lo,oo,g41.left zf,by omega,lb,λt2 h2 e2=>?_⟩
  refine⟨zK,?_,q (.tri z t1 t2) ⟨z0,z1,h1,h2⟩ ?_⟩
  ·show(norm (joins [(Kd.imm,PyData.str (ð "try")),(.imm,.int z),(.snw,t1.D),(norm .new t2.D,t2.D)]) (.tuple [.str (ð "try"),.int z,t1.D,t2.D])).le .n0=true
   rw[Ř (j9 t2)]
   exact yJ _
  ·show(!decide (z∈tk++lf)&&(hL us os num t1 (tk++[z]) lf&&hL us os num t2 tk (lf++[z])))=true
   rw[decide_eq_false nz,e1,e2]
   rfl
def QL(F:Fun K "tree_for" "tree_for" (top 39) f fd):FnOk P w K mg base CX0 12 f fd ["made","offers","free","asked"] (spD (fTF 0)) :=
 F.ok iu (Ĕ λds P h=>h.elim) (λcdv A outer s H vs Q E hr h=>by
  obtain⟨_,_,_,t,_⟩:=h
  exact t.elim)
def Ub(k:Nat)(F:Fun K "tree_for" "tree_for" (top 39) f fd)(B:ĝ mg)(b:Binds K fd ["made","offers","free","asked"] [])(m:mg "tree_for"=some (.ref f))(C1:Ü P w K mg base 9 "needy_set" ["web","falls"] (spD iT))(C2:Ü P w K mg base 1 "leaves" ["tie","some"] (spD fLv))(C3:Ü P w K mg base 7 "leaving" ["web","some"] (spD tH))(C4:Ü P w K mg base 2 "with_offers" ["web","offers","numbers"] (spD eZ)):FnOk P w K mg base CX0 (k+12) f fd ["made","offers","free","asked"] (spD (fTF k)):=by
 induction k with
 |zero=>exact QL F
 |succ k ih=>exact QJ F B C1 C2 C3 ⟨f,fd,ih,b,F.kp,m⟩ C4
def QK(F:Fun K "tree_for" "tree_for" (top 39) f fd)(B:ĝ mg)(b:Binds K fd ["made","offers","free","asked"] [])(m:mg "tree_for"=some (.ref f))(C1:Ü P w K mg base 9 "needy_set" ["web","falls"] (spD iT))(C2:Ü P w K mg base 1 "leaves" ["tie","some"] (spD fLv))(C3:Ü P w K mg base 7 "leaving" ["web","some"] (spD tH))(C4:Ü P w K mg base 2 "with_offers" ["web","offers","numbers"] (spD eZ)):FnOk P w K mg base CX0 18 f fd ["made","offers","free","asked"] (spD (fTF 6)):=Ub 6 F B b m C1 C2 C3 C4
end
def lamOf:Expr->Arguments×Expr×Scope×Pos
 |.Lambda a b s p=>(a,b,s,p)
 |e=>(⟨[],[],none,[],[],none,[]⟩,e,{ kind:=.function,names:=[],isGenerator:=false,isCoroutine:=false },⟨0,0,0,0⟩)
def Ml:List Stmt->Expr
 |[.For _ (.Call _ _ [k] _) _ _ _,_]=>k.value
 |_=>.Constant .none 0 ⟨0,0,0,0⟩
def Uq(st:Stmt):Arguments:=(lamOf (Ml (bO st))).1
def Uo(st:Stmt):Expr:=(lamOf (Ml (bO st))).2.1
def Mj(st:Stmt):Scope:=(lamOf (Ml (bO st))).2.2.1
def lamP(st:Stmt):Pos:=(lamOf (Ml (bO st))).2.2.2
def caq:Str:=("cheapest_answer":Str)++".<locals>."++"<lambda>"
def aY(PT:Addr):Pn:=wJ PT (lamP (top 38)) caq
def Cz(dc dx:D)(k:Int):Prop:=∃(b:Bool) (os:List Off) (ks:List Int),dc=oT b os/\dx=iD ks/\ks.length<=8/\(∀k∈ks,0<=k/\k<((os.length:Nat):Int))/\k=cst os ks
def fCA(ds:List D)(P:D->Prop):Prop:=∃(n:Int) (us:List Tie) (b:Bool) (os:List Off),ds=[au n us,oT b os]/\1<=n/\n<=8/\us.length<=40/\OkN n us/\os.length<=5/\OkO n os/\((∀ks,InR os.length ks->¬mj n us os ks)->P .none) /\
 ∀ks,jy os.length ks->mj n us os ks->Ny n us os (cst os ks)->P (iD ks)
def wu{m:Nat}(h:m<=5):(subs m).length<64:=by
 rw[qQ]
 have:m=0\/m=1\/m=2\/m=3\/m=4\/m=5:=by omega
 rcases this with rfl|rfl|rfl|rfl|rfl|rfl <;> decide
def jN{m:Nat}{l:List Int}(h:l∈subs m):jy m l:=⟨(dM m l h).1,(dM m l h).2.1⟩
def jy.inr{m:Nat}{l:List Int}(h:jy m l):InR m l:=⟨h.1.imp λh=>by omega,h.2⟩
def Cv{m:Nat}{ks:List Int}(h:InR m ks):∃l∈subs m,l.Perm ks:=by
 refine⟨_,pA (λx=>decide (x∈ks)) m,(List.perm_ext_iff_of_nodup ?_ h.1).mpr λx=>?_⟩
 ·exact((cG m).filter _).imp λh=>by omega
 ·rw[ġ,iy,decide_eq_true_iff]
  exact⟨λz=>z.2,λz=>⟨h.2 x z,z⟩⟩
def yj{n:Int}{us:List Tie}{os:List Off}{a b:List Int}(h:a.Perm b)(an:mj n us os b):mj n us os a:=λl pr=>by rw[w5 h];exact an l pr
def Jb:∀{a b:List Int},lD a=lD b->a=b:=λ{a b} e=>by
 have e:a.map Í=b.map Í:=by injection e
 exact(List.map_inj_right λx y h=>by injection h).mp e
def oN{os:List Off}{L:List (List Int)}{ps:List (Int×D)}(hp:ps.Perm ((L.map (cst os)).zip (L.map lD))){p:Int×D}:p∈ps↔∃l∈L,p=(cst os l,lD l):=by
 rw[hp.mem_iff,List.zip_map',List.mem_map]
 exact⟨λ⟨l,h,e⟩=>⟨l,h,e.symm⟩,λ⟨l,h,e⟩=>⟨l,h,e.symm⟩⟩
section
variable {P:Program}{w:World}{K:Ñ}{mg:Str->Option Value}{base:Heap}{f:Addr}{fd:FuncData}{PT:Addr}
def NP:FnScope ["web","offers","numbers"] ["web","offers"] (aj (top 38)):=zC
def Er(b:Nat):LamScope ["some"] ["offers"] (Mj (top 38)) [(ð "offers",b)]:=by
 have fr:∀y∈(Mj (top 38)).names,y.2=.free->y.1="offers":=by decide +kernel
 have lw:List.lookup (ð "offers") [(ð "offers",b)]=some b:=by rw[ÿ,beq_self_eq_true]
 have inv:∀x c,List.lookup x [(ð "offers",b)]=some c->x="offers":=λx c h=>by
  rw[ÿ] at h
  cases e1:x == ð "offers" with
  |true=>exact eq_of_beq e1
  |false=>rw[e1] at h;cases h
 refine⟨rfl,rfl,rfl,by decide +kernel,λx hx=>?_,λy hy=>?_,by decide +kernel,λx h=>?_,λx y c h1 h2=>?_⟩
 ·rw[Ò.mp hx];rfl
 ·rw[Ò.mp hy];rfl
 ·have z:x="offers":=fr _ (đ h) rfl
  subst z
  exact⟨_,lw⟩
 ·rw[inv x c h1,inv y c h2]
def Rf(C_cost:∀base,Ü P w K mg base 1 "cost_of" ["offers","numbers"] (spD fCO)){cvs:List V}{base':Heap}{fl c':Addr}{pm ctv:Value}{b:Nat}(hl:cvs.length=1)(e:base'.get? fl=some (Ų "<lambda>" caq (Uq (top 38)) (Uo (top 38)) (Mj (top 38)) [(ð "offers",b)] pm c' ctv))(C:Caps base' [(ð "offers",b)] ["offers"] cvs) :
  ∃fd,FnOk P w K mg base' CX0 3 fl fd ["some"] (Pq caq Cz cvs c')/\Binds K fd ["some"] []:=by
 refine⟨_,Ry (cvs:=cvs) e (λ_ _ _ _ h=>h.1) (Er b) C (λvs H Q E h=>?_) (λA outer s H vs Q E hr h=>?_),.all λus hl=>?_⟩
 ·obtain⟨_,v0,v1,dc,dx,k,_,rfl,_⟩:=h
  rfl
 ·obtain⟨kn,v0,v1,dc,dx,k,rfl,rfl,r0,r1,⟨b,os,ks,rfl,rfl,lk,hk,rfl⟩,kk⟩:=h
  refine⟨_,(ĥ (C_cost base') hr (À (Å 1) (À (Å 0) Á))).h,?_⟩
  refine⟨eF,H,λ_=>none,[.sh (iD ks),.sh (oT b os)],λk d=>d=.int (cst os ks),?_,?_,λkd d v H' hd A rp=>?_⟩
  ·refine⟨λ_ _ e _=>e,trivial,(λ_ _ e=>(nomatch e)),λi s e=>?_,rfl,trivial⟩
   match i,e with
   |0,e=>cases e;exact⟨v1,rfl,r1.mono (λ_ _=>⟨λz=>z,rfl⟩) (λ_ _ _ e=>e) λ_ _ e=>e⟩
   |1,e=>cases e;exact⟨v0,rfl,r0.mono (λ_ _=>⟨λz=>z,rfl⟩) (λ_ _ _ e=>e) λ_ _ e=>e⟩
  ·exact⟨b,os,ks,rfl,lk,hk,rfl⟩
  ·subst hd
   have:=rp.int'
   subst this
   exact kk H' (λb o e=>A.kp b o e λz=>z)
 ·obtain⟨_,rfl⟩:∃a,us=[a]:=by
   match us,hl with
   |[a],_=>exact⟨a,rfl⟩
  rfl
abbrev xCA(P:Program)(w:World)(K:Ñ)(mg:Str->Option Value)(base:Heap)(f c:Addr)(A:Around)(outer:List Env)(s:Shared)(H:Hp)(E:XK):Cx:=(rP CX0 P w K mg base ["web","offers","numbers"] "cheapest_answer" (aj (top 38)) f (.ref c) A outer s H E).nox
def Ud{c:Addr}{oc kV doc pm ct:Value}{od an:Option Addr}{osl:Array (Option Value)}(lk:K.lookup f=some ⟨oc,od,.func (W.fnOf "cheapest_answer" "cheapest_answer" (fu (top 38)) (bO (top 38)) (aj (top 38)) .none kV doc pm an (.ref c) ct),osl⟩)(hcd:W.codeIn K (.ref c) "cheapest_answer"=true)(hC:∀h:Heap,K.In h->W.CodeHd h c PT)(hB:base.BuiltinsAt mg PT)(B:ĝ mg)(C_cost:∀base,Ü P w K mg base 1 "cost_of" ["offers","numbers"] (spD fCO))(C_sets_below:Ü P w K mg base 1 "sets_below" ["count"] (spD fSB))(C_stands:Ü P w K mg base 10 "stands" ["web","falls"] (spD pB))(C_with_offers:Ü P w K mg base 2 "with_offers" ["web","offers","numbers"] (spD eZ)) :
  FnOk P w K mg base CX0 12 f (W.fnOf "cheapest_answer" "cheapest_answer" (fu (top 38)) (bO (top 38)) (aj (top 38)) .none kV doc pm an (.ref c) ct) ["web","offers"] (spT (aY PT) fCA):=by
 refine Js (N:=["web","offers","numbers"]) lk hcd NP vd (λA outer s H vs Q E hr h=>?_)
 have nd:=NP.nd
 letI:=grU (aY PT)
 have SLAM:∀{e:Expr}{te:DE}{p pos kp:Pos},Wr.WD (xCA P w K mg base f c A outer s H E) e te->starEach [e] (xCA P w K mg base f c A outer s H E).env=(false,eval e (xCA P w K mg base f c A outer s H E).env)::starEach [] (xCA P w K mg base f c A outer s H E).env ->
   Wr.WD (xCA P w K mg base f c A outer s H E) (.Call (.Name "sorted" p) [e] [⟨some "key",.Lambda (Uq (top 38)) (Uo (top 38)) (Mj (top 38)) (lamP (top 38)),kp⟩] pos) (tSL 1 Cz te):=λ{e te p pos kp} he hs=>by
  refine⟨PE.wk (yS (X:=xCA P w K mg base f c A outer s H E) (c:=c) (P:=PT) (ys:=["offers"]) (ps:=["some"]) (qual:=caq) (k:=3) (cl:=[(ð "offers",s.heap.objs.size+1)]) (spL:=Pq caq Cz) (λcvs base' fl c' pm ctv hl e C=>Rf C_cost hl e C) (Room.in1 (Room.in1 (hr.mono (show 5<=11 by decide)))) rfl B.sorted he.h rfl rfl rfl rfl (hC base) (λ_=>hB) (λ_=>rfl) ?_ ?_ hs) (LK rfl)⟩
  ·intro y b h
   exact h
  ·intro y hy
   rw[Ò.mp hy]
   exact⟨rfl,_,rfl⟩
 refine⟨_,PSs.nox (Ĝ (ê (Wr.nA Ņ rfl (œ (SLAM (ĥ C_sets_below hr (À (ļ B.len (À (Å 1) Á)) Á)) rfl)) (Ĉ (i:=2) nd rfl zQ) (ê (Ĺ (Ħ (ĥ C_stands hr (À (ĥ C_with_offers hr (À (Å 0) (À (Å 1) (À (Å 2) Á)))) (À Ä Á)))) (ã (é (Å 2))) ú) (Wr.lO [2] ú)))
  (Wr.lO [2] (ã (é Wr.gD))))),JD h ?_⟩
 rintro ds P ⟨n,us,b,os,rfl,n1,n8,lu,ou,lo,oo,q0,q1⟩
 have lmo:(os.map oD).length=os.length:=Ã ..
 have fin:∀ps:List (Int×D),ps.Perm (((subs os.length).map (cst os)).zip ((subs os.length).map lD))->ps.Pairwise (λp q=>p.1<=q.1)->∀(i:Nat) (p:Int×D),ps[i]?=some p->(∀p∈ps.take i,∀l∈subs os.length,p=(cst os l,lD l)->¬mj n us os l)->∀l∈subs os.length,p=(cst os l,lD l)->mj n us os l->Ny n us os (cst os l):=λps hp hw i p hpi al l hl e an ks ir an2=>by
  obtain⟨l',hl',pp⟩:=Cv ir
  have m':=(oN hp (p:=(cst os l',lD l'))).mpr ⟨l',hl',rfl⟩
  obtain⟨j,hj,ej⟩:=List.getElem_of_mem m'
  have hi:i<ps.length:=(Þ.mp hpi).1
  have ei:ps[i]=p:=(Þ.mp hpi).2
  rw[←JR pp]
  rcases Nat.lt_trichotomy i j with z|z|z
  ·have:=List.pairwise_iff_getElem.mp hw i j hi hj z
   rw[ei,ej,e] at this
   exact this
  ·subst z
   rw[ei,e] at ej
   rw[(Prod.mk.inj ej).1]
   exact Int.le_refl _
  ·refine absurd (yj pp an2) (al (cst os l',lD l') ?_ l' hl' rfl)
   rw[←ej]
   exact List.mem_take_iff_getElem.mpr ⟨j,by omega,rfl⟩
 have nin:∀ps:List (Int×D),ps.Perm (((subs os.length).map (cst os)).zip ((subs os.length).map lD))->(∀p∈ps,∀l∈subs os.length,p=(cst os l,lD l)->¬mj n us os l)->∀ks,InR os.length ks->¬mj n us os ks:=λps hp al ks ir an=>by
  obtain⟨l,hl,pp⟩:=Cv ir
  exact al _ ((oN hp).mpr ⟨l,hl,rfl⟩) l hl rfl (yj pp an)
 have hgk:∀(j:Nat) (x:D) (c:Int),((subs os.length).map lD)[j]?=some x->((subs os.length).map (cst os))[j]?=some c->Cz (oT b os) x c:=λj x c h1 h2=>by
  rw[à] at h1 h2
  obtain⟨l,hl,rfl⟩:=Ľ.mp h1
  rw[hl] at h2
  cases h2
  have ml:=Ó hl
  obtain⟨_,hr,hll⟩:=dM _ l ml
  exact⟨b,os,l,rfl,rfl,by omega,hr,rfl⟩
 cases b with
 |true =>
  refine⟨[.im (au n us),.sh (.list (os.map oD)),.any],by show [aB (au n us),aB (oT true os),.any]=_;rw[Ģ,cZ];rfl,?_⟩
  refine⟨_,rfl,by omega,by omega,?_⟩
  refine⟨(subs os.length).map lD,(subs os.length).map (cst os),oT true os,by show Ċ ((subs ((((os.map oD).length:Nat):Int)).toNat).map lD)=_;rw[lmo,Ļ],.inl rfl,by rw[Ã,Ã],by rw[Ã];exact wu lo,hgk,λps hp hw=>?_⟩
  refine⟨rfl,λ(i:Nat) ρ=>ρ=[.im (au n us),.sh (.list (os.map oD)),.any]/\∀p∈ps.take i,∀l∈subs os.length,p=(cst os l,lD l)->¬mj n us os l,⟨rfl,λp h=>nomatch h⟩,?_,?_⟩
  ·rintro i d ρ hd ⟨rfl,al⟩
   rw[à] at hd
   obtain⟨p,hpi,rfl⟩:=Ľ.mp hd
   obtain⟨l,hl,e⟩:=(oN hp).mp (Ó hpi)
   obtain⟨_,hrr,hll⟩:=dM _ l hl
   have ed:p.2=iD l:=by rw[e];rfl
   rw[ed]
   refine⟨n,us,true,os,l,rfl,by omega,by omega,ou,by omega,oo,jN hl,λws hpw=>?_⟩
   have lw:ws.length<=100:=by
    rw[hpw.length_eq,Ð,Ã]
    unfold dI
    rw[Ã]
    omega
   refine⟨n,ws,1,rfl,n1,n8,lw,λbb hb=>bQ (λc=>?_) (λc=>?_)⟩
   ·have an:=(cD n1 n8 ou oo hrr hpw).mp (hb.mp c)
    exact⟨rfl,q1 l (jN hl) an (fin ps hp hw i p hpi al l hl e an)⟩
   ·refine⟨rfl,λp' hp' l' hl' e'=>?_⟩
    rw[Ğ,hpi] at hp'
    rcases Ø.mp hp' with z|z
    ·exact al p' z l' hl' e'
    ·have z:p'=p:=by simpa using z
     rw[z,e] at e'
     have el:=Jb (Prod.mk.inj e').2
     rw[←el]
     exact λan=>c (hb.mpr ((cD n1 n8 ou oo hrr hpw).mpr an))
  ·rintro ρ ⟨rfl,al⟩
   rw[Ã,Ĩ] at al
   exact⟨rfl,q0 (nin ps hp al)⟩
 |false =>
  refine⟨[.im (au n us),.im (.tuple (os.map oD)),.any],by show [aB (au n us),aB (oT false os),.any]=_;rw[Ģ,cZ];rfl,?_⟩
  refine⟨_,rfl,by omega,by omega,?_⟩
  refine⟨(subs os.length).map lD,(subs os.length).map (cst os),oT false os,by show Ċ ((subs ((((os.map oD).length:Nat):Int)).toNat).map lD)=_;rw[lmo,Ļ],.inr rfl,by rw[Ã,Ã],by rw[Ã];exact wu lo,hgk,λps hp hw=>?_⟩
  refine⟨rfl,λ(i:Nat) ρ=>ρ=[.im (au n us),.im (.tuple (os.map oD)),.any]/\∀p∈ps.take i,∀l∈subs os.length,p=(cst os l,lD l)->¬mj n us os l,⟨rfl,λp h=>nomatch h⟩,?_,?_⟩
  ·rintro i d ρ hd ⟨rfl,al⟩
   rw[à] at hd
   obtain⟨p,hpi,rfl⟩:=Ľ.mp hd
   obtain⟨l,hl,e⟩:=(oN hp).mp (Ó hpi)
   obtain⟨_,hrr,hll⟩:=dM _ l hl
   have ed:p.2=iD l:=by rw[e];rfl
   rw[ed]
   refine⟨n,us,false,os,l,rfl,by omega,by omega,ou,by omega,oo,jN hl,λws hpw=>?_⟩
   have lw:ws.length<=100:=by
    rw[hpw.length_eq,Ð,Ã]
    unfold dI
    rw[Ã]
    omega
   refine⟨n,ws,1,rfl,n1,n8,lw,λbb hb=>bQ (λc=>?_) (λc=>?_)⟩
   ·have an:=(cD n1 n8 ou oo hrr hpw).mp (hb.mp c)
    exact⟨rfl,q1 l (jN hl) an (fin ps hp hw i p hpi al l hl e an)⟩
   ·refine⟨rfl,λp' hp' l' hl' e'=>?_⟩
    rw[Ğ,hpi] at hp'
    rcases Ø.mp hp' with z|z
    ·exact al p' z l' hl' e'
    ·have z:p'=p:=by simpa using z
     rw[z,e] at e'
     have el:=Jb (Prod.mk.inj e').2
     rw[←el]
     exact λan=>c (hb.mpr ((cD n1 n8 ou oo hrr hpw).mpr an))
  ·rintro ρ ⟨rfl,al⟩
   rw[Ã,Ĩ] at al
   exact⟨rfl,q0 (nin ps hp al)⟩
end
def fCh(ds:List D)(P:D->Prop):Prop:=∃(n:Int) (us:List Tie) (b:Bool) (os:List Off),ds=[au n us,oT b os]/\1<=n/\n<=8/\us.length<=40/\OkN n us/\os.length<=5/\OkO n os/\(∀l,Proper n l->(∀ks,InR os.length ks->¬mj n us os ks)->P (.tuple [.str "barred",iD l])) /\
 ∀ks t,jy os.length ks->mj n us os ks->Ny n us os (cst os ks)->t.Ok n os.length 5->hL us os (cst os ks) t [] []=true->P (.tuple [.str "cheapest",.int (cst os ks),iD ks,t.D])
def yh(us:List Tie)(os:List Off)(num:Int):At41 us os num [] [] us (d8 os.length) num:=⟨List.Pairwise.nil,(λk hk=>nomatch hk),(λk hk=>nomatch hk),by show us.Perm (us++[]);rw[í],by
 unfold cY
 rw[List.filter_eq_self.mpr]
 intro k hk
 rfl,by show num=num - 0;omega⟩
section
variable {P:Program}{w:World}{K:Ñ}{mg:Str->Option Value}{base:Heap}{f:Addr}{fd:FuncData}{CN PT:Addr}
def nQ:FnScope ["web","offers","every","numbers","cost"] ["web","offers"] (aj (top 40)):=zC
def wX(F:Fun K "cheapest" "cheapest" (top 40) f fd)(B:ĝ mg)(C_check_offers:ň P w K mg base 5 "check_offers" ["web","thing"] (spX (fj CN)))(C_cheapest_answer:Ü P w K mg base 12 "cheapest_answer" ["web","offers"] (spT (aY PT) fCA))(C_needy_set:Ü P w K mg base 9 "needy_set" ["web","falls"] (spD iT))(C_with_offers:Ü P w K mg base 2 "with_offers" ["web","offers","numbers"] (spD eZ))(C_cost_of:Ü P w K mg base 1 "cost_of" ["offers","numbers"] (spD fCO))(C_tree_for:Ü P w K mg base 18 "tree_for" ["made","offers","free","asked"] (spD (fTF 6))):FnOk P w K mg base CX0 19 f fd ["web","offers"] (spT (aY PT) fCh):=by
 refine F.ok nQ vd (λcdv A outer s H vs Q E hr h=>?_)
 have nd:=nQ.nd
 letI:=grU (aY PT)
 refine⟨_,Ĝ (ê (Wr.jr (Wr.dcF C_check_offers hr (À (Å 0) (À (Å 1) Á))))
  (ê (ĳ none (i:=2) nd rfl zQ (Wr.gF rfl B.list B.range (À (ļ B.len (À (Å 1) Á)) Á)))
  (ê (ĳ none (i:=3) nd rfl zQ (Wr.dcU C_cheapest_answer hr (À (Å 0) (À (Å 1) Á))))
  (ê (Ĺ (Wr.uI (Å 3) Wr.gD) (ã (é (Ú (À ĉ (À (ĥ C_needy_set hr (À (ĥ C_with_offers hr (À (Å 0) (À (Å 1) (À (Å 2) Á)))) (À Ä Á))) Á))))) ú)
  (ê (ĳ none (i:=4) nd rfl zQ (ĥ C_cost_of hr (À (Å 1) (À (Å 3) Á))))
  (ã (é (Ú (À ĉ (À (Å 4) (À (Å 3) (À (ĥ C_tree_for hr (À (Å 0) (À (Å 1) (À (Å 2) (À (Å 4) Á))))) Á)))))))))))),JD h ?_⟩
 rintro ds P ⟨n,us,b,os,rfl,n1,n8,lu,ou,lo,oo,q0,q1⟩
 have lmo:(os.map oD).length=os.length:=Ã ..
 have eR:∀k:Nat,k=os.length->Ċ (cR 0 (((k:Nat):Int) - 0).toNat)=iD (d8 os.length):=λk e=>by
  subst e
  rw[Int.sub_zero,Ļ]
  unfold d8
  show Ċ ((á os.length).map _)=Ċ (List.map Í _)
  rw[ï]
  rfl
 have hR:∀k∈d8 os.length,0<=k/\k<((os.length:Nat):Int):=λk hk=>jV.mp hk
 have lR:(d8 os.length).length=os.length:=by
  unfold d8
  rw[Ã,List.length_range]
 cases b with
 |true =>
  refine⟨[.im (au n us),.sh (.list (os.map oD)),.any,.any,.any],by show [aB (au n us),aB (oT true os),.any,.any,.any]=_;rw[Ģ,cZ];rfl,?_⟩
  refine⟨n,us,oT true os,rfl,nj true (by omega),.inr ⟨fU true (by omega) oo,?_⟩⟩
  refine⟨⟨by omega,by omega⟩,?_⟩
  refine⟨n,us,true,os,rfl,n1,n8,lu,ou,lo,oo,λno=>?_,λks rk an lb=>?_⟩
  ·refine aH (B:=True) ?_
   refine⟨n,us,true,os,d8 os.length,?_,by omega,by omega,ou,by omega,oo,⟨cG _,hR⟩,λws hw=>?_⟩
   ·show [au n us,oT true os,.list (cR 0 ((((os.map oD).length:Nat):Int) - 0).toNat)]=_
    rw[eR _ lmo]
   have lw:ws.length<=100:=by
    rw[hw.length_eq,Ð,Ã]
    unfold dI
    rw[Ã]
    omega
   refine⟨n,ws,1,rfl,n1,n8,lw,λd hd=>?_⟩
   rcases hd with ⟨rfl,st⟩|⟨l,rfl,ml,pr,cl⟩
   ·exact absurd ((cD n1 n8 ou oo hR hw).mp st) (no _ ⟨(cG _).imp λh=>by omega,hR⟩)
   ·exact⟨zK,rfl,q0 l pr no⟩
  ·refine aL (A:=True) ?_
   have lk:=rk.len
   refine⟨true,os,ks,rfl,by omega,rk.2,?_⟩
   refine⟨n,us,us,true,os,d8 os.length,cst os ks,cst os ks,[],[],?_,n1,n8,lu,ou,by omega,oo,yh us os _,(show(d8 os.length).length<=5 by omega),lb,λt h1 h2=>?_⟩
   ·show [au n us,oT true os,.list (cR 0 ((((os.map oD).length:Nat):Int) - 0).toNat),.int (cst os ks)]=_
    rw[eR _ lmo]
   refine⟨zK,?_,q1 ks t rk an lb h1 h2⟩
   show(norm (joins [(Kd.imm,PyData.str (ð "cheapest")),(.imm,.int (cst os ks)),(.snw,iD ks),(norm .new t.D,t.D)]) (.tuple [.str (ð "cheapest"),.int (cst os ks),iD ks,t.D])).le .n0=true
   rw[Ř (j9 t)]
   exact yJ _
 |false =>
  refine⟨[.im (au n us),.im (.tuple (os.map oD)),.any,.any,.any],by show [aB (au n us),aB (oT false os),.any,.any,.any]=_;rw[Ģ,cZ];rfl,?_⟩
  refine⟨n,us,oT false os,rfl,nj false (by omega),.inr ⟨fU false (by omega) oo,?_⟩⟩
  refine⟨⟨by omega,by omega⟩,?_⟩
  refine⟨n,us,false,os,rfl,n1,n8,lu,ou,lo,oo,λno=>?_,λks rk an lb=>?_⟩
  ·refine aH (B:=True) ?_
   refine⟨n,us,false,os,d8 os.length,?_,by omega,by omega,ou,by omega,oo,⟨cG _,hR⟩,λws hw=>?_⟩
   ·show [au n us,oT false os,.list (cR 0 ((((os.map oD).length:Nat):Int) - 0).toNat)]=_
    rw[eR _ lmo]
   have lw:ws.length<=100:=by
    rw[hw.length_eq,Ð,Ã]
    unfold dI
    rw[Ã]
    omega
   refine⟨n,ws,1,rfl,n1,n8,lw,λd hd=>?_⟩
   rcases hd with ⟨rfl,st⟩|⟨l,rfl,ml,pr,cl⟩
   ·exact absurd ((cD n1 n8 ou oo hR hw).mp st) (no _ ⟨(cG _).imp λh=>by omega,hR⟩)
   ·exact⟨zK,rfl,q0 l pr no⟩
  ·refine aL (A:=True) ?_
   have lk:=rk.len
   refine⟨false,os,ks,rfl,by omega,rk.2,?_⟩
   refine⟨n,us,us,false,os,d8 os.length,cst os ks,cst os ks,[],[],?_,n1,n8,lu,ou,by omega,oo,yh us os _,(show(d8 os.length).length<=5 by omega),lb,λt h1 h2=>?_⟩
   ·show [au n us,oT false os,.list (cR 0 ((((os.map oD).length:Nat):Int) - 0).toNat),.int (cst os ks)]=_
    rw[eR _ lmo]
   refine⟨zK,?_,q1 ks t rk an lb h1 h2⟩
   show(norm (joins [(Kd.imm,PyData.str (ð "cheapest")),(.imm,.int (cst os ks)),(.snw,iD ks),(norm .new t.D,t.D)]) (.tuple [.str (ð "cheapest"),.int (cst os ks),iD ks,t.D])).le .n0=true
   rw[Ř (j9 t)]
   exact yJ _
@[irreducible] def Ey(ds:List D)(P:D->Prop):Prop:=fCh ds P
def M6{ds:List D}{P:D->Prop}(h:fCh ds P):Ey ds P:=by
 unfold Ey
 exact h
def QT(F:Fun K "cheapest" "cheapest" (top 40) f fd)(B:ĝ mg)(C1:ň P w K mg base 5 "check_offers" ["web","thing"] (spX (fj CN)))(C2:Ü P w K mg base 12 "cheapest_answer" ["web","offers"] (spT (aY PT) fCA))(C3:Ü P w K mg base 9 "needy_set" ["web","falls"] (spD iT))(C4:Ü P w K mg base 2 "with_offers" ["web","offers","numbers"] (spD eZ))(C5:Ü P w K mg base 1 "cost_of" ["offers","numbers"] (spD fCO))(C6:Ü P w K mg base 18 "tree_for" ["made","offers","free","asked"] (spD (fTF 6))):FnOk P w K mg base CX0 19 f fd ["web","offers"] (spT (aY PT) Ey) :=
 (wX F B C1 C2 C3 C4 C5 C6).imp λvs H Q E ⟨ds,P,pi,r,t,k⟩=>⟨ds,P,pi,r,by unfold Ey at t;exact t,k⟩
end
def RG(ds:List D)(P:D->Prop):Prop:=∃(n:Int) (us:List Tie) (b:Bool) (os:List Off) (d:D),ds=[au n us,oT b os,d]/\us.length<=40/\1<=n/\n<=8/\OkN n us/\os.length<=8/\OkO n os/\Few d/\(yM (os.length:Nat) d=false\/∃ks,d=iD ks/\jy os.length ks)/\∀x:Bool,P (.bool x)
def Bo{m:Nat}{ks:List Int}(h:jy m ks):yM (m:Int) (iD ks)=true:=by
 show((ks.map Í).all (aJ (m:Int))&&jW ((ks.map Í).map toI))=true
 rw[uq,Î]
 refine⟨Ą.mpr λd hd=>?_,Ą.mpr λt ht=>decide_eq_true (tD h.1 t ht)⟩
 obtain⟨k,hk,rfl⟩:=Ă.mp hd
 exact decide_eq_true (h.2 k hk)
section
variable {P:Program}{w:World}{K:Ñ}{mg:Str->Option Value}{base:Heap}{f:Addr}{fd:FuncData}{CN:Addr}
def jT:FnScope ["web","offers","numbers"] ["web","offers","numbers"] (aj (top 37)):=zC
def uV(F:Fun K "is_answer" "is_answer" (top 37) f fd)(B:ĝ mg)(C_check_offers:ň P w K mg base 5 "check_offers" ["web","thing"] (spX (fj CN)))(C_stands:Ü P w K mg base 10 "stands" ["web","falls"] (spD pB))(C_with_offers:Ü P w K mg base 2 "with_offers" ["web","offers","numbers"] (spD eZ))(C_is_rising:Ü P w K mg base 3 "is_rising" ["limit","thing"] (spD pC)):FnOk P w K mg base CX0 11 f fd ["web","offers","numbers"] (spD RG):=by
 refine F.ok jT Ĕ (λcdv A outer s H vs Q E hr h=>?_)
 have nd:=jT.nd
 refine⟨_,Ĝ (ê (Wr.jr (Wr.dcF C_check_offers hr (À (Å 0) (À (Å 1) Á))))
  (ã (é (ŝ (ĥ C_is_rising hr (À (ļ B.len (À (Å 1) Á)) (À (Å 2) Á))) (Wr.cF (ĥ C_stands hr (À (ĥ C_with_offers hr (À (Å 0) (À (Å 1) (À (Å 2) Á)))) (À Ä Á)))))))),aR h ?_⟩
 rintro ds P ⟨n,us,b,os,d,rfl,lu,n1,n8,ou,lo,oo,few,x,q⟩
 have eL:[Í (((os.map oD).length:Nat):Int),d]=[.int ((os.length:Nat):Int),d]:=by rw[Ã]
 cases b with
 |true =>
  refine⟨[.im (au n us),.sh (.list (os.map oD)),aB d],?_,?_⟩
  ·show [aB (au n us),aB (oT true os),aB d]=_
   rw[Ģ,cZ]
   rfl
  rcases bB d with e2|e2 <;> rw[e2] <;> refine⟨n,us,oT true os,rfl,nj true lo,.inr ⟨fU true lo oo,((os.length:Nat):Int),d,eL,few,?_⟩⟩
  all_goals
   rcases x with x1|⟨ks,rfl,x1⟩
   ·rw[x1]
    exact aL (A:=True) ⟨rfl,q _⟩
   ·rw[Bo x1]
    refine aH (B:=True) ⟨n,us,true,os,ks,rfl,by omega,by omega,ou,lo,oo,x1,λws hp=>⟨n,ws,1,rfl,n1,n8,?_,λb hb=>⟨rfl,q b⟩⟩⟩
    rw[hp.length_eq,Ð,Ã]
    unfold dI
    rw[Ã]
    have:=x1.len
    omega
 |false =>
  refine⟨[.im (au n us),.im (.tuple (os.map oD)),aB d],?_,?_⟩
  ·show [aB (au n us),aB (oT false os),aB d]=_
   rw[Ģ,cZ]
   rfl
  rcases bB d with e2|e2 <;> rw[e2] <;> refine⟨n,us,oT false os,rfl,nj false lo,.inr ⟨fU false lo oo,((os.length:Nat):Int),d,eL,few,?_⟩⟩
  all_goals
   rcases x with x1|⟨ks,rfl,x1⟩
   ·rw[x1]
    exact aL (A:=True) ⟨rfl,q _⟩
   ·rw[Bo x1]
    refine aH (B:=True) ⟨n,us,false,os,ks,rfl,by omega,by omega,ou,lo,oo,x1,λws hp=>⟨n,ws,1,rfl,n1,n8,?_,λb hb=>⟨rfl,q b⟩⟩⟩
    rw[hp.length_eq,Ð,Ã]
    unfold dI
    rw[Ã]
    have:=x1.len
    omega
end
section
variable {P:Program}{w:World}{K:Ñ}{mg:Str->Option Value}{base:Heap}{f:Addr}{fd:FuncData}{CN:Addr}
def nJ:FnScope ["_law_e","_law_some","_law_found"] ["_law_e"] (aj (top 58)):=zC
def jC:(["_law_word","_law_one","_law_e","_law_some","_law_found"]:List Str).Nodup:=by decide +kernel
def wQ{CF c1 c2 c3 c4 c5 c6 c7 c8 c9:Addr}(F:Fun K "_law_kind" "_law_kind" (top 58) f fd)(B:ĝ mg)(R:Dl.RefK K mg "NoOffers" ["NoBack","NoOrder","NoPlace","NoRow","NoSet","NoText","NoTie","NoWeb","TooMany"] CN CF c1 c2 c3 c4 c5 c6 c7 c8 c9):FnOkH P w K mg base 1 f fd ["_law_e"] (oR CN "offers"):=by
 refine F.okH nJ (λq vs H Q E h=>by rw[h.1];rfl) (λcdv A outer s H vs Q q hr hz h=>?_)
 obtain⟨a,oe,u⟩:=q
 obtain⟨rfl,hu,q⟩:=h
 have hu:u=jx a (.ref CN):=hu
 subst hu
 have nd:=nJ.nd
 letI:=grH (a,oe,jx a (.ref CN))
 refine⟨_,Ĝ (ê (ĳ none (i:=1) nd rfl zQ (þ (À (Ú (À ĉ (À (Ű (a:=a) (oe:=oe) (CN:=CN) B.isinstance R.kx (č 0) (cL (v:=.ref c5) rfl R.m5 rfl) (R.no (.ref c5) (by simp)) (λu z=>z)) Á))) (À (Ú (À ĉ (À (Ű (a:=a) (oe:=oe) (CN:=CN) B.isinstance R.kx (č 0) (cL (v:=.ref CN) rfl R.mN rfl) R.one (λu z=>z)) Á))) (À (Ú (À ĉ (À (Ű (a:=a) (oe:=oe) (CN:=CN) B.isinstance R.kx (č 0) (cL (v:=.ref c8) rfl R.m8 rfl) (R.no (.ref c8) (by simp)) (λu z=>z)) Á))) Á)))))
  (ê (ĳ none (i:=1) nd rfl zQ (Ũ (Å 1) (þ (À (Ú (À ĉ (À (Ű (a:=a) (oe:=oe) (CN:=CN) B.isinstance R.kx (č 0) (cL (v:=.ref c3) rfl R.m3 rfl) (R.no (.ref c3) (by simp)) (λu z=>z)) Á))) (À (Ú (À ĉ (À (Ű (a:=a) (oe:=oe) (CN:=CN) B.isinstance R.kx (č 0) (cL (v:=.ref c7) rfl R.m7 rfl) (R.no (.ref c7) (by simp)) (λu z=>z)) Á))) (À (Ú (À ĉ (À (Ű (a:=a) (oe:=oe) (CN:=CN) B.isinstance R.kx (č 0) (cL (v:=.ref c9) rfl R.m9 rfl) (R.no (.ref c9) (by simp)) (λu z=>z)) Á))) Á))))))
  (ê (ĳ none (i:=1) nd rfl zQ (Ũ (Å 1) (þ (À (Ú (À ĉ (À (Ű (a:=a) (oe:=oe) (CN:=CN) B.isinstance R.kx (č 0) (cL (v:=.ref c1) rfl R.m1 rfl) (R.no (.ref c1) (by simp)) (λu z=>z)) Á))) (À (Ú (À ĉ (À (Ű (a:=a) (oe:=oe) (CN:=CN) B.isinstance R.kx (č 0) (cL (v:=.ref c2) rfl R.m2 rfl) (R.no (.ref c2) (by simp)) (λu z=>z)) Á))) (À (Ú (À ĉ (À (Ű (a:=a) (oe:=oe) (CN:=CN) B.isinstance R.kx (č 0) (cL (v:=.ref c6) rfl R.m6 rfl) (R.no (.ref c6) (by simp)) (λu z=>z)) Á))) Á))))))
  (ê (Wr.Fd none ["_law_word","_law_one"] (i:=2) ⟨_,.head _⟩ nd rfl zQ (Wr.vJ (Ũ (Å 1) (þ (À (Ú (À ĉ (À (Ű (a:=a) (oe:=oe) (CN:=CN) B.isinstance R.kx (č 0) (cL (v:=.ref c4) rfl R.m4 rfl) (R.no (.ref c4) (by simp)) (λu z=>z)) Á))) Á)))) (λc=>(Wr.vK (n:=2) ⟨_,.head _⟩ (Wr.cA (Ĉ (i:=0) jC rfl zQ) (Wr.cA (Ĉ (i:=1) jC rfl zQ) Wr.jt)))) (λc=>(Wr.dR (Ħ (Å 1)))) (λc=>(Å 0)))
  (ê (Ĺ (Wr.wpt (ŭ (ř hr.units (ļ B.len (À (Å 2) Á)) Ä) (Wr.cB (ŧ (Ħ (Ű (a:=a) (oe:=oe) (CN:=CN) B.isinstance R.kx (č 0) (jZ (v:=.ty "ValueError") rfl R.mV rR rfl) R.val (λu z=>z))))))) (ã (é ĉ)) ú)
  (ã (é (õ (Å 2) Ä)))))))),RL hz q (by decide) ?_⟩
 refine⟨rfl,zK,rfl,zK,rfl,zK,zK,?_⟩
 refine jf (.inl rfl) ?_
 refine⟨rfl,zK,rfl,zK,rfl,zK,zK,?_⟩
 refine⟨zK,.inl ⟨rfl,?_⟩⟩
 refine jf (.inl rfl) ?_
 refine⟨rfl,zK,rfl,zK,rfl,zK,zK,?_⟩
 refine⟨zK,.inl ⟨rfl,?_⟩⟩
 refine jf (.inl rfl) ?_
 refine⟨rfl,zK,zK,zK,.inl ⟨rfl,?_⟩⟩
 refine sX [(("set":Str),false),("offers",true),("web",false),("place",false),("tie",false),("many",false),("back",false),("order",false),("text",false),("row",false)] (λx=>Ŋ [.str x.1,.bool x.2]) (λx=>x.2) (λx=>PyData.str x.1) .imm rfl (by decide) (λx hx A B hA hB=>⟨rfl,?_⟩) ?_
 ·show if x.2=true then _ else _
  exact bQ (λc=>⟨rfl,hA c⟩) (λc=>hB (by simpa using c))
 show vL 2 none (λ_ P=>P .new (.list [.str "offers"])) _ _
 refine jf (.inl rfl) ?_
 refine aL (A:=True) ⟨rfl,aL (A:=True) ⟨.str "offers",rfl,rfl,rfl⟩⟩
end
def Bd(CN:Addr):Sp:=λvs H Q E=>spD RG vs H Q E\/sG CN 1 vs H Q E
def Bc(CN PT:Addr):Sp:=λvs H Q E=>spT (aY PT) Ey vs H Q E\/sG CN 0 vs H Q E
def Bb(CN:Addr):Sp:=λvs H Q E=>spD fTH vs H Q E\/sG CN 2 vs H Q E
def R9(m:Nat)(d:D):Prop:=Few d/\(yM (m:Int) d=false\/∃ks,d=iD ks/\jy m ks)/\∃t:Bt,t.D=d/\t.Ok 7
def fWd(ds:List D)(P:D->Prop):Prop:=∃(n:Int) (us:List Tie) (o x:D),ds=[au n us,o,x]/\1<=n/\n<=8/\us.length<=40/\OkN n us /\
 ((∃b os,o=oT b os/\os.length<=5/\OkO n os/\R9 os.length x/\P (.list []))\/(J2 o/\iC n o=false/\P (.list [.str "offers",.str "offers",.str "offers"])))
def Qc{ok:Addr->Prop}{H:Hp}{v0 v1 v2:V}{d0 d1 d2:D}(h:Rps ok H [v0,v1,v2] [d0,d1,d2]):Rp ok H v0 d0/\Rp ok H v1 d1/\Rp ok H v2 d2:=by
 cases h with
 |cons a r =>
  cases r with
  |cons b r =>
   cases r with
   |cons c r=>exact⟨a,b,c⟩
section
variable {P:Program}{w:World}{K:Ñ}{mg:Str->Option Value}{base:Heap}{f:Addr}{fd:FuncData}{CN PT:Addr}
def Lk(F:Fun K "is_answer" "is_answer" (top 37) f fd)(G:FnOk P w K mg base CX0 11 f fd ["web","offers","numbers"] (spD RG))(C:ň P w K mg base 5 "check_offers" ["web","thing"] (spX (fj CN))):FnOk P w K mg base (CX1 P w) 11 f fd ["web","offers","numbers"] (Bd CN):=FnOk.or G.up1 ((Nt F C).mono (by decide))
def Lh(F:Fun K "cheapest" "cheapest" (top 40) f fd)(G:FnOk P w K mg base CX0 19 f fd ["web","offers"] (spT (aY PT) Ey))(C:ň P w K mg base 5 "check_offers" ["web","thing"] (spX (fj CN))):FnOk P w K mg base (CX1 P w) 19 f fd ["web","offers"] (Bc CN PT):=FnOk.or G.up1 ((Nr F C).mono (by decide))
def La(F:Fun K "tree_holds" "tree_holds" (top 51) f fd)(G:FnOk P w K mg base CX0 27 f fd ["web","offers","number","tree"] (spD fTH))(C:ň P w K mg base 5 "check_offers" ["web","thing"] (spX (fj CN))):FnOk P w K mg base (CX1 P w) 27 f fd ["web","offers","number","tree"] (Bb CN):=FnOk.or G.up1 ((Nq F C).mono (by decide))
def NK:FnScope ["_law_web_here","_law_offers_here","_law_extra","_law_words_here","_law_pick","_law_e"] ["_law_web_here","_law_offers_here","_law_extra"] (aj (top 62)):=zC
def Ua{xs:List Str}{CF c1 c2 c3 c4 c5 c6 c7 c8 c9:Addr}(F:Fun K "_law_words" "_law_words" (top 62) f fd)(B:ĝ mg)(R:Dl.RefK K mg "NoOffers" xs CN CF c1 c2 c3 c4 c5 c6 c7 c8 c9)(AN:ň P w K mg base 11 "is_answer" ["web","offers","numbers"] (Bd CN))(CH:ň P w K mg base 19 "cheapest" ["web","offers"] (Bc CN PT))(TH:ň P w K mg base 27 "tree_holds" ["web","offers","number","tree"] (Bb CN))(KD:L2.CalH P w K mg base 1 "_law_kind" ["_law_e"] (oR CN "offers")):FnOk P w K mg base CX0 28 f fd ["_law_web_here","_law_offers_here","_law_extra"] (spT (aY PT) fWd):=by
 refine F.ok NK vd (λcdv A outer s H vs Q E hr h=>?_)
 obtain⟨ds,P',pi,rs,⟨n,us,o,x,rfl,n1,n8,lu,ou,hx⟩,q⟩:=h
 obtain⟨v0,v1,v2,rfl⟩:∃v0 v1 v2,vs=[v0,v1,v2]:=by
  have:=rs.length
  match vs,this with
  |[a,b,c],_=>exact⟨a,b,c,rfl⟩
 have nd:=NK.nd
 obtain⟨f2,fd2,F2,b2,kp2,m2⟩:=AN.ex
 obtain⟨f3,fd3,F3,b3,kp3,m3⟩:=CH.ex
 obtain⟨f4,fd4,F4,b4,kp4,m4⟩:=TH.ex
 refine⟨_,aQ (dg (i:=3) nd rfl (Ń rfl) (qb ō))
  (aQ (yN Ņ rfl (ji rfl B.range (Ć Đ ō)) (dO (i:=4) nd rfl (Ń rfl))
   (bH (Ky (N8 (eH wO (pv 4) Đ (bx _))
   (qx (j:=5) rfl rfl F2 (hr.mono (by decide)) rfl m2 kp2 b2 (Ć (pv 0) (Ć (pv 1) (Ć (pv 2) ō))) rfl R.mF nd rfl rfl (λa=>bH (dz (qe ģ Ō ŋ fV (pv 3) (Ć (qd KD hr (Ć (pv 5) ō) (by decide) (by rfl) (by decide) (by rfl) (by rfl)) ō)))))
   (N8 (eH wO (pv 4) Đ (bx _))
   (qx (j:=5) rfl rfl F3 (hr.mono (by decide)) rfl m3 kp3 b3 (Ć (pv 0) (Ć (pv 1) ō)) rfl R.mF nd rfl rfl (λa=>bH (dz (qe ģ Ō ŋ fV (pv 3) (Ć (qd KD hr (Ć (pv 5) ō) (by decide) (by rfl) (by decide) (by rfl) (by rfl)) ō)))))
   (qx (j:=5) rfl rfl F4 (hr.mono (by decide)) rfl m4 kp4 b4 (Ć (pv 0) (Ć (pv 1) (Ć Đ (Ć (pv 2) ō)))) rfl R.mF nd rfl rfl (λa=>bH (dz (qe ģ Ō ŋ fV (pv 3) (Ć (qd KD hr (Ć (pv 5) ō) (by decide) (by rfl) (by decide) (by rfl) (by rfl)) ō))))))))))
  (bH (gq (pv 3)))),?_⟩
 refine⟨by show 0<=sizeLine;decide,λL hL=>?_⟩
 have a1:=fJ hL (.lst [])
 have pk:∀H1 H2:Hp,(aY PT).PI H1->Same H1 H2->(aY PT).PI H2:=λH1 H2 p sm=>(aY PT).mono H1 H2 p λb o _ e=>sm b o e
 have nL:¬(aY PT).fp L:=λz=>by
  obtain⟨u,e,_⟩:=(aY PT).is H L pi z
  rw[hL] at e
  cases e
 have rgo:∀H':Hp,Kp (aY PT) H H'->Rps (λa=>¬(aY PT).fp a) H' [v0,v1,v2] [au n us,o,x]:=λH' kp=>rs.mono (λ_ z=>z) (λa u nf e=>kp a u e nf) (λa ys e=>kp a _ e λz=>by
  obtain⟨u,e2,nt,_⟩:=(aY PT).is H a pi z
  rw[e] at e2
  cases e2
  exact nt _ rfl)
 rcases hx with ⟨b,os,rfl,lo,oo,⟨few,ri,t,rfl,ot⟩,hP⟩|⟨fw,no,hP⟩
 ·refine⟨3,rfl,by decide,by decide,tG (lo:=0) (n:=3) (λi σ H'=>∃s4 s5,σ=[some v0,some v1,some v2,some (.ref L),s4,s5]/\Kp (aY PT) H H'/\(aY PT).PI H'/\H' L=some (.lst [])) ⟨_,_,rfl,λb u e _=>a1 b u e,pk _ _ pi a1,ao⟩ ?_ ?_⟩
  ·rintro i σ H' hi ⟨s4,s5,rfl,kp,pi',hL'⟩
   have rs':=rgo H' kp
   have rT:Rps (λ_=>True) H' [v0,v1,v2] [au n us,oT b os,t.D]:=rs'.mono (λ_ _=>trivial) (λ_ _ _ e=>e) λ_ _ e=>e
   obtain⟨r0,r1,r2⟩:=Qc rs'
   obtain⟨q0,q1,q2⟩:=Qc rT
   refine⟨_,rfl,rfl,_,rfl,?_⟩
   refine bQ (λc=>?_) (λc=>?_)
   ·exact⟨λ_ _ _=>False,λ_ _ z=>z.elim,_,rfl,_,rfl,_,rfl,.inl ⟨_,λ_=>True,rT,⟨n,us,b,os,t.D,rfl,lu,n1,n8,ou,by omega,oo,few,ri,λ_=>trivial⟩,λd v H2 _ sm _=>⟨_,_,rfl,λb u e nf=>sm b u (kp b u e nf),pk _ _ pi' sm,sm _ _ hL'⟩⟩,λ_ _ _ _ z=>z.elim⟩
   ·refine⟨_,rfl,rfl,_,rfl,?_⟩
    refine bQ (λc=>?_) (λc=>?_)
    ·exact⟨λ_ _ _=>False,λ_ _ z=>z.elim,_,rfl,_,rfl,.inl ⟨_,λ_=>True,pi',.cons r0 (.cons r1 .nil),M6 ⟨n,us,b,os,rfl,n1,n8,lu,ou,lo,oo,λ_ _ _=>trivial,λ_ _ _ _ _ _ _=>trivial⟩,λd v H2 _ k2 p2 _=>⟨_,_,rfl,kp.trans k2,p2,k2 _ _ hL' nL⟩⟩,λ_ _ _ _ z=>z.elim⟩
    ·exact⟨λ_ _ _=>False,λ_ _ z=>z.elim,_,rfl,_,rfl,_,rfl,.inl ⟨[au n us,oT b os,.int 0,t.D],λ_=>True,.cons q0 (.cons q1 (.cons (.int _) (.cons q2 .nil))),⟨n,us,b,os,0,t,rfl,ot,lu,by omega,ou,by omega,oo,trivial⟩,λd v H2 _ sm _=>⟨_,_,rfl,λb u e nf=>sm b u (kp b u e nf),pk _ _ pi' sm,sm _ _ hL'⟩⟩,λ_ _ _ _ z=>z.elim⟩
  ·rintro σ H' ⟨s4,s5,rfl,kp,pi',hL'⟩
   exact⟨_,rfl,q _ _ _ hP kp pi' (.lst hL hL' .nil)⟩
 ·refine⟨3,rfl,by decide,by decide,tG (lo:=0) (n:=3) (λi σ H'=>∃s4 s5,σ=[some v0,some v1,some v2,some (.ref L),s4,s5]/\Kp (aY PT) H H'/\(aY PT).PI H'/\H' L=some (.lst (Ë i (.str "offers")))) ⟨_,_,rfl,λb u e _=>a1 b u e,pk _ _ pi a1,ao⟩ ?_ ?_⟩
  ·rintro i σ H' hi ⟨s4,s5,rfl,kp,pi',hL'⟩
   have rs':=rgo H' kp
   have rT:Rps (λ_=>True) H' [v0,v1,v2] [au n us,o,x]:=rs'.mono (λ_ _=>trivial) (λ_ _ _ e=>e) λ_ _ e=>e
   obtain⟨q0,q1,q2⟩:=Qc rT
   have hand:∀(K:Ñ) (H2:Hp) (a:Addr) (oe:Obj) (Dn:L2.St->Hp->Prop) (Dr:VK),Same H' H2->H2 a=none->NoC oe->(∀H5,Kp (aY PT) H H5->(aY PT).PI H5->H5 L=some (.lst (Ë (i+1) (.str "offers")))->Dn [some v0,some v1,some v2,some (.ref L),some (.int (0+((i:Nat):Int))),some (.ref a)] H5) ->
     wj (tBM K "list" oU (rF 3) (Gg (Gi a (oR CN "offers") (Gg (rF 5) O9)) O9)) { nx:=Dn,rt:=Dr } [some v0,some v1,some v2,some (.ref L),some (.int (0+((i:Nat):Int))),some (.ref a)] (upd H2 a (.frz oe (jx a (.ref CN)))):=by
    intro K H2 a oe Dn Dr s2 ha nc fin
    have b1:=fJ ha (.frz oe (jx a (.ref CN)))
    have l3:=b1 _ _ (s2 _ _ hL')
    refine⟨_,rfl,.inl ⟨rfl,_,SqL.of l3⟩,_,rfl,oe,jx a (.ref CN),ao,nc,rfl,rfl,λH4 s4=>?_⟩
    have l4:=s4 _ _ l3
    refine⟨L,_,_,rfl,rfl,l4,by rw[Ň];have:=ì;omega,?_⟩
    refine fin _ (λb u e nf=>?_) ((aY PT).mono H4 _ (pk _ _ (pk _ _ (pk _ _ pi' s2) b1) s4) λb u hb e=>?_) (by rw[ao,List.replicate_succ'])
    ·have:=s4 _ _ (b1 _ _ (s2 _ _ (kp _ _ e nf)))
     rw[ak (λz=>by rw[z,hL] at e;cases e)]
     exact this
    ·rw[ak (λz=>by
      subst z
      rcases hb with hb|⟨_,_,hb⟩
      ·exact nL hb
      ·rw[l4] at e
       cases e
       cases hb)]
     exact e
   refine⟨_,rfl,rfl,_,rfl,?_⟩
   refine bQ (λc=>?_) (λc=>?_)
   ·refine⟨λcls _ H2=>cls=.ref CN/\Same H' H2,λcls H' z=>by rw[z.1];exact R.exm,_,rfl,_,rfl,_,rfl,.inr ⟨n,us,o,v0,v1,[v2],rfl,rfl,.cons q0 (.cons q1 .nil),fw,no,λH2 sm=>⟨rfl,sm⟩⟩,?_⟩
    rintro cls H2 a oe ⟨rfl,s2⟩ ha nc
    exact hand _ H2 a oe _ _ s2 ha nc λH5 k5 p5 h5=>⟨_,_,rfl,k5,p5,h5⟩
   ·refine⟨_,rfl,rfl,_,rfl,?_⟩
    refine bQ (λc=>?_) (λc=>?_)
    ·refine⟨λcls _ H2=>cls=.ref CN/\Same H' H2,λcls H' z=>by rw[z.1];exact R.exm,_,rfl,_,rfl,.inr ⟨n,us,o,v0,v1,[],rfl,rfl,.cons q0 (.cons q1 .nil),fw,no,λH2 sm=>⟨rfl,sm⟩⟩,?_⟩
     rintro cls H2 a oe ⟨rfl,s2⟩ ha nc
     exact hand _ H2 a oe _ _ s2 ha nc λH5 k5 p5 h5=>⟨_,_,rfl,k5,p5,h5⟩
    ·refine⟨λcls _ H2=>cls=.ref CN/\Same H' H2,λcls H' z=>by rw[z.1];exact R.exm,_,rfl,_,rfl,_,rfl,.inr ⟨n,us,o,v0,v1,[.int 0,v2],rfl,rfl,.cons q0 (.cons q1 .nil),fw,no,λH2 sm=>⟨rfl,sm⟩⟩,?_⟩
     rintro cls H2 a oe ⟨rfl,s2⟩ ha nc
     exact hand _ H2 a oe _ _ s2 ha nc λH5 k5 p5 h5=>⟨_,_,rfl,k5,p5,h5⟩
  ·rintro σ H' ⟨s4,s5,rfl,kp,pi',hL'⟩
   exact⟨_,rfl,q _ _ _ hP kp pi' (.lst hL hL' (.cons (.str _) (.cons (.str _) (.cons (.str _) .nil))))⟩
def Lj(F:Fun K "is_answer" "is_answer" (top 37) f fd)(B:ĝ mg)(C_check_offers:ň P w K mg base 5 "check_offers" ["web","thing"] (spX (fj CN)))(C_stands:Ü P w K mg base 10 "stands" ["web","falls"] (spD pB))(C_with_offers:Ü P w K mg base 2 "with_offers" ["web","offers","numbers"] (spD eZ))(C_is_rising:Ü P w K mg base 3 "is_rising" ["limit","thing"] (spD pC)):FnOk P w K mg base (CX1 P w) 11 f fd ["web","offers","numbers"] (Bd CN):=Lk F (uV F B C_check_offers C_stands C_with_offers C_is_rising) C_check_offers
def K9(F:Fun K "tree_holds" "tree_holds" (top 51) f fd)(B:ĝ mg)(C_check_offers:ň P w K mg base 5 "check_offers" ["web","thing"] (spX (fj CN)))(C_holds:Ü P w K mg base 26 "holds" ["made","offers","free","asked","tree"] (spD (fHo 8))):FnOk P w K mg base (CX1 P w) 27 f fd ["web","offers","number","tree"] (Bb CN):=La F (rK F B C_check_offers C_holds) C_check_offers
def Lg(F:Fun K "cheapest" "cheapest" (top 40) f fd)(B:ĝ mg)(C1:ň P w K mg base 5 "check_offers" ["web","thing"] (spX (fj CN)))(C2:Ü P w K mg base 12 "cheapest_answer" ["web","offers"] (spT (aY PT) fCA))(C3:Ü P w K mg base 9 "needy_set" ["web","falls"] (spD iT))(C4:Ü P w K mg base 2 "with_offers" ["web","offers","numbers"] (spD eZ))(C5:Ü P w K mg base 1 "cost_of" ["offers","numbers"] (spD fCO))(C6:Ü P w K mg base 18 "tree_for" ["made","offers","free","asked"] (spD (fTF 6))):FnOk P w K mg base (CX1 P w) 19 f fd ["web","offers"] (Bc CN PT):=Lh F (QT F B C1 C2 C3 C4 C5 C6) C1
end
def Sh(k m:Nat)(d:D):Prop:=d.showable=true/\d.leavesShort 40=true/\d.depth<=k/\d.bulk<=m
instance (k m:Nat)(d:D):Decidable (Sh k m d):=by unfold Sh;exact inferInstance
def Sh.mono{k m k' m':Nat}{d:D}(h:Sh k m d)(h1:k<=k')(h2:m<=m'):Sh k' m' d:=⟨h.1,h.2.1,î h.2.2.1 h1,î h.2.2.2 h2⟩
def Sh.int{k m:Nat}{i:Int}(h0:-1000<=i)(h1:i<=1000):Sh k m (.int i):=by
 refine⟨?_,?_,ä _,ä _⟩
 ·simp only[PyData.showable,decide_eq_true_eq]
  have:=Nat.log2_le_self i.natAbs
  omega
 ·simp only[PyData.leavesShort,decide_eq_true_eq]
  have:=PyData.shown_int_le (i:=i) (by omega)
  omega
def yL{k m:Nat}:∀{ds:List D},(∀d∈ds,Sh k m d)->PyData.showableAll ds=true/\PyData.leavesShortAll 40 ds=true/\ė ds<=k/\PyData.bulkAll ds<=ds.length * (m+1)
 |[],_=>⟨rfl,rfl,ä _,ä _⟩
 |d::ds,h=>by
  obtain⟨h1,h2,h3,h4⟩:=yL (ds:=ds) λe he=>h e (Ô _ he)
  obtain⟨g1,g2,g3,g4⟩:=h d Ö
  refine⟨?_,?_,?_,?_⟩
  ·show(d.showable&&PyData.showableAll ds)=true
   rw[g1,h1];rfl
  ·show(d.leavesShort 40&&PyData.leavesShortAll 40 ds)=true
   rw[g2,h2];rfl
  ·show max d.depth (ė ds)<=k
   omega
  ·show d.bulk+1+PyData.bulkAll ds<=(ds.length+1) * (m+1)
   rw[Nat.add_mul]
   omega
def Sh.list{k m c:Nat}{ds:List D}(h:∀d∈ds,Sh k m d)(hc:ds.length * (m+1)<=c):Sh (k+1) c (.list ds):=by
 obtain⟨h1,h2,h3,h4⟩:=yL h
 exact⟨h1,h2,Nat.succ_le_succ h3,î h4 hc⟩
def Sh.tuple{k m c:Nat}{ds:List D}(h:∀d∈ds,Sh k m d)(hc:ds.length * (m+1)<=c):Sh (k+1) c (.tuple ds):=by
 obtain⟨h1,h2,h3,h4⟩:=yL h
 exact⟨h1,h2,Nat.succ_le_succ h3,î h4 hc⟩
def Sh.ok{k m:Nat}{d:D}(h:Sh k m d)(hk:k<=50)(hm:m<=100000):Ln d:=by
 obtain⟨h1,h2,h3,h4⟩:=h
 refine⟨h1,by omega,?_⟩
 have b:=PyData.shown_le_bulk 40 (by decide) d h2
 have h24:=ì
 have:(40+2) * d.bulk<=42 * 100000:=Nat.mul_le_mul (by decide) (by omega)
 omega
def Sh.big{k m:Nat}{i:Int}(h0:0<=i)(h1:i<10 ^ 30):Sh k m (.int i):=by
 have hn:i.natAbs<10 ^ 30:=by
  have e1:(10:Int) ^ 30=1000000000000000000000000000000:=by decide
  have e2:(10:Nat) ^ 30=1000000000000000000000000000000:=by decide
  rw[e2]
  rw[e1] at h1
  omega
 refine⟨?_,?_,ä _,ä _⟩
 ·simp only[PyData.showable,decide_eq_true_eq]
  by_cases z:i.natAbs=0
  ·rw[z]
   decide
  ·have h2:i.natAbs<2 ^ 100:=Û hn (by decide)
   have:=(Nat.log2_lt z).mpr h2
   omega
 ·simp only[PyData.leavesShort,decide_eq_true_eq]
  have e:=PySem.int_text_length_le10 (k:=30) (by decide) hn
  rw[PyData.shown_int]
  have e2:=PySem.ofString_length (toString i)
  omega
def Pz{n:Int}{t:Tie}(n8:n<=8)(h:OkT n t):Sh 1 2 (pD t):=Sh.tuple (k:=0) (m:=0) (λd hd=>by
 obtain⟨⟨a0,a1⟩,⟨b0,b1⟩,_⟩:=h
 simp only[â,ń,or_false] at hd
 rcases hd with rfl|rfl
 ·exact Sh.int (by omega) (by omega)
 ·exact Sh.int (by omega) (by omega)) (by show 2 * (0+1)<=2;decide)
def Gp{n:Int}{o:Off}(n8:n<=8)(h:OkT n (tO o))(c0:0<=o.2.2)(c1:o.2.2<10 ^ 30):Sh 1 3 (oD o):=Sh.tuple (k:=0) (m:=0) (λd hd=>by
 obtain⟨⟨a0,a1⟩,⟨b0,b1⟩,_⟩:=h
 have a0:0<=o.1:=a0
 have a1:o.1<n:=a1
 have b0:0<=o.2.1:=b0
 have b1:o.2.1<n:=b1
 simp only[â,ń,or_false] at hd
 rcases hd with rfl|rfl|rfl
 ·exact Sh.int (by omega) (by omega)
 ·exact Sh.int (by omega) (by omega)
 ·exact Sh.big c0 c1) (by show 3 * (0+1)<=3;decide)
def Py{n:Int}{us:List Tie}(n1:1<=n)(n8:n<=8)(lu:us.length<=52)(ok:OkN n us):Sh 3 1000 (au n us):=Sh.tuple (k:=2) (m:=200) (λd hd=>by
 simp only[â,ń,or_false] at hd
 rcases hd with rfl|rfl
 ·exact Sh.int (by omega) (by omega)
 ·refine Sh.tuple (k:=1) (m:=2) (λd hd=>?_) (by rw[Ã];omega)
  obtain⟨t,ht,rfl⟩:=Ă.mp hd
  exact Pz n8 (ok t ht)) (by show 2 * (200+1)<=1000;decide)
def Bh{n:Int}{os:List Off}(b:Bool)(n8:n<=8)(lo:os.length<=8)(ok:OkO n os):Sh 3 1000 (oT b os):=by
 have h:∀d∈os.map oD,Sh 2 10 d:=λd hd=>by
  obtain⟨o,ho,rfl⟩:=Ă.mp hd
  obtain⟨h1,h2,h3⟩:=ok o ho
  exact(Gp n8 h1 h2 h3).mono (by decide) (by decide)
 cases b with
 |true=>exact Sh.list h (by rw[Ã];omega)
 |false=>exact Sh.tuple h (by rw[Ã];omega)
def ShA(k m:Nat)(ds:List D):Prop:=PyData.showableAll ds=true/\PyData.leavesShortAll 40 ds=true/\ė ds<=k/\PyData.bulkAll ds<=m
def ShA.nil{k m:Nat}:ShA k m []:=⟨rfl,rfl,ä _,ä _⟩
def ShA.cons{k m1 m2 m:Nat}{d:D}{ds:List D}(h:Sh k m1 d)(g:ShA k m2 ds)(e:m1+1+m2<=m):ShA k m (d::ds):=by
 obtain⟨h1,h2,h3,h4⟩:=h
 obtain⟨g1,g2,g3,g4⟩:=g
 refine⟨?_,?_,?_,?_⟩
 ·show(d.showable&&PyData.showableAll ds)=true
  rw[h1,g1];rfl
 ·show(d.leavesShort 40&&PyData.leavesShortAll 40 ds)=true
  rw[h2,g2];rfl
 ·show max d.depth (ė ds)<=k
  omega
 ·show d.bulk+1+PyData.bulkAll ds<=m
  omega
def ShA.tup{k m:Nat}{ds:List D}(h:ShA k m ds):Sh (k+1) m (.tuple ds):=⟨h.1,h.2.1,Nat.succ_le_succ h.2.2.1,h.2.2.2⟩
def ShA.lst{k m:Nat}{ds:List D}(h:ShA k m ds):Sh (k+1) m (.list ds):=⟨h.1,h.2.1,Nat.succ_le_succ h.2.2.1,h.2.2.2⟩
def tb:Nat->Nat
 |0=>200
 |d+1=>2 * tb d+100
def Tr.B:Tr->Bt
 |.tri k a b=>.tri (.int k) a.B b.B
 |.bar l=>.bar (iD l)
 |.wts rs=>.wts (.list (rs.map rwD))
def FN(n:Int)(d:D):Prop:=J2 d/\iC n d=false/\Sh 6 3000 d
def RD(ds:List D)(P:D->Prop):Prop:=∃(n:Int) (b:Bool) (os:List Off),ds=[.int n,oT b os]/\1<=n/\n<=8/\os.length<=5/\OkO n os/\∀d,FN n d->P d
def NoO(n:Int)(d:D):Prop:=offB n d=false/\Sh 3 60 d
section
variable {n:Int}{a b c:D}
def on1(h:aJ n a=false):offB n (.tuple [a,b,c])=false:=by
 show((aJ n a&&(aJ n b&&!decide (toI a=toI b)))&&(isW c&&decide (0<=toI c)))=false
 rw[h]
 rfl
def on2(h:aJ n b=false):offB n (.tuple [a,b,c])=false:=by
 show((aJ n a&&(aJ n b&&!decide (toI a=toI b)))&&(isW c&&decide (0<=toI c)))=false
 rw[h,Bool.false_and,ķ]
 rfl
def on3(h:toI a=toI b):offB n (.tuple [a,b,c])=false:=by
 show((aJ n a&&(aJ n b&&!decide (toI a=toI b)))&&(isW c&&decide (0<=toI c)))=false
 rw[decide_eq_true h,Bool.not_true,ķ,ķ]
 rfl
def on4(h:(isW c&&decide (0<=toI c))=false):offB n (.tuple [a,b,c])=false:=by
 show((aJ n a&&(aJ n b&&!decide (toI a=toI b)))&&(isW c&&decide (0<=toI c)))=false
 rw[h,ķ]
def Dd{i:Int}(h:¬(0<=i/\i<n)):aJ n (.int i)=false:=decide_eq_false h
end
def all_nil{p:D->Prop}:∀e∈([]:List D),p e:=λ_ h=>nomatch h
def all_cons{p:D->Prop}{a:D}{l:List D}(h:p a)(t:∀e∈l,p e):∀e∈a::l,p e:=λe he=>(â.mp he).elim (λz=>z ▸ h) (t e)
def Dg{p:D->Prop}{a l:List D}(h:∀e∈a,p e)(t:∀e∈l,p e):∀e∈a++l,p e:=λe he=>(Ø.mp he).elim (h e) (t e)
def rC{ds:List D}{y:Int}(y0:0<=y)(y1:y<((ds.length:Nat):Int)):∃d,atI ds y=some d/\d∈ds:=by
 obtain⟨k,rfl⟩:=Int.eq_ofNat_of_zero_le y0
 have hk:k<ds.length:=by omega
 exact⟨ds[k],dB (È hk),Ū hk⟩
def Gn{k m:Nat}{d:D}(h:Sh k m d):ShA k (m+1) [d]:=ShA.cons h (ShA.nil (m:=0)) (Ì _)
def Tg{k m1 m2:Nat}{a b:D}(h:Sh k m1 a)(g:Sh k m2 b):ShA k (m1+m2+2) [a,b]:=ShA.cons h (Gn g) (by omega)
def PJ{k m1 m2 m3:Nat}{a b c:D}(h:Sh k m1 a)(g:Sh k m2 b)(f:Sh k m3 c):ShA k (m1+m2+m3+3) [a,b,c]:=ShA.cons h (Tg g f) (by omega)
def t3{a b c:D}(h:Sh 2 15 a)(g:Sh 2 15 b)(f:Sh 2 15 c):Sh 3 60 (.tuple [a,b,c]):=(ShA.tup (PJ h g f)).mono (by decide) (by decide)
def i0(k m:Nat):Sh k m (.int 0):=Sh.int (by decide) (by decide)
def i1(k m:Nat):Sh k m (.int 1):=Sh.int (by decide) (by decide)
def ip{n:Int}(n1:1<=n)(n8:n<=8)(k m:Nat):Sh k m (.int (n - 1)):=Sh.int (by omega) (by omega)
def im{n:Int}(n1:1<=n)(n8:n<=8)(k m:Nat):Sh k m (.int n):=Sh.int (by omega) (by omega)
def OL1(n:Int):List D:=[.none,.tuple [.int 0,.int 0,.int 1],.tuple [.int 0,.int n,.int 1],.tuple [.int (-1),.int 0,.int 1],.tuple [.int 0,.int (10 ^ (29:Int).toNat),.int 1],.list [.int 0,.int (n - 1),.int 1],.tuple [.int 0,.int (n - 1)],.tuple [],.tuple [.int 0,.int (n - 1),.int 1,.int 1],.int 0]
def OL2(n:Int):List D:=[.tuple [.int 0,.int (n - 1),.int (-1)],.tuple [.int 0,.int (n - 1),.bool true],.tuple [.int 0,.int (n - 1),.none],.tuple [.int 0,.int (n - 1),.str "1"],.tuple [.int 0,.int (n - 1),.tuple [.int 1]],.str "011",.dict []]
def V2{n:Int}(n1:1<=n)(n8:n<=8):∀e∈OL1 n,NoO n e :=
 all_cons ⟨rfl,by decide +kernel⟩ (all_cons ⟨on3 rfl,t3 (i0 _ _) (i0 _ _) (i1 _ _)⟩ (all_cons ⟨on2 (Dd (by omega)),t3 (i0 _ _) (im n1 n8 _ _) (i1 _ _)⟩ (all_cons ⟨on1 (Dd (by omega)),by decide +kernel⟩ (all_cons ⟨on2 (Dd (by rw[show(10:Int) ^ (29:Int).toNat=100000000000000000000000000000 from by decide];omega)),by decide +kernel⟩
  (all_cons ⟨rfl,(ShA.lst (PJ (i0 0 0) (ip n1 n8 0 0) (i1 0 0))).mono (by decide) (by decide)⟩ (all_cons ⟨rfl,(ShA.tup (Tg (i0 0 0) (ip n1 n8 0 0))).mono (by decide) (by decide)⟩ (all_cons ⟨rfl,by decide +kernel⟩ (all_cons ⟨rfl,(ShA.tup (ShA.cons (i0 0 0) (PJ (ip n1 n8 0 0) (i1 0 0) (i1 0 0)) (Ì _))).mono (by decide) (by decide)⟩ (all_cons ⟨rfl,by decide +kernel⟩ all_nil)))))))))
def V1{n:Int}(n1:1<=n)(n8:n<=8):∀e∈OL2 n,NoO n e :=
 all_cons ⟨on4 rfl,t3 (i0 _ _) (ip n1 n8 _ _) (by decide +kernel)⟩ (all_cons ⟨on4 rfl,t3 (i0 _ _) (ip n1 n8 _ _) (by decide +kernel)⟩ (all_cons ⟨on4 rfl,t3 (i0 _ _) (ip n1 n8 _ _) (by decide +kernel)⟩ (all_cons ⟨on4 rfl,t3 (i0 _ _) (ip n1 n8 _ _) (by decide +kernel)⟩ (all_cons ⟨on4 rfl,t3 (i0 _ _) (ip n1 n8 _ _) (by decide +kernel)⟩ (all_cons ⟨rfl,by decide +kernel⟩ (all_cons ⟨rfl,by decide +kernel⟩ all_nil))))))
def OL3(n:Int):List D:=[.tuple [.bool false,.int (n - 1),.int 1],.tuple [.int 0,.str (toString (n - 1)),.int 1],.tuple [.none,.int 0,.int 1],.tuple [.tuple [.int 0],.int (n - 1),.int 1],.tuple [.int n,.int (n - 1),.int 1],.tuple [.int 0,.int (n - 1),.list [.int 1]]]
def Tf{i:Int}(h0:0<=i)(h1:i<=7):Sh 2 15 (.str (toString i)):=by
 have:i=0\/i=1\/i=2\/i=3\/i=4\/i=5\/i=6\/i=7:=by omega
 rcases this with rfl|rfl|rfl|rfl|rfl|rfl|rfl|rfl <;> decide +kernel
def V0{n:Int}(n1:1<=n)(n8:n<=8):∀e∈OL3 n,NoO n e :=
 all_cons ⟨on1 rfl,t3 (by decide +kernel) (ip n1 n8 _ _) (i1 _ _)⟩ (all_cons ⟨on2 rfl,t3 (i0 _ _) (Tf (by omega) (by omega)) (i1 _ _)⟩ (all_cons ⟨on1 rfl,by decide +kernel⟩ (all_cons ⟨on1 rfl,t3 (by decide +kernel) (ip n1 n8 _ _) (i1 _ _)⟩ (all_cons ⟨on1 (Dd (by omega)),t3 (im n1 n8 _ _) (ip n1 n8 _ _) (i1 _ _)⟩ (all_cons ⟨on4 rfl,t3 (i0 _ _) (ip n1 n8 _ _) (by decide +kernel)⟩ all_nil)))))
def Lq(n:Int):∀(b:Bool) (os:List Off),offB n (oT b os)=false
 |true,_=>rfl
 |false,[]=>rfl
 |false,[_]=>rfl
 |false,[_,_]=>rfl
 |false,[_,_,_]=>on1 rfl
 |false,_::_::_::_::_=>rfl
def mR{n:Int}{d:D}(h:sqD d=none)(s:Sh 6 3000 d):FN n d:=⟨(λes e=>by rw[h] at e;cases e),(by unfold iC;rw[h]),s⟩
def uW{n:Int}{d:D}{es:List D}(h:sqD d=some es)(l:es.length<=400)(x:∃e∈es,offB n e=false)(s:Sh 6 3000 d):FN n d:=by
 refine⟨λes' e=>by rw[h] at e;cases e;exact l,?_,s⟩
 obtain⟨e,he,hn⟩:=x
 unfold iC
 rw[h]
 show(decide (es.length<=8)&&es.all (offB n))=false
 rw[List.all_eq_false.mpr ⟨e,he,by rw[hn];exact É⟩,ķ]
def HW{n:Int}{es:List D}(l:es.length<=400)(l9:9<=es.length)(s:Sh 6 3000 (.list es)):FN n (.list es):=by
 refine⟨λes' e=>by cases e;exact l,?_,s⟩
 show(decide (es.length<=8)&&es.all (offB n))=false
 rw[decide_eq_false (by omega)]
 rfl
def OP0(n:Int)(o:D):List D:=[.none,.int 5,.str "",.dict [],.bool true,.list [o],.tuple [.int 0,.int (n - 1),.int 1],.str "offers"]
def Uh{n:Int}{b:Bool}{os:List Off}(n1:1<=n)(n8:n<=8)(lo:os.length<=8)(oo:OkO n os):∀e∈OP0 n (oT b os),FN n e :=
 all_cons (mR rfl (by decide +kernel)) (all_cons (mR rfl (by decide +kernel)) (all_cons (mR rfl (by decide +kernel)) (all_cons (mR rfl (by decide +kernel)) (all_cons (mR rfl (by decide +kernel)) (all_cons (uW rfl (Nat.succ_pos 399) ⟨_,.head _,Lq n b os⟩ ((ShA.lst (Gn (Bh b n8 lo oo))).mono (by decide) (by decide))) (all_cons (uW rfl (show 3<=400 by decide) ⟨.int 0,.head _,rfl⟩ ((t3 (i0 _ _) (ip n1 n8 _ _) (i1 _ _)).mono (by decide) (by decide))) (all_cons (mR rfl (by decide +kernel)) all_nil)))))))
def QW{n:Int}{os:List Off}{e:D}{k:Nat}(n8:n<=8)(lo:os.length<=8)(oo:OkO n os)(h:NoO n e)(c:Bool):FN n (if c=true then .list ((os.map oD).take k++[e]++(os.map oD).drop k) else .tuple ((os.map oD).take k++[e]++(os.map oD).drop k)):=by
 have ll:((os.map oD).take k++[e]++(os.map oD).drop k).length<=9:=by
  rw[Ð,Ð,Ě,ě,Ã]
  show min k os.length+1+(os.length - k)<=9
  omega
 have sh:∀x∈(os.map oD).take k++[e]++(os.map oD).drop k,Sh 3 60 x:=λx hx=>by
  have ho:x∈os.map oD->Sh 3 60 x:=λz=>by
   obtain⟨o,ho,rfl⟩:=Ă.mp z
   obtain⟨h1,h2,h3⟩:=oo o ho
   exact(Gp n8 h1 h2 h3).mono (by decide) (by decide)
  rcases Ø.mp hx with z|z
  ·rcases Ø.mp z with z|z
   ·exact ho (List.mem_of_mem_take z)
   ·rw[Ò.mp z]
    exact h.2
  ·exact ho (List.mem_of_mem_drop z)
 have me:e∈(os.map oD).take k++[e]++(os.map oD).drop k:=Ŧ _ (å _ (Ò.mpr rfl))
 cases c with
 |true=>exact uW rfl (by omega) ⟨e,me,h.1⟩ ((Sh.list (c:=1000) sh (by omega)).mono (by decide) (by decide))
 |false=>exact uW rfl (by omega) ⟨e,me,h.1⟩ ((Sh.tuple (c:=1000) sh (by omega)).mono (by decide) (by decide))
def U8(l:List D):Ŋ (bG l none (some 0))=.tuple []:=by
 unfold bG
 have e1:HT.sIx l.length l.length (some (0:Int))=min 0 l.length:=HT.jg _ _ 0
 rw[e1,Nat.zero_min,Nat.zero_sub,List.take_zero]
def RV(l:List D):Ċ (bG l none (some 0))=.list []:=by
 unfold bG
 have e1:HT.sIx l.length l.length (some (0:Int))=min 0 l.length:=HT.jg _ _ 0
 rw[e1,Nat.zero_min,Nat.zero_sub,List.take_zero]
def OD{l:List D}{a:Int}(h0:0<=a)(h1:a<=((l.length:Nat):Int)):bG l none (some a)=l.take a.toNat/\bG l (some a) none=l.drop a.toNat:=by
 obtain⟨k,rfl⟩:=Int.eq_ofNat_of_zero_le h0
 have e1:HT.sIx l.length l.length (some ((k:Nat):Int))=min k l.length:=HT.jg _ _ _
 have e2:HT.sIx l.length 0 (some ((k:Nat):Int))=min k l.length:=HT.jg _ _ k
 unfold bG
 refine⟨?_,?_⟩
 ·show(l.drop 0).take (HT.sIx l.length l.length (some ((k:Nat):Int)) - 0)=_
  rw[e1,List.drop_zero,Nat.sub_zero,Nat.min_eq_left (by omega)]
  rfl
 ·show(l.drop (HT.sIx l.length 0 (some ((k:Nat):Int)))).take (l.length - HT.sIx l.length 0 (some ((k:Nat):Int)))=_
  rw[e2,Nat.min_eq_left (by omega)]
  exact Ł (Nat.le_of_eq (ě ..))
def Shr(s:Sl)(d:D):Prop:=s=.im d\/s=.sn d\/s=.sh d
def xO{a b:Kd}(ha:a.le .shr=true)(hb:b.le .shr=true):(a.join b).le .shr=true:=by
 cases a <;> cases b <;> first
  |rfl
  |(cases ha;done)
  |(cases hb;done)
def eE{a:Kd}{d:D}(ha:a.le .shr=true):(norm a d).le .shr=true:=by
 by_cases h:bU d=true
 ·rw[ŗ h];rfl
 ·rw[Ř h];exact ha
def wC{E:DEnds}{ρ:List Sl}{i:Nat}{k:Kd}{d:D}(hk:k.le .shr=true)(g:∀s,Shr s d->E.nx (ρ.set i s)):(match Dl.stK none ρ i (norm k d) d with
  |some s=>E.nx (ρ.set i s)
  |none=>False):=by
 have hk:=eE (d:=d) hk
 cases e9:norm k d <;> rw[e9] at hk <;> first
  |exact g _ (.inl rfl)
  |exact g _ (.inr (.inl rfl))
  |exact g _ (.inr (.inr rfl))
  |cases hk
def Bp{tc:DT}{t u:DR}{P:D->Prop}{ρ:List Sl}(hu:u P ρ)(h:u P ρ->rIf tc t u P ρ):rIf tc t u P ρ:=h hu
def ROd(n:Int)(so:Sl)(pk:Int)(s4 s5 s6:Sl):List Sl:=[.pen TP,.im (.int n),so,.im (.int pk),s4,s5,s6]
section
variable {P:Program}{w:World}{K:Ñ}{mg:Str->Option Value}{base:Heap}{f:Addr}{fd:FuncData}{CN:Addr}
def pO:FnScope ["_law_pen_here","_law_n","_law_offers_here","_law_pick","_law_odd_here","_law_at","_law_some"] ["_law_pen_here","_law_n","_law_offers_here"] (aj (top 61)):=zC
def zG(F:Fun K "_law_odd" "_law_odd" (top 61) f fd)(B:ĝ mg)(m_str:mg "str"=none)(C__law_draw:Ü P w K mg base 1 "_law_draw" ["_law_pen_here","_law_many"] (dF 1 nW)):FnOk P w K mg base CX0 2 f fd ["_law_pen_here","_law_n","_law_offers_here"] (jO 10 RD):=by
 refine F.ok pO Em (λcdv A outer s H vs Q E hr h=>?_)
 have nd:=pO.nd
 obtain⟨pa,pn,pok,vs,ds,P,rfl,pi9,r9,t9,k9⟩:=h
 letI:Tb:=⟨HX pok pa H⟩
 refine⟨_,@Wb.BR.h _ _ _ _ _ (Wb.sJ (Wb.set none (i:=3) nd rfl zQ (Wb.dcP (Dl.Cal.jY C__law_draw) hr (č 0) (Wb.a0 (À Ä Á))))
  (Wb.rif (Wb.t0 (ĭ hr.units (Å 3) Ä)) (Wb.Qa (Wb.ix (Wb.e0 (þ (Wr.oW 6 ["_law_pen_here","_law_n","_law_offers_here","_law_pick","_law_odd_here","_law_at","_law_some"] (aj (top 61)) (.cons .non (.cons (.int 5) (.cons (.str "") (.cons .dct (.cons (.bl true) (.cons (.lst (.cons (.var 2) .nil)) .nil)))))) (À (Ú (À Ä (À (Ġ (Å 1) Ä) (À Ä Á)))) (À (Wr.yX (Wr.qm (Å 2) Wr.cU (Wr.cT Ä)) (Wr.cF ĉ)) Á)) (by decide +kernel)))) (Wb.dcP (Dl.Cal.jY C__law_draw) hr (č 0) (Wb.a0 (À Ä Á)))))
  (Wb.rif (Wb.t0 (Wr.wpt (Wr.eO (ĭ hr.units (Å 3) Ä) (Wr.dH (Wr.qg (Å 1) Ä))))) (Wb.Qa (Wb.times (Wb.e0 (þ (À (Ú (À Ä (À Ä (À Ä Á)))) Á))) (Wb.plus (Wb.e0 Ä) (Wb.dcP (Dl.Cal.jY C__law_draw) hr (č 0) (Wb.a0 (À Ä Á))))))
  (Wb.sJ (Wb.s0 (ĳ none (i:=4) nd rfl zQ (þ (Wr.oW 4 ["_law_pen_here","_law_n","_law_offers_here","_law_pick","_law_odd_here","_law_at","_law_some"] (aj (top 61)) (.cons .non (.cons (.tup (.cons (.int 0) (.cons (.int 0) (.cons (.int 1) .nil)))) (.cons (.tup (.cons (.int 0) (.cons (.var 1) (.cons (.int 1) .nil)))) (.cons (.tup (.cons (.neg 1) (.cons (.int 0) (.cons (.int 1) .nil)))) .nil)))) (À (Ú (À Ä (À (Wr.mL Ä Ä) (À Ä Á)))) (À (þ (À Ä (À (Ġ (Å 1) Ä) (À Ä Á)))) (À (Ú (À Ä (À (Ġ (Å 1) Ä) Á))) (À (Ú Á) (À (Ú (À Ä (À (Ġ (Å 1) Ä) (À Ä (À Ä Á))))) (À Ä Á)))))) (by decide +kernel)))))
  (Wb.sJ (Wb.s0 (ĳ none (i:=4) nd rfl zQ (Ũ (Å 4) (þ (À (Ú (À Ä (À (Ġ (Å 1) Ä) (À (Wr.qt Ä) Á)))) (À (Ú (À Ä (À (Ġ (Å 1) Ä) (À ũ Á)))) (À (Ú (À Ä (À (Ġ (Å 1) Ä) (À Wr.gD Á)))) (À (Ú (À Ä (À (Ġ (Å 1) Ä) (À ĉ Á)))) (À (Ú (À Ä (À (Ġ (Å 1) Ä) (À (Ú (À Ä Á)) Á)))) (À ĉ (À Wr.o7 Á)))))))))))
  (Wb.sJ (Wb.s0 (ĳ none (i:=4) nd rfl zQ (Ũ (Å 4) (þ (À (Ú (À ũ (À (Ġ (Å 1) Ä) (À Ä Á)))) (À (Ú (À Ä (À (Wr.uL m_str (À (Ġ (Å 1) Ä) Á)) (À Ä Á)))) (À (Ú (À Wr.gD (À Ä (À Ä Á)))) (À (Ú (À (Ú (À Ä Á)) (À (Ġ (Å 1) Ä) (À Ä Á)))) (À (Ú (À (Å 1) (À (Ġ (Å 1) Ä) (À Ä Á)))) (À (Ú (À Ä (À (Ġ (Å 1) Ä) (À (þ (À Ä Á)) Á)))) Á))))))))))
  (Wb.sJ (Wb.set none (i:=5) nd rfl zQ (Wb.dcP (Dl.Cal.jY C__law_draw) hr (č 0) (Wb.a0 (À (Ũ (ļ B.len (À (Å 2) Á)) Ä) Á))))
  (Wb.sJ (Wb.set none (i:=6) nd rfl zQ (Wb.plus (Wb.plus (Wb.e0 (Wr.oZ B.list (À (Wr.qm (Å 2) Wr.cU (Wr.cT (Å 5))) Á))) (Wb.lst (Wb.cW (Wb.ix (Wb.e0 (Å 4)) (Wb.dcP (Dl.Cal.jY C__law_draw) hr (č 0) (Wb.a0 (À (ļ B.len (À (Å 4) Á)) Á)))) (Wb.a0 Á)))) (Wb.e0 (Wr.oZ B.list (À (Wr.qm (Å 2) (Wr.cT (Å 5)) Wr.cU) Á)))))
  (Wb.Qa (Wb.ix (Wb.e0 (þ (À (Å 6) (À (Wr.gC B.tuple (À (Å 6) Á)) Á)))) (Wb.dcP (Dl.Cal.jY C__law_draw) hr (č 0) (Wb.a0 (À Ä Á))))))))))))),Wb.Nh (f:=RD) pi9 r9 k9 (Nat.ble_eq_true_of_le (by omega)) ?_⟩
 revert t9
 rintro⟨n,b,os,rfl,n1,n8,lo,oo,q⟩
 have lmo:(os.map oD).length=os.length:=Ã ..
 have p0:∀y:Int,0<=y->y<8->∃d,atI (OP0 n (oT b os)) y=some d/\P d:=λy y0 y1=>by
  obtain⟨d,hd,hm⟩:=rC (ds:=OP0 n (oT b os)) y0 y1
  exact⟨d,hd,q d (Uh n1 n8 (by omega) oo d hm)⟩
 have p1:∀y:Int,0<=y->y<20->P (.list (Ë (9+y).toNat [Ŋ [.int 0,.int 1,.int 1]]).flatten):=λy y0 y1=>by
  have ll:(Ë (9+y).toNat [Ŋ [.int 0,.int 1,.int 1]]).flatten.length=(9+y).toNat:=by simp
  refine q _ (HW (by omega) (by omega) ((Sh.list (k:=3) (m:=60) (c:=2000) (λd hd=>?_) (by rw[ll];omega)).mono (by decide) (by decide)))
  obtain⟨l,hl,hd⟩:=List.mem_flatten.mp hd
  rw[(List.mem_replicate.mp hl).2] at hd
  rw[Ò.mp hd]
  decide +kernel
 have p2:∀e,e∈OL1 n++OL2 n++OL3 n->∀(k:Nat) (c:Bool),P (if c=true then .list ((os.map oD).take k++[e]++(os.map oD).drop k) else .tuple ((os.map oD).take k++[e]++(os.map oD).drop k)):=λe he k c=>q _ (QW n8 (by omega) oo (Dg (Dg (V2 n1 n8) (V1 n1 n8)) (V0 n1 n8) e he) c)
 cases b with
 |true =>
  refine⟨[.im (.int n),.sh (.list (os.map oD)),.any,.any,.any,.any],rfl,?_⟩
  refine⟨rfl,6,rfl,by decide,by decide,λpk k0 k1=>?_⟩
  refine bQ (λc=>?_) (λc=>?_)
  ·refine⟨_,rfl,zK,.inr ⟨.inl (by rw[RV]),zK,rfl,8,rfl,by decide,by decide,p0⟩⟩
  refine Bp ?_ (λhu=>bQ (λc=>bQ (λc2=>⟨zK,zK,rfl,20,rfl,by decide,by decide,λy y0 y1=>⟨by omega,by omega,(show 1 * (9+y).toNat<=1000 by omega),.inr (p1 y y0 y1)⟩⟩) (λc2=>hu)) (λc=>hu))
  refine⟨_,rfl,⟨by decide,by decide,by decide⟩,zK,zK,zK,ä _,zK,zK,?_⟩
  show pW _ _ P (ROd n (.sh (.list (os.map oD))) pk (.sn (.list (OL1 n))) .any .any)
  refine⟨zK,zK,zK,zK,zK,zK,zK,zK,.inr ?_⟩
  show pW _ _ P (ROd n (.sh (.list (os.map oD))) pk (.sn (.list (OL1 n++OL2 n))) .any .any)
  refine⟨zK,?lg,zK,zK,zK,zK,zK,zK,zK,zK,zK,.inr ?_⟩
  case lg =>
   have:=Nat.log2_le_self (n - 1).natAbs
   show(n - 1).natAbs.log2<1920
   omega
  show pW _ _ P (ROd n (.sh (.list (os.map oD))) pk (.sn (.list (OL1 n++OL2 n++OL3 n))) .any .any)
  refine⟨rfl,_,rfl,by omega,by omega,λa a0 a1=>?_⟩
  have a1:a<(((os.map oD).length:Nat):Int)+1:=a1
  obtain⟨e1,e2⟩:=OD (l:=os.map oD) a0 (by omega)
  refine .inr (.inr ⟨rfl,23,rfl,by decide,by decide,λy y0 y1=>?_⟩)
  obtain⟨e,he,hm⟩:=rC (ds:=OL1 n++OL2 n++OL3 n) y0 y1
  refine⟨e,he,zK,(by rw[e1,Ě];show min a.toNat (os.map oD).length+1<=1000;omega),.inr ?_⟩
  refine .inr (.inr ⟨(by rw[e1,e2,Ð,Ě,ě];show min a.toNat (os.map oD).length+1+((os.map oD).length - a.toNat)<=1000;omega),.inr ?_⟩)
  refine wC (ρ:=ROd n (.sh (.list (os.map oD))) pk (.sn (.list (OL1 n++OL2 n++OL3 n))) (.im (.int a)) .any) (i:=6) (d:=.list (bG (os.map oD) none (some a)++[e]++bG (os.map oD) (some a) none)) ?hk (λs6 h6=>?_)
  case hk=>exact(by repeat' first|exact rfl|exact eE (a:=.shr) rfl|exact eE (a:=.snw) rfl|refine eE ?_|refine xO ?_ ?_)
  have pz:=p2 e hm a.toNat
  rw[←e1,←e2] at pz
  have fin:∀z:Int,0<=z->z<2->∃d,atI [Ċ (bG (os.map oD) none (some a)++[e]++bG (os.map oD) (some a) none),.tuple (bG (os.map oD) none (some a)++[e]++bG (os.map oD) (some a) none)] z=some d/\P d:=λz z0 z1=>by
   have hz:z=0\/z=1:=by omega
   rcases hz with rfl|rfl
   ·exact⟨_,rfl,pz true⟩
   ·exact⟨_,rfl,pz false⟩
  rcases h6 with rfl|rfl|rfl
  all_goals exact⟨zK,rfl,2,rfl,by decide,by decide,fin⟩
 |false =>
  refine⟨[.im (.int n),.im (.tuple (os.map oD)),.any,.any,.any,.any],by show [aB (.int n),aB (oT false os),.any,.any,.any,.any]=_;rw[cZ];rfl,?_⟩
  refine⟨rfl,6,rfl,by decide,by decide,λpk k0 k1=>?_⟩
  refine bQ (λc=>?_) (λc=>?_)
  ·refine⟨_,rfl,zK,⟨.inr (by rw[U8]),zK,rfl,8,rfl,by decide,by decide,p0⟩⟩
  refine Bp ?_ (λhu=>bQ (λc=>bQ (λc2=>⟨zK,zK,rfl,20,rfl,by decide,by decide,λy y0 y1=>⟨by omega,by omega,(show 1 * (9+y).toNat<=1000 by omega),.inr (p1 y y0 y1)⟩⟩) (λc2=>hu)) (λc=>hu))
  refine⟨_,rfl,⟨by decide,by decide,by decide⟩,zK,zK,zK,ä _,zK,zK,?_⟩
  show pW _ _ P (ROd n (.im (.tuple (os.map oD))) pk (.sn (.list (OL1 n))) .any .any)
  refine⟨zK,zK,zK,zK,zK,zK,zK,zK,.inr ?_⟩
  show pW _ _ P (ROd n (.im (.tuple (os.map oD))) pk (.sn (.list (OL1 n++OL2 n))) .any .any)
  refine⟨zK,?lg,zK,zK,zK,zK,zK,zK,zK,zK,zK,.inr ?_⟩
  case lg =>
   have:=Nat.log2_le_self (n - 1).natAbs
   show(n - 1).natAbs.log2<1920
   omega
  show pW _ _ P (ROd n (.im (.tuple (os.map oD))) pk (.sn (.list (OL1 n++OL2 n++OL3 n))) .any .any)
  refine⟨rfl,_,rfl,by omega,by omega,λa a0 a1=>?_⟩
  have a1:a<(((os.map oD).length:Nat):Int)+1:=a1
  obtain⟨e1,e2⟩:=OD (l:=os.map oD) a0 (by omega)
  refine .inr ⟨rfl,23,rfl,by decide,by decide,λy y0 y1=>?_⟩
  obtain⟨e,he,hm⟩:=rC (ds:=OL1 n++OL2 n++OL3 n) y0 y1
  refine⟨e,he,zK,(by rw[e1,Ě];show min a.toNat (os.map oD).length+1<=1000;omega),.inr ?_⟩
  refine .inr ⟨(by rw[e1,e2,Ð,Ě,ě];show min a.toNat (os.map oD).length+1+((os.map oD).length - a.toNat)<=1000;omega),.inr ?_⟩
  refine wC (ρ:=ROd n (.im (.tuple (os.map oD))) pk (.sn (.list (OL1 n++OL2 n++OL3 n))) (.im (.int a)) .any) (i:=6) (d:=.list (bG (os.map oD) none (some a)++[e]++bG (os.map oD) (some a) none)) ?hk (λs6 h6=>?_)
  case hk=>exact(by repeat' first|exact rfl|exact eE (a:=.shr) rfl|exact eE (a:=.snw) rfl|refine eE ?_|refine xO ?_ ?_)
  have pz:=p2 e hm a.toNat
  rw[←e1,←e2] at pz
  have fin:∀z:Int,0<=z->z<2->∃d,atI [Ċ (bG (os.map oD) none (some a)++[e]++bG (os.map oD) (some a) none),.tuple (bG (os.map oD) none (some a)++[e]++bG (os.map oD) (some a) none)] z=some d/\P d:=λz z0 z1=>by
   have hz:z=0\/z=1:=by omega
   rcases hz with rfl|rfl
   ·exact⟨_,rfl,pz true⟩
   ·exact⟨_,rfl,pz false⟩
  rcases h6 with rfl|rfl|rfl
  all_goals exact⟨zK,rfl,2,rfl,by decide,by decide,fin⟩
end
def Gj(K:Ñ)(T:Pn):Sp:=λvs H Q _=>∃(a:Addr) (ns:List Int),vs=[.ref a]/\SqL K H a (ns.map V.int)/\T.PI H/\∀H',Q (.bl true) H'
def QZ{PT sc:Addr}{H:Hp}{xs:List V}(hT:(aY PT).PI H):Rd H sc (.lst xs)->¬(aY PT).fp sc:=λr z=>by
 obtain⟨ps,h,_⟩:=hT
 have z:sc=PT:=z
 rcases r with r|⟨o,r⟩
 ·rw[z,h] at r;cases r
 ·rw[z,h] at r;cases r
def OkB.okN{n:Int}{us:List Tie}(h:OkB n us):OkN n us:=λt ht=>by
 have:=h t ht
 exact⟨⟨by omega,by omega⟩,⟨by omega,by omega⟩,by omega⟩
@[irreducible] def qW(ds:List D)(P:D->Prop):Prop:=fWd ds P
def mZ{ds:List D}{P:D->Prop}(h:fWd ds P):qW ds P:=by
 unfold qW
 exact h
def RQ(sc:Addr)(i:Nat)(n:Int)(us:List Tie)(s4 s5 s6 s7:Sl):List Sl:=[.scr (.ref sc) false,.im (.int (0+((i:Nat):Int))),.pen TP,.im (au n us),s4,s5,s6,s7]
def Ci{n:Int}{us:List Tie}{b:Bool}{os:List Off}{d:D}(n1:1<=n)(n8:n<=8)(lu:us.length<=52)(ok:OkN n us)(lo:os.length<=8)(oko:OkO n os)(ht:Sh 6 3000 d):Ln (.tuple [au n us,oT b os,d]):=(Sh.tuple (k:=10) (m:=30000) (c:=100000) (λe hd=>by
 simp only[â,ń,or_false] at hd
 rcases hd with rfl|rfl|rfl
 ·exact(Py n1 n8 lu ok).mono (by decide) (by decide)
 ·exact(Bh b n8 lo oko).mono (by decide) (by decide)
 ·exact ht.mono (by decide) (by decide)) (by show 3 * (30000+1)<=100000;decide)).ok (by decide) (by decide)
def EXT:List D:=[.list [],.tuple [.str "weights",.list []],.none,.list [.int 9],.list [.bool true],.str "0",.tuple [.str "try",.int 0,.none,.none],.dict []]
def Cp(d:D):norm .new d=.imm\/norm .new d=.new:=by
 by_cases h:bU d=true
 ·exact .inl (ŗ h)
 ·exact .inr (Ř h)
def CQ{P:DEnds}{ρ:List Sl}{i:Nat}{k:Kd}{d:D}(hk:k=.imm\/k=.new)(h:∀s,(s=.im d\/s=.sn d)->P.nx (ρ.set i s)):(match Dl.stK none ρ i (norm k d) d with
  |some s=>P.nx (ρ.set i s)
  |none=>False):=by
 rcases hk with rfl|rfl
 ·exact h _ (.inl rfl)
 ·by_cases hi:bU d=true
  ·rw[ŗ hi];exact h _ (.inl rfl)
  ·rw[Ř hi];exact h _ (.inr rfl)
def D3:D:=.list [.str "offers",.str "offers",.str "offers"]
def ok0:okD (.list [])=true:=by decide +kernel
def ok3:okD D3=true:=by decide +kernel
def M9:Ē (.list []) (.list [])=true:=by decide +kernel
def U0:Ē D3 D3=true:=by decide +kernel
def ext_nil{m:Nat}:R9 m (.list []):=⟨λes e=>by cases e;decide,.inr ⟨[],rfl,.nil,λk hk=>nomatch hk⟩,.odd (.list []),rfl,rfl,rfl,rfl⟩
def Jy{m:Nat}(m5:m<=5):∀e∈EXT,R9 m e :=
 all_cons ext_nil (all_cons ⟨(λes e=>nomatch e),.inl rfl,.wts (.list []),rfl,λes e=>by cases e;exact⟨by decide,λe he=>nomatch he⟩⟩ (all_cons ⟨(λes e=>nomatch e),.inl rfl,.odd .none,rfl,rfl,rfl,rfl⟩
  (all_cons ⟨λes e=>by cases e;decide,.inl (by
   show(([Í 9].all (aJ (m:Int)))&&_)=false
   show((decide ((0:Int)<=9/\(9:Int)<(m:Int))&&true)&&_)=false
   rw[decide_eq_false (by omega)];rfl),.odd (.list [.int 9]),rfl,rfl,rfl,rfl⟩
  (all_cons ⟨λes e=>by cases e;decide,.inl rfl,.odd (.list [.bool true]),rfl,rfl,rfl,rfl⟩ (all_cons ⟨(λes e=>nomatch e),.inl rfl,.odd (.str "0"),rfl,rfl,rfl,rfl⟩
  (all_cons ⟨(λes e=>nomatch e),.inl rfl,.tri (.int 0) (.odd .none) (.odd .none),rfl,⟨rfl,rfl,rfl⟩,⟨rfl,rfl,rfl⟩⟩ (all_cons ⟨(λes e=>nomatch e),.inl rfl,.odd (.dict []),rfl,rfl,rfl,rfl⟩ all_nil)))))))
section
variable {P:Program}{w:World}{K:Ñ}{mg:Str->Option Value}{base:Heap}{f:Addr}{fd:FuncData}{CN PT:Addr}
def QF{xs:List Str}{CF c1 c2 c3 c4 c5 c6 c7 c8 c9:Addr}(F:Fun K "_law_words" "_law_words" (top 62) f fd)(B:ĝ mg)(R:Dl.RefK K mg "NoOffers" xs CN CF c1 c2 c3 c4 c5 c6 c7 c8 c9)(AN:ň P w K mg base 11 "is_answer" ["web","offers","numbers"] (Bd CN))(CH:ň P w K mg base 19 "cheapest" ["web","offers"] (Bc CN PT))(TH:ň P w K mg base 27 "tree_holds" ["web","offers","number","tree"] (Bb CN))(KD:L2.CalH P w K mg base 1 "_law_kind" ["_law_e"] (oR CN "offers")):FnOk P w K mg base CX0 28 f fd ["_law_web_here","_law_offers_here","_law_extra"] (spT (aY PT) qW) :=
 (Ua F B R AN CH TH KD).imp λvs H Q E ⟨ds,P,pi,r,t,k⟩=>⟨ds,P,pi,r,by unfold qW at t;exact t,k⟩
def Gu:FnScope ["_law_script","_law_k","_law_pen_here","_law_web_here","_law_offers_here","_law_odd_here","_law_kept","_law_extra"] ["_law_script"] (aj (top 63)):=zC
def QS(F:Fun K "law" "law" (top 63) f fd)(B:ĝ mg)(m_repr:mg "repr"=none)(SY:Dl.yr base)(C__law_pen:Ü P w K mg base 1 "_law_pen" ["_law_script","_law_k"] (Wb.Kg K TX))(C__law_web:Ü P w K mg base 3 "_law_web" ["_law_pen_here","_law_most"] (dF 4000000 UJ))(C__law_offers:Ü P w K mg base 3 "_law_offers" ["_law_pen_here","_law_n","_law_most"] (dF 20000 Ou))(C__law_odd:Ü P w K mg base 2 "_law_odd" ["_law_pen_here","_law_n","_law_offers_here"] (jO 10 RD))(C__law_draw:Ü P w K mg base 1 "_law_draw" ["_law_pen_here","_law_many"] (dF 1 nW))(C__law_words:Ü P w K mg base 28 "_law_words" ["_law_web_here","_law_offers_here","_law_extra"] (spT (aY PT) qW)):FnOk P w K mg base CX0 29 f fd ["_law_script"] (Gj K (aY PT)):=by
 refine F.ok Gu (λvs H Q E h=>by obtain⟨a,ns,rfl,_⟩:=h;rfl) (λcdv A outer s H vs Q E hr h=>?_)
 obtain⟨sc,ns,rfl,hS,hT,q⟩:=h
 have nd:=Gu.nd
 letI:Tb:=⟨aY PT⟩
 refine⟨_,(Wb.Sg (K:=K) (sc:=sc) (ns:=ns) Ņ rfl (Wr.fY B.range (À Ä Á)) (Ĉ (i:=1) nd rfl zQ) (Wb.G5 this C__law_pen hr (č 0) (À (Å 1) Á) nd (i:=2) rfl zQ
  (Wb.cons (Wb.set none (i:=3) nd rfl zQ (Wb.dcP (Dl.Cal.jY C__law_web) hr (č 2) (Wb.a0 (À Ä Á))))
  (Wb.cons (Wb.set none (i:=4) nd rfl zQ (Wb.dcP (Dl.Cal.jY C__law_offers) hr (č 2) (Wb.a0 (À (õ (Å 3) Ä) (À Ä Á)))))
  (Wb.cons (Wb.set none (i:=5) nd rfl zQ (Wb.U5 (Dl.Cal.TY C__law_odd) hr (č 2) (Wb.a0 (À (õ (Å 3) Ä) (À (Å 4) Á)))))
  (Wb.cons (Wb.s0 (ĳ none (i:=6) nd rfl zQ (Wr.j7 SY hr.gd hr.units m_repr (À (Ú (À (Å 3) (À (Å 4) (À (Å 5) Á)))) Á))))
  (Wb.cons (Wb.set none (i:=7) nd rfl zQ (Wb.ix (Wb.e0 (Wr.zm ["_law_script","_law_k","_law_pen_here","_law_web_here","_law_offers_here","_law_odd_here","_law_kept","_law_extra"] (aj (top 63)) (.lst (.cons (.lst .nil) (.cons (.tup (.cons (.str "weights") (.cons (.lst .nil) .nil))) (.cons .non (.cons (.lst (.cons (.int 9) .nil)) (.cons (.lst (.cons (.bl true) .nil)) (.cons (.str "0") (.cons (.tup (.cons (.str "try") (.cons (.int 0) (.cons .non (.cons .non .nil))))) (.cons .dct .nil))))))))) (by decide +kernel))) (Wb.dcP (Dl.Cal.jY C__law_draw) hr (č 2) (Wb.a0 (À Ä Á)))))
  (Wb.lV (Wb.if_ (Wb.wt (Wb.or2 (Wb.tne hr.units (Wb.RM C__law_words hr (Wb.a0 (À (Å 3) (À (Å 4) (À (Å 7) Á))))) (Wb.e0 (þ Á))) (Wb.or1 (Wb.tne hr.units (Wb.RM C__law_words hr (Wb.a0 (À (Å 3) (À (Å 5) (À (Å 7) Á))))) (Wb.e0 (þ (À ĉ (À ĉ (À ĉ Á))))))))) (Wb.ss0 (ã (é ũ))) (Wb.ss0 ú))
  (Wb.cons (Wb.if_ (Wb.wt (Wb.or2 (Wb.tne hr.units (Wb.RM C__law_words hr (Wb.a0 (À (Å 3) (À (Å 4) (À (þ Á) Á))))) (Wb.e0 (þ Á))) (Wb.or1 (Wb.t0 (ř hr.units (Wr.j7 SY hr.gd hr.units m_repr (À (Ú (À (Å 3) (À (Å 4) (À (Å 5) Á)))) Á)) (Å 6)))))) (Wb.ss0 (ã (é ũ))) (Wb.ss0 ú)) (Wb.drops [1,3,4,5,6,7] (Wb.ss0 ú))))))))) rfl)
  (ã (é ũ))),Ng hS hT (QZ hT) q (by decide) ?_⟩
 refine⟨⟨by decide,by decide⟩,rfl,λ(i:Nat) ρ=>∃b,ρ=[.scr (.ref sc) b,.any,.any,.any,.any,.any,.any,.any],⟨false,rfl⟩,?_,?_⟩
 rotate_left
 ·rintro ρ ⟨b,rfl⟩
  exact⟨rfl,rfl⟩
 rintro i d ρ hd ⟨b,rfl⟩
 obtain⟨hi,rfl⟩:=dY hd
 refine⟨⟨b,rfl⟩,(show 2<8 by decide),⟨_,rfl,by omega,by omega⟩,?_⟩
 refine⟨rfl,5,rfl,by decide,by decide,λn us n1 n6 lu ok srt=>?_⟩
 refine lM (s:=.im (au n us)) (by rw[ŗ (jo n us)];rfl) ?_
 have okn:=ok.okN
 refine⟨rfl,.int n,rfl,n,5,rfl,n1,by omega,by decide,by decide,λb os lo okc=>?_⟩
 have oo:=okc.ok
 have lo5:os.length<=5:=lo
 cases b with
 |true =>
  refine lM (rg:=none) (i:=4) (ρ:=RQ sc i n us .any .any .any .any) (k:=norm .new (oT true os)) (d:=oT true os) (s:=.sn (.list (os.map oD))) (by rfl) ?_
  refine⟨rfl,.int n,rfl,rfl,n,true,os,rfl,n1,by omega,lo5,oo,λo ho=>?_⟩
  have okr:=Ci (b:=true) n1 (by omega) (by omega) okn (by omega) oo ho.2.2
  refine lK (k:=norm .shr o) (uX o) ?_
  rintro s5 (rfl|rfl)
  all_goals
   refine⟨zK,_,_,rfl,okr,?_⟩
   refine⟨_,_,rfl,rfl,8,rfl,by decide,by decide,λy y0 y1=>?_⟩
   obtain⟨x,hx,hm⟩:=rC (ds:=EXT) y0 y1
   refine⟨x,hx,?_⟩
   have ex:=Jy (m:=os.length) lo5 x hm
   refine CQ (k:=norm .new x) (Cp x) ?_
   rintro s7 h7
   refine⟨λρ=>∃s5 s7,(s5=.im o\/s5=.sh o)/\(s7=.im x\/s7=.sn x)/\ρ=RQ sc i n us (.sn (.list (os.map oD))) s5 (.im (.str (Ŋ [au n us,oT true os,o]).shown)) s7,?_,?_⟩
   ·rcases h7 with rfl|rfl
    all_goals
     show qW [au n us,oT true os,x] _
     refine mZ ⟨n,us,_,x,rfl,n1,by omega,by omega,okn,.inl ⟨true,os,rfl,lo5,oo,ex,?_⟩⟩
     refine⟨zK,ok0,ok0,?_⟩
     show if (!PyData.eqv (.list []) (.list []))=true then _ else _
     rw[M9]
     refine aL (A:=_) ?_
     show qW [au n us,o,x] _
     refine mZ ⟨n,us,o,x,rfl,n1,by omega,by omega,okn,.inr ⟨ho.1,ho.2.1,?_⟩⟩
     refine⟨zK,ok3,ok3,?_⟩
     show if (!PyData.eqv D3 D3)=true then _ else _
     rw[U0]
     refine aL (A:=_) ?_
     exact⟨_,_,by first|exact .inl rfl|exact .inr rfl,by first|exact .inl rfl|exact .inr rfl,rfl⟩
   ·rintro ρ ⟨s5,s7,h5,h7,rfl⟩
    refine⟨zK,?_⟩
    show qW [au n us,oT true os,.list []] _
    refine mZ ⟨n,us,_,_,rfl,n1,by omega,by omega,okn,.inl ⟨true,os,rfl,lo5,oo,ext_nil,?_⟩⟩
    refine⟨zK,ok0,ok0,?_⟩
    show if (!PyData.eqv (.list []) (.list []))=true then _ else _
    rw[M9]
    refine aL (A:=_) ?_
    rcases h5 with rfl|rfl
    all_goals
     refine⟨zK,_,_,rfl,okr,?_⟩
     show if (!decide ((Ŋ [au n us,oT true os,o]).shown=(Ŋ [au n us,oT true os,o]).shown))=true then _ else _
     rw[decide_eq_true rfl]
     refine aL (A:=_) ?_
     exact⟨⟨_,rfl⟩,rfl,⟨_,rfl⟩⟩
 |false =>
  refine lM (rg:=none) (i:=4) (ρ:=RQ sc i n us .any .any .any .any) (k:=norm .new (oT false os)) (d:=oT false os) (s:=.im (.tuple (os.map oD))) (by show Dl.stK none (RQ sc i n us .any .any .any .any) 4 (norm (norm .new (.tuple (os.map oD))) (.tuple (os.map oD))) (.tuple (os.map oD))=_;rw[ŗ (k:=norm .new (.tuple (os.map oD))) (show bU (.tuple (os.map oD))=true from lF os)];rfl) ?_
  refine⟨rfl,.int n,rfl,rfl,n,false,os,rfl,n1,by omega,lo5,oo,λo ho=>?_⟩
  have okr:=Ci (b:=false) n1 (by omega) (by omega) okn (by omega) oo ho.2.2
  refine lK (k:=norm .shr o) (uX o) ?_
  rintro s5 (rfl|rfl)
  all_goals
   refine⟨zK,_,_,rfl,okr,?_⟩
   refine⟨_,_,rfl,rfl,8,rfl,by decide,by decide,λy y0 y1=>?_⟩
   obtain⟨x,hx,hm⟩:=rC (ds:=EXT) y0 y1
   refine⟨x,hx,?_⟩
   have ex:=Jy (m:=os.length) lo5 x hm
   refine CQ (k:=norm .new x) (Cp x) ?_
   rintro s7 h7
   refine⟨λρ=>∃s5 s7,(s5=.im o\/s5=.sh o)/\(s7=.im x\/s7=.sn x)/\ρ=RQ sc i n us (.im (.tuple (os.map oD))) s5 (.im (.str (Ŋ [au n us,oT false os,o]).shown)) s7,?_,?_⟩
   ·rcases h7 with rfl|rfl
    all_goals
     show qW [au n us,oT false os,x] _
     refine mZ ⟨n,us,_,x,rfl,n1,by omega,by omega,okn,.inl ⟨false,os,rfl,lo5,oo,ex,?_⟩⟩
     refine⟨zK,ok0,ok0,?_⟩
     show if (!PyData.eqv (.list []) (.list []))=true then _ else _
     rw[M9]
     refine aL (A:=_) ?_
     show qW [au n us,o,x] _
     refine mZ ⟨n,us,o,x,rfl,n1,by omega,by omega,okn,.inr ⟨ho.1,ho.2.1,?_⟩⟩
     refine⟨zK,ok3,ok3,?_⟩
     show if (!PyData.eqv D3 D3)=true then _ else _
     rw[U0]
     refine aL (A:=_) ?_
     exact⟨_,_,by first|exact .inl rfl|exact .inr rfl,by first|exact .inl rfl|exact .inr rfl,rfl⟩
   ·rintro ρ ⟨s5,s7,h5,h7,rfl⟩
    refine⟨zK,?_⟩
    show qW [au n us,oT false os,.list []] _
    refine mZ ⟨n,us,_,_,rfl,n1,by omega,by omega,okn,.inl ⟨false,os,rfl,lo5,oo,ext_nil,?_⟩⟩
    refine⟨zK,ok0,ok0,?_⟩
    show if (!PyData.eqv (.list []) (.list []))=true then _ else _
    rw[M9]
    refine aL (A:=_) ?_
    rcases h5 with rfl|rfl
    all_goals
     refine⟨zK,_,_,rfl,okr,?_⟩
     show if (!decide ((Ŋ [au n us,oT false os,o]).shown=(Ŋ [au n us,oT false os,o]).shown))=true then _ else _
     rw[decide_eq_true rfl]
     refine aL (A:=_) ?_
     exact⟨⟨_,rfl⟩,rfl,⟨_,rfl⟩⟩
end
def len1{α:Type}:∀us:List α,us.length=1->∃a,us=[a]
 |[a],_=>⟨a,rfl⟩
def len2{α:Type}:∀us:List α,us.length=2->∃a b,us=[a,b]
 |[a,b],_=>⟨a,b,rfl⟩
def V6{α:Type}:∀us:List α,us.length=3->∃a b c,us=[a,b,c]
 |[a,b,c],_=>⟨a,b,c,rfl⟩
def Q9{α:Type}:∀us:List α,us.length=4->∃a b c d,us=[a,b,c,d]
 |[a,b,c,d],_=>⟨a,b,c,d,rfl⟩
def Q8{α:Type}:∀us:List α,us.length=5->∃a b c d e,us=[a,b,c,d,e]
 |[a,b,c,d,e],_=>⟨a,b,c,d,e,rfl⟩
def aC{K:Ñ}{f:Addr}{oc:Value}{od:Option Addr}{fd:FuncData}{sl:Array (Option Value)}(l:K.lookup f=some ⟨oc,od,.func fd,sl⟩):W.keepIn K (.ref f)=true:=by
 unfold W.keepIn
 simp only[l]
def aG{P:Program}{w:World}{K:Ñ}{mg:Str->Option Value}{base:Heap}{k:Nat}{x:Str}{st:Stmt}{f:Addr}{fd:FuncData}{ps:List Str}{sp:Sp}(F:Fun K x x st f fd)(b:Binds K fd ps [])(m:mg x=some (.ref f))(h:FnOk P w K mg base CX0 k f fd ps sp) :
  Ü P w K mg base k x ps sp:=⟨f,fd,h,b,F.kp,m⟩
def pG{P:Program}{w:World}{K:Ñ}{mg:Str->Option Value}{base:Heap}{k:Nat}{x:Str}{st:Stmt}{f:Addr}{fd:FuncData}{ps:List Str}{sp:Sp}(F:Fun K x x st f fd)(b:Binds K fd ps [])(m:mg x=some (.ref f))(h:FnOk P w K mg base (CX1 P w) k f fd ps sp) :
  ň P w K mg base k x ps sp:=⟨f,fd,h,b,F.kp,m⟩
def Np{P:Program}{w:World}{K:Ñ}{mg:Str->Option Value}{base:Heap}{k:Nat}{x:Str}{st:Stmt}{f:Addr}{fd:FuncData}{ps:List Str}{sp:Addr×Obj×HO->Sp}(F:Fun K x x st f fd)(b:Binds K fd ps [])(m:mg x=some (.ref f))(h:FnOkH P w K mg base k f fd ps sp) :
  L2.CalH P w K mg base k x ps sp:=⟨f,fd,h,b,F.kp,m⟩
abbrev zl(K:Ñ)(f:Addr)(x:Str)(st:Stmt)(oc:Value)(od:Option Addr)(kV dc pm:Value)(an:Option Addr)(cd ct:Value)(sl:Array (Option Value)):Prop:=K.lookup f=some ⟨oc,od,.func (W.fnOf x x (fu st) (bO st) (aj st) .none kV dc pm an cd ct),sl⟩
abbrev za(K:Ñ)(x:Str)(f:Addr):Prop:=W.nsIn K mainGlobals x=some (some (.ref f))
abbrev zc(K:Ñ)(x:Str)(cd:Value):Prop:=W.codeIn K cd x=true
abbrev zn(K:Ñ)(x:Str):Prop:=W.nsIn K mainGlobals x=some none
def all_mk{l:W.OpenLaw}{w:World}{K:Ñ}{h:Heap}{mg:Str->Option Value}{c PT fa f0 f1 f2 f3 f4 f5 f6 f7 f8 f9 f10 f11 f12 f13 f14 f15 f16 f17 f18 f19 f20 f21 f22 f23 f24 f25 f26 f27 f28 f29 f30 f31 f32 f33 f34 f35 f36 f37 f38 f39 f40 f41 f42:Addr}(hT:h.get? PT=some (W.tabObj #[]))(X:K.In h)(G:h.Ns mainGlobals mg)(hfa:mg "law"=some (.ref fa)){od0 an0 od1 an1 od2 an2 od3 an3 od4 an4 od5 an5 od6 an6 od7 an7 od8 an8 od9 an9 od10 an10 od11 an11 od12 an12 od13 an13 od14 an14 od15 an15 od16 an16 od17 an17 od18 an18 od19 an19 od20 an20 od21 an21 od22 an22 od23 an23 od24 an24 od25 an25 od26 an26 od27 an27 od28 an28 od29 an29 od30 an30 od31 an31 od32 an32 od33 an33 od34 an34 od35 an35 od36 an36 od37 an37 od38 an38 od39 an39 od40 an40 od41 an41 od42 an42:Option Addr}{sl0 sl1 sl2 sl3 sl4 sl5 sl6 sl7 sl8 sl9 sl10 sl11 sl12 sl13 sl14 sl15 sl16 sl17 sl18 sl19 sl20 sl21 sl22 sl23 sl24 sl25 sl26 sl27 sl28 sl29 sl30 sl31 sl32 sl33 sl34 sl35 sl36 sl37 sl38 sl39 sl40 sl41 sl42:Array (Option Value)}{oc0 kV0 dc0 pm0 cd0 ct0 oc1 kV1 dc1 pm1 cd1 ct1 oc2 kV2 dc2 pm2 cd2 ct2 oc3 kV3 dc3 pm3 cd3 ct3 oc4 kV4 dc4 pm4 cd4 ct4 oc5 kV5 dc5 pm5 cd5 ct5 oc6 kV6 dc6 pm6 cd6 ct6 oc7 kV7 dc7 pm7 cd7 ct7 oc8 kV8 dc8 pm8 cd8 ct8 oc9 kV9 dc9 pm9 cd9 ct9 oc10 kV10 dc10 pm10 cd10 ct10 oc11 kV11 dc11 pm11 cd11 ct11 oc12 kV12 dc12 pm12 cd12 ct12 oc13 kV13 dc13 pm13 cd13 ct13 oc14 kV14 dc14 pm14 cd14 ct14 oc15 kV15 dc15 pm15 cd15 ct15 oc16 kV16 dc16 pm16 cd16 ct16 oc17 kV17 dc17 pm17 cd17 ct17 oc18 kV18 dc18 pm18 cd18 ct18 oc19 kV19 dc19 pm19 cd19 ct19 oc20 kV20 dc20 pm20 ct20 oc21 kV21 dc21 pm21 cd21 ct21 oc22 kV22 dc22 pm22 cd22 ct22 oc23 kV23 dc23 pm23 cd23 ct23 oc24 kV24 dc24 pm24 cd24 ct24 oc25 kV25 dc25 pm25 cd25 ct25 oc26 kV26 dc26 pm26 cd26 ct26 oc27 kV27 dc27 pm27 cd27 ct27 oc28 kV28 dc28 pm28 cd28 ct28 oc29 kV29 dc29 pm29 cd29 ct29 oc30 kV30 dc30 pm30 cd30 ct30 oc31 kV31 dc31 pm31 cd31 ct31 oc32 kV32 dc32 pm32 cd32 ct32 oc33 kV33 dc33 pm33 cd33 ct33 oc34 kV34 dc34 pm34 cd34 ct34 oc35 kV35 dc35 pm35 cd35 ct35 oc36 kV36 dc36 pm36 cd36 ct36 oc37 kV37 dc37 pm37 cd37 ct37 oc38 kV38 dc38 pm38 cd38 ct38 oc39 kV39 dc39 pm39 cd39 ct39 oc40 kV40 dc40 pm40 cd40 ct40 oc41 kV41 dc41 pm41 cd41 ct41 oc42 kV42 dc42 pm42 cd42 ct42:Value}{tk_MOST_OFFERS:Tok}{CF CN ec1 ec2 ec3 ec4 ec5 ec6 ec7 ec8 ec9 NN:Addr}{nmN qN:Str}{bsN subN:List Value}{hdN abN:Bool}{snN:List Str}{colN:Option Bool}{ddN ddF:Option Addr}{q0 q1 q2 q3 q5:Option Value}{cdF:ClassData}{slF:Array (Option Value)}{cNN cNF:Value}{dNN dNF:Option Addr}{esN esF:Array DictEntry}{epN epF:Nat}{sNN sNF:Array (Option Value)}{ed1 ed2 ed3 ed4 ed5 ed6 ed7 ed8 ed9:Option Addr}{ek1 ek2 ek3 ek4 ek5 ek6 ek7 ek8 ek9:ClassData}{es1 es2 es3 es4 es5 es6 es7 es8 es9:Array (Option Value)}(a0:za K "is_whole" f0)(l0:zl K f0 "is_whole" (top 13) oc0 od0 kV0 dc0 pm0 an0 cd0 ct0 sl0)(c0:zc K "is_whole" cd0)(a1:za K "is_below" f1)(l1:zl K f1 "is_below" (top 14) oc1 od1 kV1 dc1 pm1 an1 cd1 ct1 sl1)(c1:zc K "is_below" cd1)(a2:za K "is_tie" f2)(l2:zl K f2 "is_tie" (top 15) oc2 od2 kV2 dc2 pm2 an2 cd2 ct2 sl2)(c2:zc K "is_tie" cd2)(a3:za K "with_ties" f3)(l3:zl K f3 "with_ties" (top 16) oc3 od3 kV3 dc3 pm3 an3 cd3 ct3 sl3)(c3:zc K "with_ties" cd3)(a4:za K "hops" f4)(l4:zl K f4 "hops" (top 18) oc4 od4 kV4 dc4 pm4 an4 cd4 ct4 sl4)(c4:zc K "hops" cd4)(a5:za K "is_rising" f5)(l5:zl K f5 "is_rising" (top 20) oc5 od5 kV5 dc5 pm5 an5 cd5 ct5 sl5)(c5:zc K "is_rising" cd5)(a6:za K "is_proper_set" f6)(l6:zl K f6 "is_proper_set" (top 21) oc6 od6 kV6 dc6 pm6 an6 cd6 ct6 sl6)(c6:zc K "is_proper_set" cd6)(a7:za K "check_set" f7)(l7:zl K f7 "check_set" (top 22) oc7 od7 kV7 dc7 pm7 an7 cd7 ct7 sl7)(c7:zc K "check_set" cd7)(a8:za K "sets_below" f8)(l8:zl K f8 "sets_below" (top 23) oc8 od8 kV8 dc8 pm8 an8 cd8 ct8 sl8)(c8:zc K "sets_below" cd8)(a9:za K "leaves" f9)(l9:zl K f9 "leaves" (top 24) oc9 od9 kV9 dc9 pm9 an9 cd9 ct9 sl9)(c9:zc K "leaves" cd9)(a10:za K "ties_that_leave" f10)(l10:zl K f10 "ties_that_leave" (top 25) oc10 od10 kV10 dc10 pm10 an10 cd10 ct10 sl10)(c10:zc K "ties_that_leave" cd10)(a11:za K "leaving" f11)(l11:zl K f11 "leaving" (top 26) oc11 od11 kV11 dc11 pm11 an11 cd11 ct11 sl11)(c11:zc K "leaving" cd11)(a12:za K "need" f12)(l12:zl K f12 "need" (top 27) oc12 od12 kV12 dc12 pm12 an12 cd12 ct12 sl12)(c12:zc K "need" cd12)(a13:za K "needy_set" f13)(l13:zl K f13 "needy_set" (top 29) oc13 od13 kV13 dc13 pm13 an13 cd13 ct13 sl13)(c13:zc K "needy_set" cd13)(a14:za K "stands" f14)(l14:zl K f14 "stands" (top 30) oc14 od14 kV14 dc14 pm14 an14 cd14 ct14 sl14)(c14:zc K "stands" cd14)(a15:za K "is_offer" f15)(l15:zl K f15 "is_offer" (top 33) oc15 od15 kV15 dc15 pm15 an15 cd15 ct15 sl15)(c15:zc K "is_offer" cd15)(a16:za K "check_offers" f16)(l16:zl K f16 "check_offers" (top 34) oc16 od16 kV16 dc16 pm16 an16 cd16 ct16 sl16)(c16:zc K "check_offers" cd16)(a17:za K "with_offers" f17)(l17:zl K f17 "with_offers" (top 35) oc17 od17 kV17 dc17 pm17 an17 cd17 ct17 sl17)(c17:zc K "with_offers" cd17)(a18:za K "cost_of" f18)(l18:zl K f18 "cost_of" (top 36) oc18 od18 kV18 dc18 pm18 an18 cd18 ct18 sl18)(c18:zc K "cost_of" cd18)(a19:za K "is_answer" f19)(l19:zl K f19 "is_answer" (top 37) oc19 od19 kV19 dc19 pm19 an19 cd19 ct19 sl19)(c19:zc K "is_answer" cd19)(a20:za K "cheapest_answer" f20)(l20:zl K f20 "cheapest_answer" (top 38) oc20 od20 kV20 dc20 pm20 an20 (.ref c) ct20 sl20)(c20:zc K "cheapest_answer" (.ref c))(a21:za K "tree_for" f21)(l21:zl K f21 "tree_for" (top 39) oc21 od21 kV21 dc21 pm21 an21 cd21 ct21 sl21)(c21:zc K "tree_for" cd21)(a22:za K "cheapest" f22)(l22:zl K f22 "cheapest" (top 40) oc22 od22 kV22 dc22 pm22 an22 cd22 ct22 sl22)(c22:zc K "cheapest" cd22)(a23:za K "has_form" f23)(l23:zl K f23 "has_form" (top 42) oc23 od23 kV23 dc23 pm23 an23 cd23 ct23 sl23)(c23:zc K "has_form" cd23)(a24:za K "is_row" f24)(l24:zl K f24 "is_row" (top 44) oc24 od24 kV24 dc24 pm24 an24 cd24 ct24 sl24)(c24:zc K "is_row" cd24)(a25:za K "are_rows" f25)(l25:zl K f25 "are_rows" (top 45) oc25 od25 kV25 dc25 pm25 an25 cd25 ct25 sl25)(c25:zc K "are_rows" cd25)(a26:za K "weight_on" f26)(l26:zl K f26 "weight_on" (top 46) oc26 od26 kV26 dc26 pm26 an26 cd26 ct26 sl26)(c26:zc K "weight_on" cd26)(a27:za K "weights_hold" f27)(l27:zl K f27 "weights_hold" (top 47) oc27 od27 kV27 dc27 pm27 an27 cd27 ct27 sl27)(c27:zc K "weights_hold" cd27)(a28:za K "bars" f28)(l28:zl K f28 "bars" (top 48) oc28 od28 kV28 dc28 pm28 an28 cd28 ct28 sl28)(c28:zc K "bars" cd28)(a29:za K "try_holds" f29)(l29:zl K f29 "try_holds" (top 49) oc29 od29 kV29 dc29 pm29 an29 cd29 ct29 sl29)(c29:zc K "try_holds" cd29)(a30:za K "holds" f30)(l30:zl K f30 "holds" (top 50) oc30 od30 kV30 dc30 pm30 an30 cd30 ct30 sl30)(c30:zc K "holds" cd30)(a31:za K "tree_holds" f31)(l31:zl K f31 "tree_holds" (top 51) oc31 od31 kV31 dc31 pm31 an31 cd31 ct31 sl31)(c31:zc K "tree_holds" cd31)(a32:za K "_law_pen" f32)(l32:zl K f32 "_law_pen" (top 53) oc32 od32 kV32 dc32 pm32 an32 cd32 ct32 sl32)(c32:zc K "_law_pen" cd32)(a33:za K "_law_draw" f33)(l33:zl K f33 "_law_draw" (top 54) oc33 od33 kV33 dc33 pm33 an33 cd33 ct33 sl33)(c33:zc K "_law_draw" cd33)(a34:za K "_law_plain" f34)(l34:zl K f34 "_law_plain" (top 55) oc34 od34 kV34 dc34 pm34 an34 cd34 ct34 sl34)(c34:zc K "_law_plain" cd34)(a35:za K "_law_turned" f35)(l35:zl K f35 "_law_turned" (top 56) oc35 od35 kV35 dc35 pm35 an35 cd35 ct35 sl35)(c35:zc K "_law_turned" cd35)(a36:za K "_law_web" f36)(l36:zl K f36 "_law_web" (top 57) oc36 od36 kV36 dc36 pm36 an36 cd36 ct36 sl36)(c36:zc K "_law_web" cd36)(a37:za K "_law_kind" f37)(l37:zl K f37 "_law_kind" (top 58) oc37 od37 kV37 dc37 pm37 an37 cd37 ct37 sl37)(c37:zc K "_law_kind" cd37)(a38:za K "_law_cost" f38)(l38:zl K f38 "_law_cost" (top 59) oc38 od38 kV38 dc38 pm38 an38 cd38 ct38 sl38)(c38:zc K "_law_cost" cd38)(a39:za K "_law_offers" f39)(l39:zl K f39 "_law_offers" (top 60) oc39 od39 kV39 dc39 pm39 an39 cd39 ct39 sl39)(c39:zc K "_law_offers" cd39)(a40:za K "_law_odd" f40)(l40:zl K f40 "_law_odd" (top 61) oc40 od40 kV40 dc40 pm40 an40 cd40 ct40 sl40)(c40:zc K "_law_odd" cd40)(a41:za K "_law_words" f41)(l41:zl K f41 "_law_words" (top 62) oc41 od41 kV41 dc41 pm41 an41 cd41 ct41 sl41)(c41:zc K "_law_words" cd41)(a42:za K "law" f42)(l42:zl K f42 "law" (top 63) oc42 od42 kV42 dc42 pm42 an42 cd42 ct42 sl42)(c42:zc K "law" cd42)(g_MOST_OFFERS:W.nsIn K mainGlobals "MOST_OFFERS"=some (some (.int 8 tk_MOST_OFFERS)))(xF:za K "FallError" CF)(xN:za K "NoOffers" CN)(x1:za K "NoBack" ec1)(x2:za K "NoOrder" ec2)(x3:za K "NoPlace" ec3)(x4:za K "NoRow" ec4)(x5:za K "NoSet" ec5)(x6:za K "NoText" ec6)(x7:za K "NoTie" ec7)(x8:za K "NoWeb" ec8)(x9:za K "TooMany" ec9)(lkN:K.lookup CN=some (excClassObj nmN qN CN NN bsN (.ref CF::[.type "ValueError",.type "Exception",.type "BaseException",.type "object"]) hdN snN subN abN colN ddN q0 q1 q2 q3 q5 "ValueError.__new__"))(lkF:K.lookup CF=some ⟨.type "type",ddF,.cls cdF,slF⟩)(lkNN:K.lookup NN=some ⟨cNN,dNN,.dict esN epN,sNN⟩)(niN:W.nsIn K NN "__init__"=some none)(lkNF:K.lookup cdF.ns=some ⟨cNF,dNF,.dict esF epF,sNF⟩)(ff1:W.nsIn K cdF.ns "__init__"=some none)(ff2:W.nsIn K cdF.ns "__getattribute__"=some none)(ff3:W.nsIn K cdF.ns "__getattr__"=some none)(ff4:W.nsIn K cdF.ns "args"=some none)(ga:W.findIn K (.ref CN) "__getattribute__"=some (some (.builtin "BaseException.__getattribute__")))(hook:W.findIn K (.ref CN) "__getattr__"=some none)(clsN:W.findIn K (.ref CN) "__class__"=some (some (.builtin "object.__class__")))(mroN:ű K CN (.type "object")=some true)(mNN:ű K CN (.ref CN)=some true)(mNF:ű K CN (.ref CF)=some true)(mFB:ű K CF (.type "BaseException")=some true)(mNV:ű K CN (.type "ValueError")=some true)(lkc1:K.lookup ec1=some ⟨.type "type",ed1,.cls ek1,es1⟩)(mc1:ű K CN (.ref ec1)=some false)(lkc2:K.lookup ec2=some ⟨.type "type",ed2,.cls ek2,es2⟩)(mc2:ű K CN (.ref ec2)=some false)(lkc3:K.lookup ec3=some ⟨.type "type",ed3,.cls ek3,es3⟩)(mc3:ű K CN (.ref ec3)=some false)(lkc4:K.lookup ec4=some ⟨.type "type",ed4,.cls ek4,es4⟩)(mc4:ű K CN (.ref ec4)=some false)(lkc5:K.lookup ec5=some ⟨.type "type",ed5,.cls ek5,es5⟩)(mc5:ű K CN (.ref ec5)=some false)(lkc6:K.lookup ec6=some ⟨.type "type",ed6,.cls ek6,es6⟩)(mc6:ű K CN (.ref ec6)=some false)(lkc7:K.lookup ec7=some ⟨.type "type",ed7,.cls ek7,es7⟩)(mc7:ű K CN (.ref ec7)=some false)(lkc8:K.lookup ec8=some ⟨.type "type",ed8,.cls ek8,es8⟩)(mc8:ű K CN (.ref ec8)=some false)(lkc9:K.lookup ec9=some ⟨.type "type",ed9,.cls ek9,es9⟩)(mc9:ű K CN (.ref ec9)=some false)(okN:(esN.toList.all (λe=>match e.key with|.str _ _=>true|_=>false))=true)(okF:(esF.toList.all (λe=>match e.key with|.str _ _=>true|_=>false))=true)(z0:zn K "isinstance")(z1:zn K "int")(z2:zn K "bool")(z3:zn K "tuple")(z4:zn K "list")(z5:zn K "len")(z6:zn K "all")(z7:zn K "min")(z8:zn K "max")(z9:zn K "sorted")(z10:zn K "range")(z11:zn K "abs")(z12:zn K "zip")(z13:zn K "sum")(z14:zn K "str")(z15:zn K "any")(z16:zn K "repr")(z17:zn K "ValueError"){occ:Value}{odc:Option Addr}{vsc:Array Value}{slc:Array (Option Value)}(lc:K.lookup c=some ⟨occ,odc,.fields vsc,slc⟩)(v11:vsc[11]?=some (.ref PT))(hP0:K.lookup PT=none)(hcI:W.codeHdIn K c PT=true)
  :
  ∃(K':Ñ) (c PT:Addr) (fd:FuncData) (sp:Sp),K'.In h/\K'.lookup PT=none/\W.CodeHd h c PT/\h.get? PT=some (W.tabObj #[])/\(∀(s:Shared) (u:Value),BindsTo s fd ⟨[u],[]⟩ [("_law_script",u)]) /\
    (∀base:Heap,K'.In base->base.Ns mainGlobals mg->base.BuiltinsAt mg PT->Dl.yr base->FnOk l.prog w K' mg base CX0 29 fa fd ["_law_script"] sp)/\∀(H:Hp) (a:Addr) (ns:List Int),SqL K' H a (ns.map V.int)->H PT=some (.tbl #[])->sp [.ref a] H (λv _=>v=.bl true) λ_ _ _=>False:=by
 have e:=hfa.symm.trans (ë X G a42)
 cases e
 have F0:=Ď (st:=top 13) l0 c0 (aC l0)
 have b0:=F0.binds (ps:=["thing"])
 have m0:=ë X G a0
 have F1:=Ď (st:=top 14) l1 c1 (aC l1)
 have b1:=F1.binds (ps:=["limit","thing"])
 have m1:=ë X G a1
 have F2:=Ď (st:=top 15) l2 c2 (aC l2)
 have b2:=F2.binds (ps:=["n","thing"])
 have m2:=ë X G a2
 have F3:=Ď (st:=top 16) l3 c3 (aC l3)
 have b3:=F3.binds (ps:=["web","added"])
 have m3:=ë X G a3
 have F4:=Ď (st:=top 18) l4 c4 (aC l4)
 have b4:=F4.binds (ps:=["places"])
 have m4:=ë X G a4
 have F5:=Ď (st:=top 20) l5 c5 (aC l5)
 have b5:=F5.binds (ps:=["limit","thing"])
 have m5:=ë X G a5
 have F6:=Ď (st:=top 21) l6 c6 (aC l6)
 have b6:=F6.binds (ps:=["n","thing"])
 have m6:=ë X G a6
 have F7:=Ď (st:=top 22) l7 c7 (aC l7)
 have b7:=F7.binds (ps:=["web","thing"])
 have m7:=ë X G a7
 have F8:=Ď (st:=top 23) l8 c8 (aC l8)
 have b8:=F8.binds (ps:=["count"])
 have m8:=ë X G a8
 have F9:=Ď (st:=top 24) l9 c9 (aC l9)
 have b9:=F9.binds (ps:=["tie","some"])
 have m9:=ë X G a9
 have F10:=Ď (st:=top 25) l10 c10 (aC l10)
 have b10:=F10.binds (ps:=["web","some"])
 have m10:=ë X G a10
 have F11:=Ď (st:=top 26) l11 c11 (aC l11)
 have b11:=F11.binds (ps:=["web","some"])
 have m11:=ë X G a11
 have F12:=Ď (st:=top 27) l12 c12 (aC l12)
 have b12:=F12.binds (ps:=["web","falls","some"])
 have m12:=ë X G a12
 have F13:=Ď (st:=top 29) l13 c13 (aC l13)
 have b13:=F13.binds (ps:=["web","falls"])
 have m13:=ë X G a13
 have F14:=Ď (st:=top 30) l14 c14 (aC l14)
 have b14:=F14.binds (ps:=["web","falls"])
 have m14:=ë X G a14
 have F15:=Ď (st:=top 33) l15 c15 (aC l15)
 have b15:=F15.binds (ps:=["web","thing"])
 have m15:=ë X G a15
 have F16:=Ď (st:=top 34) l16 c16 (aC l16)
 have b16:=F16.binds (ps:=["web","thing"])
 have m16:=ë X G a16
 have F17:=Ď (st:=top 35) l17 c17 (aC l17)
 have b17:=F17.binds (ps:=["web","offers","numbers"])
 have m17:=ë X G a17
 have F18:=Ď (st:=top 36) l18 c18 (aC l18)
 have b18:=F18.binds (ps:=["offers","numbers"])
 have m18:=ë X G a18
 have F19:=Ď (st:=top 37) l19 c19 (aC l19)
 have b19:=F19.binds (ps:=["web","offers","numbers"])
 have m19:=ë X G a19
 have F20:=Ď (st:=top 38) l20 c20 (aC l20)
 have b20:=F20.binds (ps:=["web","offers"])
 have m20:=ë X G a20
 have F21:=Ď (st:=top 39) l21 c21 (aC l21)
 have b21:=F21.binds (ps:=["made","offers","free","asked"]) λ_ _ _ _ _ _ us hl=>by obtain⟨_,_,_,_,rfl⟩:=Q9 us hl;rfl
 have m21:=ë X G a21
 have F22:=Ď (st:=top 40) l22 c22 (aC l22)
 have b22:=F22.binds (ps:=["web","offers"])
 have m22:=ë X G a22
 have F23:=Ď (st:=top 42) l23 c23 (aC l23)
 have b23:=F23.binds (ps:=["thing","word","count"])
 have m23:=ë X G a23
 have F24:=Ď (st:=top 44) l24 c24 (aC l24)
 have b24:=F24.binds (ps:=["web","thing"])
 have m24:=ë X G a24
 have F25:=Ď (st:=top 45) l25 c25 (aC l25)
 have b25:=F25.binds (ps:=["web","thing"])
 have m25:=ë X G a25
 have F26:=Ď (st:=top 46) l26 c26 (aC l26)
 have b26:=F26.binds (ps:=["offer","rows"])
 have m26:=ë X G a26
 have F27:=Ď (st:=top 47) l27 c27 (aC l27)
 have b27:=F27.binds (ps:=["made","offers","free","asked","rows"]) λ_ _ _ _ _ _ us hl=>by obtain⟨_,_,_,_,_,rfl⟩:=Q8 us hl;rfl
 have m27:=ë X G a27
 have F28:=Ď (st:=top 48) l28 c28 (aC l28)
 have b28:=F28.binds (ps:=["made","offers","free","thing"]) λ_ _ _ _ _ _ us hl=>by obtain⟨_,_,_,_,rfl⟩:=Q9 us hl;rfl
 have m28:=ë X G a28
 have F29:=Ď (st:=top 49) l29 c29 (aC l29)
 have b29:=F29.binds (ps:=["made","offers","free","asked","tree"]) λ_ _ _ _ _ _ us hl=>by obtain⟨_,_,_,_,_,rfl⟩:=Q8 us hl;rfl
 have m29:=ë X G a29
 have F30:=Ď (st:=top 50) l30 c30 (aC l30)
 have b30:=F30.binds (ps:=["made","offers","free","asked","tree"]) λ_ _ _ _ _ _ us hl=>by obtain⟨_,_,_,_,_,rfl⟩:=Q8 us hl;rfl
 have m30:=ë X G a30
 have F31:=Ď (st:=top 51) l31 c31 (aC l31)
 have b31:=F31.binds (ps:=["web","offers","number","tree"]) λ_ _ _ _ _ _ us hl=>by obtain⟨_,_,_,_,rfl⟩:=Q9 us hl;rfl
 have m31:=ë X G a31
 have F32:=Ď (st:=top 53) l32 c32 (aC l32)
 have b32:=F32.binds (ps:=["_law_script","_law_k"])
 have m32:=ë X G a32
 have F33:=Ď (st:=top 54) l33 c33 (aC l33)
 have b33:=F33.binds (ps:=["_law_pen_here","_law_many"])
 have m33:=ë X G a33
 have F34:=Ď (st:=top 55) l34 c34 (aC l34)
 have b34:=F34.binds (ps:=["_law_pen_here","_law_n","_law_pick"])
 have m34:=ë X G a34
 have F35:=Ď (st:=top 56) l35 c35 (aC l35)
 have b35:=F35.binds (ps:=["_law_pen_here","_law_n"])
 have m35:=ë X G a35
 have F36:=Ď (st:=top 57) l36 c36 (aC l36)
 have b36:=F36.binds (ps:=["_law_pen_here","_law_most"])
 have m36:=ë X G a36
 have F37:=Ď (st:=top 58) l37 c37 (aC l37)
 have b37:=F37.binds (ps:=["_law_e"])
 have m37:=ë X G a37
 have F38:=Ď (st:=top 59) l38 c38 (aC l38)
 have b38:=F38.binds (ps:=["_law_pen_here"])
 have m38:=ë X G a38
 have F39:=Ď (st:=top 60) l39 c39 (aC l39)
 have b39:=F39.binds (ps:=["_law_pen_here","_law_n","_law_most"])
 have m39:=ë X G a39
 have F40:=Ď (st:=top 61) l40 c40 (aC l40)
 have b40:=F40.binds (ps:=["_law_pen_here","_law_n","_law_offers_here"])
 have m40:=ë X G a40
 have F41:=Ď (st:=top 62) l41 c41 (aC l41)
 have b41:=F41.binds (ps:=["_law_web_here","_law_offers_here","_law_extra"])
 have m41:=ë X G a41
 have F42:=Ď (st:=top 63) l42 c42 (aC l42)
 have B:ĝ mg:=⟨Č X G z0,Č X G z1,Č X G z2,Č X G z3,Č X G z4,Č X G z5,Č X G z6,Č X G z7,Č X G z8,Č X G z9,Č X G z10,Č X G z11⟩
 have N12:=Č X G z12
 have N13:=Č X G z13
 have N14:=Č X G z14
 have N15:=Č X G z15
 have N16:=Č X G z16
 have N17:=Č X G z17
 have HC:∀h:Heap,K.In h->W.CodeHd h c PT:=λh X2=>W.codeHd_of_K X2 hcI
 refine⟨K,c,PT,W.fnOf "law" "law" (fu (top 63)) (bO (top 63)) (aj (top 63)) .none kV42 dc42 pm42 an42 cd42 ct42,Gj K (aY PT),X,hP0,W.codeHd_of_K X hcI,hT,λs v=>.of_eq rfl,λbase _ _ hBm SY=>?_,λH a ns hS hT=>⟨a,ns,rfl,hS,⟨_,hT,.inl rfl⟩,λ_=>rfl⟩⟩
 have nsN:=Ck lkNN okN
 have nsF:=Ck lkNF okF
 have tlN:W.tailIn K [.type "ValueError",.type "Exception",.type "BaseException",.type "object"] (.ref CF::[.type "ValueError",.type "Exception",.type "BaseException",.type "object"])=true:=Gd lkF nsF ff1 Dk
 have XC:ExcCls K CN "ValueError.__new__" [.type "ValueError",.type "Exception",.type "BaseException",.type "object"]:=⟨⟨nmN,qN,NN,bsN,_,hdN,snN,subN,abN,colN,ddN,q0,q1,q2,q3,q5,lkN,tlN,nsN,niN,rfl⟩⟩
 have XKN:ExcK K CN:=⟨⟨nmN,qN,NN,CF,bsN,[.type "ValueError",.type "Exception",.type "BaseException",.type "object"],hdN,snN,subN,abN,colN,ddN,ddF,q0,q1,q2,q3,q5,"ValueError.__new__","ValueError",.type "type",cdF,slF,lkN,lkF,nsF,λn hn=>by
  simp only[quietNames,â,ń,or_false] at hn
  rcases hn with rfl|rfl|rfl|rfl
  ·exact ff1
  ·exact ff2
  ·exact ff3
  ·exact ff4,PySem.F.attrBase_ValueError⟩,ga,hook,clsN,mroN⟩
 have R:Dl.RefK K mg "NoOffers" ["NoBack","NoOrder","NoPlace","NoRow","NoSet","NoText","NoTie","NoWeb","TooMany"] CN CF ec1 ec2 ec3 ec4 ec5 ec6 ec7 ec8 ec9:=⟨ë X G xF,ë X G xN,ë X G x1,ë X G x2,ë X G x3,ë X G x4,ë X G x5,ë X G x6,ë X G x7,ë X G x8,ë X G x9,N17,Ez lkF mFB mNF,XKN,(λc hc=>by
  simp only[â,ń,or_false] at hc
  rcases hc with rfl|rfl|rfl|rfl|rfl|rfl|rfl|rfl|rfl
  ·exact bY lkc1 mc1 mNN
  ·exact bY lkc2 mc2 mNN
  ·exact bY lkc3 mc3 mNN
  ·exact bY lkc4 mc4 mNN
  ·exact bY lkc5 mc5 mNN
  ·exact bY lkc6 mc6 mNN
  ·exact bY lkc7 mc7 mNN
  ·exact bY lkc8 mc8 mNN
  ·exact bY lkc9 mc9 mNN
  ),xM,xK (by decide +kernel) mNV⟩
 have C0:=λbase=>aG F0 b0 m0 (Hu (P:=l.prog) (w:=w) (base:=base) F0 B)
 have C1:=λbase=>aG F1 b1 m1 (Hx (P:=l.prog) (w:=w) (base:=base) F1 (C0 base))
 have C2:=λbase=>aG F2 b2 m2 (DY (P:=l.prog) (w:=w) (base:=base) F2 B (C1 base))
 have C3:=λbase=>aG F3 b3 m3 (uR (P:=l.prog) (w:=w) (base:=base) F3 B)
 have C4:=λbase=>aG F4 b4 m4 (Le (P:=l.prog) (w:=w) (base:=base) F4 B N12)
 have C5:=λbase=>aG F5 b5 m5 (DQ (P:=l.prog) (w:=w) (base:=base) F5 B (C1 base) (C4 base))
 have C6:=λbase=>aG F6 b6 m6 (DW (P:=l.prog) (w:=w) (base:=base) F6 B (C5 base))
 have C7:=λbase=>aG F7 b7 m7 (wW (P:=l.prog) (w:=w) (base:=base) F7 (C6 base))
 have C8:=λbase=>aG F8 b8 m8 (Uc (P:=l.prog) (w:=w) (base:=base) F8 B)
 have C9:=λbase=>aG F9 b9 m9 (DX (P:=l.prog) (w:=w) (base:=base) F9 )
 have C10:=λbase=>aG F10 b10 m10 (QG (P:=l.prog) (w:=w) (base:=base) F10 (C7 base) (C9 base))
 have C11:=λbase=>aG F11 b11 m11 (Ld (P:=l.prog) (w:=w) (base:=base) F11 B (C10 base))
 have C12:=λbase=>aG F12 b12 m12 (Lb (P:=l.prog) (w:=w) (base:=base) F12 B (C11 base))
 have C13:=λbase=>aG F13 b13 m13 (Hw (P:=l.prog) (w:=w) (base:=base) F13 (C8 base) (C12 base))
 have C14:=λbase=>aG F14 b14 m14 (DP (P:=l.prog) (w:=w) (base:=base) F14 (C13 base))
 have C15:=λbase=>aG F15 b15 m15 (wU (P:=l.prog) (w:=w) (base:=base) F15 B (C0 base) (C2 base))
 have C16:=λbase=>pG F16 b16 m16 (oJ (P:=l.prog) (w:=w) (base:=base) F16 B (ë X G g_MOST_OFFERS) R.mN XC PySem.F.excBase_ValueError (C15 base))
 have C17:=λbase=>aG F17 b17 m17 (qD (P:=l.prog) (w:=w) (base:=base) F17 B (C3 base))
 have C18:=λbase=>aG F18 b18 m18 (zH (P:=l.prog) (w:=w) (base:=base) F18 B N13)
 have C19:=λbase=>pG F19 b19 m19 (Lj (P:=l.prog) (w:=w) (base:=base) F19 B (C16 base) (C14 base) (C17 base) (C5 base))
 have C20:=aG F20 b20 m20 (Ud (P:=l.prog) (w:=w) (base:=base) l20 c20 HC hBm B C18 (C8 base) (C14 base) (C17 base))
 have C21:=λbase=>aG F21 b21 m21 (QK (P:=l.prog) (w:=w) (base:=base) F21 B b21 m21 (C13 base) (C9 base) (C11 base) (C17 base))
 have C22:=pG F22 b22 m22 (Lg (P:=l.prog) (w:=w) (base:=base) F22 B (C16 base) C20 (C13 base) (C17 base) (C18 base) (C21 base))
 have C23:=λbase=>aG F23 b23 m23 (wV (P:=l.prog) (w:=w) (base:=base) F23 B N14)
 have C24:=λbase=>aG F24 b24 m24 (Ea (P:=l.prog) (w:=w) (base:=base) F24 B (C0 base) (C6 base))
 have C25:=λbase=>aG F25 b25 m25 (wY (P:=l.prog) (w:=w) (base:=base) F25 B (C24 base))
 have C26:=λbase=>aG F26 b26 m26 (uT (P:=l.prog) (w:=w) (base:=base) F26 B N13 (C9 base))
 have C27:=λbase=>aG F27 b27 m27 (oG (P:=l.prog) (w:=w) (base:=base) F27 B N15 N13 (C25 base) (C26 base) (C12 base))
 have C28:=λbase=>aG F28 b28 m28 (Li (P:=l.prog) (w:=w) (base:=base) F28 B (C11 base) (C17 base) (C6 base))
 have C29:=λbase=>aG F29 b29 m29 (K7 (P:=l.prog) (w:=w) (base:=base) F29 )
 have C30:=λbase=>aG F30 b30 m30 (Ed (P:=l.prog) (w:=w) (base:=base) F30 B b30 m30 F29 b29 m29 (C0 base) (C17 base) (C23 base) (C28 base) (C27 base))
 have C31:=λbase=>pG F31 b31 m31 (K9 (P:=l.prog) (w:=w) (base:=base) F31 B (C16 base) (C30 base))
 have C32:=λbase=>aG F32 b32 m32 (QM (P:=l.prog) (w:=w) (base:=base) F32 B)
 have C33:=λbase=>aG F33 b33 m33 (Lf (P:=l.prog) (w:=w) (base:=base) F33 B)
 have C34:=λbase=>aG F34 b34 m34 (uU (P:=l.prog) (w:=w) (base:=base) F34 B (C33 base))
 have C35:=λbase=>aG F35 b35 m35 (Hv (P:=l.prog) (w:=w) (base:=base) F35 B (C33 base))
 have C36:=λbase=>aG F36 b36 m36 (zE (P:=l.prog) (w:=w) (base:=base) F36 B (C33 base) (C34 base) (C35 base))
 have C37:=λbase=>Np F37 b37 m37 (wQ (P:=l.prog) (w:=w) (base:=base) F37 B R)
 have C38:=λbase=>aG F38 b38 m38 (wR (P:=l.prog) (w:=w) (base:=base) F38 B (C33 base))
 have C39:=λbase=>aG F39 b39 m39 (rM (P:=l.prog) (w:=w) (base:=base) F39 B (C33 base) (C38 base))
 have C40:=λbase=>aG F40 b40 m40 (zG (P:=l.prog) (w:=w) (base:=base) F40 B N14 (C33 base))
 have C41:=aG F41 b41 m41 (QF (P:=l.prog) (w:=w) (base:=base) F41 B R (C19 base) C22 (C31 base) (C37 base))
 exact QS F42 B N16 SY (C32 base) (C36 base) (C39 base) (C40 base) (C33 base) C41
end Nf
namespace Nf
open PySem PySem.W PyProof.Rows
def sZ:List Nat:=[1,2,3,4,5,6,7,8,9,10,11,13,14,15,16,18,20,21,22,23,24,25,26,27,29,30,32,33,34,35,36,37,38,39,40,42,44,45,46,47,48,49,50,51,53,54,55,56,57,58,59,60,61,62,63]
def xu(p:Program)(w:World)(os:OsState):=(Du p 7536 w os).map (λs=>Gs p (view p sZ) (λs=>xlAt (view p sZ) [] s&&recOk [] s) w s.abs)
def goodW(p:Program):=some (true,openGood (view p sZ) [])
def frF(fr:Frag)(k:Nat):=some ((fr.map λp=>some p.2).take k)
def frB(fr:Frag)(k:Nat):=some ((fr.map λp=>some p.2).drop k)
def qU(p:Program)(w:World)(os:OsState)(as:List Addr)(k:Nat):=(Du p 7536 w os).map (λs=>(as.map s.abs.heap.get?).take k)
def yd(p:Program)(w:World)(os:OsState)(as:List Addr)(k:Nat):=(Du p 7536 w os).map (λs=>(as.map s.abs.heap.get?).drop k)
def zR:xu=xu:=rfl
def Ad:goodW=goodW:=rfl
def xT:qU=qU:=rfl
def Aq:yd=yd:=rfl
end Nf
lay_quick Nf.xu Nf.goodW Nf.qU Nf.yd
name_quick lookQ for Nf.xu by Nf.zR
name_quick goodQ for Nf.goodW by Nf.Ad
name_quick frontQ for Nf.qU by Nf.xT
name_quick backQ for Nf.yd by Nf.Aq
set_option maxHeartbeats 0 in
def Nf.LC(w:PySem.World)(os:PySem.OsState):Nf.xu ô w os=Nf.goodW ô:=by
 rw[PySem.W.Fast.lookQ_eq,PySem.W.Fast.goodQ_eq]
 kernel_rfl
def Nf.well:PySem.Challenge.rw_nofall_k40_no_offers.wellSaid=true:=by kernel_rfl
open PySem PySem.W PyProof.Rows
local macro_rules
 |`(tactic| k_qdec)=>`(tactic| fail)
local macro_rules
 |`(tactic| o_head (kmHook $k $a $e $t))=>`(tactic| o_head (kHook (λP=>List.append (List.map (λa=>(a,PySem.W.tabObj #[])) $t) ($k P)) (List.append $t $a) (λ_=>by kernel_rfl)))
local macro_rules
 |`(tactic| o_head (kHook $k $a $e))=>`(tactic| (
  refine holds_open (q:=view ô Nf.sZ) (loose:=[]) (Xt:=λs=>xlAt (view ô Nf.sZ) [] s&&recOk [] s) (XP:=XL (view ô Nf.sZ) []) (Yf:=Hook.obs (kHook $k $a $e)) (Ya:=Hook.val (kHook $k $a $e)) (YP:=Hook.says (kHook $k $a $e)) (N:=7536) ?hl (Hook.of (kHook $k $a $e)) (Hook.keeps (kHook $k $a $e)) (λs e=>xl_of s (Bool.and_eq_true_iff.mp e).1) XL.keeps (by rfl) (by rfl) (by rfl) (λs e=>recFacts_of (Bool.and_eq_true_iff.mp e).2) (by rfl) (by first|assumption|decide +kernel) (by decide +kernel) ⟨rfl,rfl,rfl,rfl,rfl,by decide +kernel⟩ ?hw ?hc))
set_option maxRecDepth 100000 in
set_option maxHeartbeats 0 in
theorem PySem.Challenge.cw_nofall_k40_no_offers_holds : PySem.Challenge.rw_nofall_k40_no_offers.Holds := by
 w_on;refine PySem.W.holds_law Nf.well λsaid=>?_;k_head
 ·refine Nf.Mh 90 (boot_open (by kernel_rfl) rfl (λs=>by kernel_rfl)) Nf.LC (λw os=>?_) (λw os=>?_)
  ·show Nf.qU ô w os _ 90=Nf.frF _ 90
   rw[PySem.W.Fast.frontQ_eq]
   kernel_rfl
  ·show Nf.yd ô w os _ 90=Nf.frB _ 90
   rw[PySem.W.Fast.backQ_eq]
   kernel_rfl
 ·w_witness2
 k_fill
 refine L2.FZ (n:=63) (k:=29) (x:="_law_script") (l:=PySem.Challenge.rw_nofall_k40_no_offers) (by rfl) rfl (by decide) rfl ⟨rfl,by decide,by decide,rfl⟩ (λw h Y=>PySem.W.kIn_of Y) ?F
 case F =>
  intro w mg fa h KX2 G hmg
  obtain⟨KX,hPT⟩:=L2.O7 KX2 (by kernel_rfl)
  refine' Nf.all_mk hPT KX G hmg ?a0 ?l0 ?c0 ?a1 ?l1 ?c1 ?a2 ?l2 ?c2 ?a3 ?l3 ?c3 ?a4 ?l4 ?c4 ?a5 ?l5 ?c5 ?a6 ?l6 ?c6 ?a7 ?l7 ?c7 ?a8 ?l8 ?c8 ?a9 ?l9 ?c9 ?a10 ?l10 ?c10 ?a11 ?l11 ?c11 ?a12 ?l12 ?c12 ?a13 ?l13 ?c13 ?a14 ?l14 ?c14 ?a15 ?l15 ?c15 ?a16 ?l16 ?c16 ?a17 ?l17 ?c17 ?a18 ?l18 ?c18 ?a19 ?l19 ?c19 ?a20 ?l20 ?c20 ?a21 ?l21 ?c21 ?a22 ?l22 ?c22 ?a23 ?l23 ?c23 ?a24 ?l24 ?c24 ?a25 ?l25 ?c25 ?a26 ?l26 ?c26 ?a27 ?l27 ?c27 ?a28 ?l28 ?c28 ?a29 ?l29 ?c29 ?a30 ?l30 ?c30 ?a31 ?l31 ?c31 ?a32 ?l32 ?c32 ?a33 ?l33 ?c33 ?a34 ?l34 ?c34 ?a35 ?l35 ?c35 ?a36 ?l36 ?c36 ?a37 ?l37 ?c37 ?a38 ?l38 ?c38 ?a39 ?l39 ?c39 ?a40 ?l40 ?c40 ?a41 ?l41 ?c41 ?a42 ?l42 ?c42 ?g_MOST_OFFERS ?xF ?xN ?x1 ?x2 ?x3 ?x4 ?x5 ?x6 ?x7 ?x8 ?x9 ?lkN ?lkF ?lkNN ?niN ?lkNF ?ff1 ?ff2 ?ff3 ?ff4 ?ga ?hook ?clsN ?mroN ?mNN ?mNF ?mFB ?mNV ?lkc1 ?mc1 ?lkc2 ?mc2 ?lkc3 ?mc3 ?lkc4 ?mc4 ?lkc5 ?mc5 ?lkc6 ?mc6 ?lkc7 ?mc7 ?lkc8 ?mc8 ?lkc9 ?mc9 ?okN ?okF ?z0 ?z1 ?z2 ?z3 ?z4 ?z5 ?z6 ?z7 ?z8 ?z9 ?z10 ?z11 ?z12 ?z13 ?z14 ?z15 ?z16 ?z17 ?lc ?v11 ?hP0 ?hcI
  any_goals (show _=_;k_is)
  case v11=>exact rfl
  case hP0=>kernel_rfl
  case hcI=>kernel_rfl
  all_goals rfl
end
