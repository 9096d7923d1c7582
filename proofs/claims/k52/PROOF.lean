import PyProof.Rows.All
import Wide.All
import OpenK.AllK
import Wide.FinOn
import Lean
import PyProof.EqAt
import PyProof.EqKinds
import PyProof.TupleCall
import PySem.Challenge.RW_nofall_k52_least_ways_let_by
set_option genSizeOf false
set_option genSizeOfSpec false
set_option Elab.async false
set_option linter.all false
set_option maxRecDepth 100000
open List renaming length_map → Á,mem_cons_of_mem → Ã,mem_cons_self → Æ,getElem?_eq_getElem → Ç,length_append → È,replicate → É,getElem?_eq_some_iff → Ê,size_toArray → Í,mem_of_getElem? → Î,getD_eq_getElem?_getD → Ð,mem_cons → Ñ,mem_singleton → Ô,map_append → Ù,length_singleton → Ü,range → Þ,getElem?_map → ß,map_cons → à,length_cons → ã,mem_append → å,getElem?_append_right → é,mem_map → ê,flatten_cons → ë,mem_append_right → ì,append_nil → ð,sum_cons → ò,map_map → õ,getElem?_append_left → ú,length_drop → Ā,replicate_succ → Ą,mem_filter → ą,lookup_cons → Ċ,map_congr_left → Č,take_length → ē,all_eq_true → ę,length_take → Ģ,getElem_mem → ģ,length_replicate → ĥ,mem_range → Ī,mem_append_left → ī,getElem?_set_self → Į,append_assoc → Ĳ,mem_replicate → Ķ,map → ķ,length_dropLast → ĸ,take_add_one → Ľ,mem_flatten → Ń,countP_append → ń,toArray → ņ,length_range → ō,getElem?_replicate → Ŏ,countP_eq_length_filter → ŏ,mem_filterMap → œ,pairwise_iff_getElem → Ŕ,drop_eq_getElem_cons → ŕ,nodup_cons → ś,getElem?_set_ne → ŝ,getElem?_of_mem → Ş,getElem_of_mem → Ţ,flatMap_append → ţ,countP_cons → ť,take_of_length_le → ū,map_drop → ű,take_append_drop → ų,nodup_append → ŷ,flatMap_cons → Ÿ,countP_congr → Ź
open PySem.PyData renaming int → Â,eqv → í,canLayAll0 → Ĉ,depthAll → Ġ,list → Ŀ,eqvAll → ŭ
open PySem renaming wpAny_bind → Ä,wpAny_pure → Ø,sizeLine_eq → ô,mem_of_lookup → ă,wpAny_holding → Ė,wpAny_truthy_bool → Ĩ,wpAny_loadPart' → İ,wpAny_mono → ň,wpAny_Call_Name_kw → Ŋ,codeAny_builtin → ő,wpAny_updateSeq → Ž,wpAny_passesOwn → ž
open Nat renaming le_refl → Ì,ne_of_lt → â,lt_of_lt_of_le → æ,le_trans → þ,zero_le → ÿ,pow_le_pow_right → Ć,lt_succ_of_lt → ċ,lt_irrefl → č,mul_le_mul → ĳ,le_succ → Ĺ,lt_or_ge → ş,lt_succ_self → Ũ,pow_succ → Ů,two_pow_pos → Ű
open PySem.Heap renaming lt_size → Ï,get?_push_of_some → Ó,get?_push_size → ä,size_update → Ę,get?_push_ne → ě,get?_update_other → ļ,size_push → Ť,get?_update_self → Ų
open Bool renaming false_ne_true → Ò,and_eq_true → Û,eq_iff_iff → ġ,false_eq_true → Ĭ
open PySem.W renaming Frag → Ú,mg_of → û,mg_none_of → ħ,boot_heap → Š,kla_obj → ź
open PySem.Obj renaming mapSeq → Ý
open Option.some renaming inj → á
open PySem.Str renaming ofString → ç
open PySem.PassesOwn renaming never → î
open Int renaming toNat_natCast → ï,le_refl → ā
open PySem.Challenge renaming pw_nofall_k52_least_ways_let_by → ó
open PySem.F renaming plainAttrs_list → ù,type_list_extend → ŗ,type_list_append → Ř,slot_list_extend → ř,slot_list_append → Ś,plain_max_loop → Ū
open PySem.NameKind renaming free → ü,cell → Đ
open Or renaming inl → ć
open Classical renaming byContradiction → ĉ
open PySem.Value renaming type → ĕ,none → ė,ref → ŋ,int → Ō
open Ne renaming symm → Ĥ
open ForInStep renaming yield → Ħ
open False renaming elim → ĵ
open Array renaming length_toList → ľ
open PySem.Builtin.SmallTypes renaming ownedTupleIsFree → ł,nextOf → Ŧ
open PySem.Around renaming under_plainId → Ņ
open PyProof.Rows renaming callWith_type1 → Ň
open PySem.Builtin.List renaming listExtendWith → ŧ,listTooLong → Ż
open PySem.Builtin.Slice renaming slicePlaces → ů
open PySem.Builtin.Tuple renaming tupleExact → Ŷ
noncomputable section
namespace L2
open PySem PySem.Spec PyProof.Rows
def zK{n:Nat}(h:Nat.ble n 1000=true:=by rfl):n<=1000:=Nat.le_of_ble_eq_true h
abbrev Key:=Sum Int Str
def Oq:Key->Value->Bool
 |.inl k,v=>Value.isInt k v
 |.inr x,v=>Value.isStrOf x v
def Wa(w:World):Key->Int
 |.inl k=>hashInt k
 |.inr x=>hashStr w x
def bG:∀{k:Key}{v:Value},Oq k v=true->(∃i t,k=Sum.inl i/\v=Ō i t)\/(∃x t,k=Sum.inr x/\v=Value.str x t)
 |.inl i,v,h=>by
  obtain⟨t,e⟩:=Value.isInt_shape (k:=i) (v:=v) h
  exact .inl ⟨i,t,rfl,e⟩
 |.inr x,v,h=>by
  obtain⟨t,e⟩:=Value.isStrOf_shape (x:=x) (v:=v) h
  exact .inr ⟨x,t,rfl,e⟩
def Ri(a b:Int):decide ((Sum.inl a:Key)=Sum.inl b)=(a == b):=by
 by_cases e:a=b
 ·subst e;simp
 ·have h:¬(Sum.inl a:Key)=Sum.inl b:=λq=>e (Sum.inl.inj q)
  rw[decide_eq_false h]
  exact(beq_eq_false_iff_ne.mpr e).symm
def Rf(a b:Str):decide ((Sum.inr a:Key)=Sum.inr b)=decide (a=b):=by
 by_cases e:a=b
 ·subst e;simp
 ·have h:¬(Sum.inr a:Key)=Sum.inr b:=λq=>e (Sum.inr.inj q)
  rw[decide_eq_false h,decide_eq_false e]
def Rh(a:Int)(b:Str):decide ((Sum.inl a:Key)=Sum.inr b)=false:=decide_eq_false (λq=>nomatch q)
def Rg(a:Str)(b:Int):decide ((Sum.inr a:Key)=Sum.inl b)=false:=decide_eq_false (λq=>nomatch q)
def Df(prog:Program)(w:World):PySem.KeyKind prog w Key where
 is:=Oq
 hash:=Wa w
 inj:=λv a b ha hb=>by
  rcases bG ha with ⟨i,t,rfl,rfl⟩|⟨x,t,rfl,rfl⟩
  ·rcases bG hb with ⟨j,u,rfl,e⟩|⟨y,u,rfl,e⟩
   ·injection e with e1 _;rw[e1]
   ·exact nomatch e
  ·rcases bG hb with ⟨j,u,rfl,e⟩|⟨y,u,rfl,e⟩
   ·exact nomatch e
   ·injection e with e1 _;rw[e1]
 byValue:=λk v h=>by
  rcases bG h with ⟨i,t,rfl,rfl⟩|⟨x,t,rfl,rfl⟩ <;> rfl
 pyHash:=λhv h=>by
  rcases bG hv with ⟨i,t,rfl,rfl⟩|⟨x,t,rfl,rfl⟩
  ·exact wpAny_pyHash_int h
  ·exact wpAny_pyHash_str h
 eqBool:=λhu hv h=>by
  rcases bG hu with ⟨i,t,rfl,rfl⟩|⟨x,t,rfl,rfl⟩
  ·rcases bG hv with ⟨j,u,rfl,rfl⟩|⟨y,u,rfl,rfl⟩
   ·rw[Ri] at h;exact wpAny_eqBool_int h
   ·rw[Rh] at h;exact SeqAt.EqAt.int_str i t y u _ _ _ _ h
  ·rcases bG hv with ⟨j,u,rfl,rfl⟩|⟨y,u,rfl,rfl⟩
   ·rw[Rg] at h;exact SeqAt.EqAt.str_int x t j u _ _ _ _ h
   ·rw[Rf] at h;exact wpAny_eqBool_str h
 «strs»:=λk x t v h=>by
  rcases bG h with ⟨i,u,rfl,e⟩|⟨y,u,rfl,e⟩
  ·exact nomatch e
  ·injection e with e1 _
   subst e1
   cases v <;> rfl
inductive V where
 |non|bl (b:Bool)|int (i:Int)|str (x:Str)|byt (b:Array UInt8)|flt (b:UInt64)|ref (a:Addr)|ty (n:String)
 deriving DecidableEq
def RelV:V->Value->Prop
 |.non,u=>u=ė
 |.bl b,u=>u=Value.bool b
 |.int i,u=>∃t,u=Ō i t
 |.str x,u=>∃t,u=Value.str x t
 |.byt b,u=>∃t,u=Value.bytes b t
 |.flt b,u=>∃t,u=Value.float b t
 |.ref a,u=>u=ŋ a
 |.ty n,u=>u=ĕ n
abbrev Vals:List V->List Value->Prop:=Paired RelV
def Vals.length{xs:List V}{us:List Value}(r:Vals xs us):xs.length=us.length:=Paired.length r
def Vals.get:∀{xs:List V}{us:List Value}{i:Nat}{x:V},Vals xs us->xs[i]?=some x->∃u,us[i]?=some u/\RelV x u
 |_,_,_,_,.nil,e=>by simp at e
 |_,_,0,_,.cons r _,e=>by simp at e;subst e;exact⟨_,rfl,r⟩
 |_,_,i+1,x,.cons _ t,e=>by
  obtain⟨u,h1,h2⟩:=Vals.get (i:=i) (x:=x) t (by simpa using e)
  exact⟨u,by simpa using h1,h2⟩
def Vals.set{x:V}{u:Value}(r:RelV x u):∀{xs:List V}{us:List Value} (i:Nat),Vals xs us->Vals (xs.set i x) (us.set i u)
 |_,_,_,.nil=>.nil
 |_,_,0,.cons _ t=>.cons r t
 |_,_,i+1,.cons q t=>.cons q (Vals.set r i t)
def Vals.append:∀{xs ys:List V}{us ws:List Value},Vals xs us->Vals ys ws->Vals (xs++ys) (us++ws)
 |_,_,_,_,.nil,s=>s
 |_,_,_,_,.cons r t,s=>.cons r (Vals.append t s)
def Vals.take:∀{xs:List V}{us:List Value} (n:Nat),Vals xs us->Vals (xs.take n) (us.take n)
 |_,_,0,_=>.nil
 |_,_,_+1,.nil=>.nil
 |_,_,n+1,.cons r t=>.cons r (Vals.take n t)
def Vals.drop:∀{xs:List V}{us:List Value} (n:Nat),Vals xs us->Vals (xs.drop n) (us.drop n)
 |_,_,0,r=>r
 |_,_,_+1,.nil=>.nil
 |_,_,n+1,.cons _ t=>Vals.drop n t
def R6:Option V->Option Value->Prop
 |some v,some u=>RelV v u
 |none,none=>True
 |_,_=>False
def KV{κ:Type}:List (κ×V)->List (κ×Value)->Prop:=Paired λ(p:κ×V) (q:κ×Value)=>p.1=q.1/\RelV p.2 q.2
def kV:Key->V
 |.inl i=>.int i
 |.inr x=>.str x
inductive HO where
 |lst (xs:List V)
 |tup (xs:List V)
 |dK (kvs:List (Key×V))|dT (kvs:List (List Key×V))
 |set (S:Int->Bool) (n:Nat)
 |ins (C dx:Addr) (fs:List (Str×V))
 |own (x:Addr)
 |xd (fs:List (Str×V))
 |met (f x:Addr)
 |rng (lo hi:Int)
 |frz (o:Obj) (u:HO)
 |tbl (ps:Array Value)
 |ext (φ:Heap->Prop)
abbrev Hp:=Addr->Option HO
def upd(H:Hp)(a:Addr)(o:HO):Hp:=λb=>if b=a then some o else H b
def au{H:Hp}{a:Addr}{o:HO}:upd H a o a=some o:=by unfold upd;rw[if_pos rfl]
def aq{H:Hp}{a b:Addr}{o:HO}(h:b≠a):upd H a o b=H b:=by unfold upd;rw[if_neg h]
def aB{H:Hp}{a b:Addr}{o:HO}(h:H a=some o)(h':H b=none):a≠b:=by
 intro e;subst e;rw[h] at h';cases h'
section
variable (P:Program) (w:World)
def bY(H:Hp)(h:Heap)(a:Addr):HO->Prop
 |.lst xs=>xs.length<=sizeLine/\∃(its:List Value) (n:Nat),Vals xs its/\h.get? a=some { cls:=.type "list",data:=.seq its.toArray n }
 |.tup xs=>xs.length<=sizeLine/\∃its:List Value,Vals xs its/\IsTup h a its.toArray
 |.dK kvs=>kvs.length<=sizeLine/\(a == sysModules)=false/\∃vs,KV kvs vs/\h.DictOf (Df P w) a vs
 |.dT kvs=>kvs.length<=sizeLine/\(a == sysModules)=false/\∃xs:List (List Key×Addr×Value),
   Paired (λ(p:List Key×V) (q:List Key×Addr×Value)=>p.1=q.1/\H q.2.1=some (.tup (p.1.map kV))/\RelV p.2 q.2.2) kvs xs /\
   ∃o es ep,h.get? a=some o/\o.ExactDict/\o.data=.dict es ep/\es.toList=xs.map (entryOfKey (tupleKind (Df P w)))/\(xs.map (·.1)).Nodup
 |.set S n=>h.SetOf (intKind P w) a S n
 |.ins C dx fs=>H dx=some (.own a)/\fs.length<=1000/\dx≠a/\h.get? a=some (W.instObj C dx) /\
   ∃mA,h.Ns1 dx mA/\(∀f,R6 (fs.lookup f) (mA f))/\PySem.Within mA (fs.map (·.1))
 |.own _=>∃o,h.get? a=some o
 |.xd fs=>∃mA,h.Ns1 a mA/\∀f,R6 (fs.lookup f) (mA f)
 |.rng lo hi=>∃t u v,h.get? a=some { cls:=.type "range",data:=.fields #[.int lo t,.int hi u,.int 1 v] }
 |.frz o u=>h.get? a=some o/\bY H h a u
 |.tbl ps=>h.get? a=some { cls:=.none,data:=.fields ps }
 |.met f x=>h.get? a=some (W.methodObj (.ref f) (.ref x))
 |.ext φ=>φ h/\(∃o,h.get? a=some o)/\∀h1 h2:Heap,φ h1->(∀o,h1.get? a=some o->h2.get? a=some o)->φ h2
def HOk(H:Hp)(h:Heap):Prop:=∀a o,H a=some o->bY P w H h a o
end
section
variable {P:Program}{w:World}{H H':Hp}{h h':Heap}{a:Addr}{o:HO}
def bY.lt(x:bY P w H h a o):a<h.objs.size:=by
 cases o with
 |lst xs=>obtain⟨_,_,_,_,e⟩:=x;exact Ï e
 |tup xs=>obtain⟨_,_,_,p⟩:=x;exact p.lt
 |dK kvs=>obtain⟨_,_,_,_,o,_,_,e,_⟩:=x;exact Ï e
 |dT kvs=>obtain⟨_,_,_,_,o,_,_,e,_⟩:=x;exact Ï e
 |set S n=>obtain⟨o,_,_,_,e,_⟩:=x;exact Ï e
 |ins C dx fs=>obtain⟨_,_,_,e,_⟩:=x;exact Ï e
 |own y=>obtain⟨_,e⟩:=x;exact Ï e
 |xd fs=>obtain⟨_,⟨_,_,_,e,_⟩,_⟩:=x;exact Ï e
 |rng lo hi=>obtain⟨_,_,_,e⟩:=x;exact Ï e
 |frz ob u=>obtain⟨e,_⟩:=x;exact Ï e
 |tbl ps=>exact Ï (show h.get? a=some _ from x)
 |met f y=>exact Ï (show h.get? a=some _ from x)
 |ext φ=>obtain⟨_,⟨_,e⟩,_⟩:=x;exact Ï e
def Paired.Fp{α β:Type}{F G:α->β->Prop}:∀{l₁:List α}{l₂:List β},Paired F l₁ l₂->(∀a b,F a b->G a b)->Paired G l₁ l₂
 |_,_,.nil,_=>.nil
 |_,_,.cons r t,f=>.cons (f _ _ r) (Paired.Fp t f)
def bY.stay(x:bY P w H h a o)(k:∀b u,(b=a\/H b=some (.own a))->h.get? b=some u->h'.get? b=some u)(ho:∀b,H b=some (.own a)->H' b=some (.own a))(ht:∀b xs,H b=some (.tup xs)->H' b=some (.tup xs)):bY P w H' h' a o:=by
 induction o with
 |lst xs=>obtain⟨z,its,n,r,e⟩:=x;exact⟨z,its,n,r,k _ _ (.inl rfl) e⟩
 |tup xs=>obtain⟨z,its,r,ob,e,c⟩:=x;exact⟨z,its,r,ob,k _ _ (.inl rfl) e,c⟩
 |dK kvs=>obtain⟨z,y,vs,r,ob,es,ep,e,c⟩:=x;exact⟨z,y,vs,r,ob,es,ep,k _ _ (.inl rfl) e,c⟩
 |dT kvs =>
  obtain⟨z,y,xs,r,ob,es,ep,e,c⟩:=x
  exact⟨z,y,xs,Paired.Fp r λp q z=>⟨z.1,ht _ _ z.2.1,z.2.2⟩,ob,es,ep,k _ _ (.inl rfl) e,c⟩
 |set S n=>obtain⟨ob,es,ep,t,e,c⟩:=x;exact⟨ob,es,ep,t,k _ _ (.inl rfl) e,c⟩
 |ins C dx fs =>
  obtain⟨d,z,ne,e,mA,⟨od,es,ep,e2,c⟩,r⟩:=x
  exact⟨ho _ d,z,ne,k _ _ (.inl rfl) e,mA,⟨od,es,ep,k _ _ (.inr d) e2,c⟩,r⟩
 |own y=>obtain⟨ob,e⟩:=x;exact⟨ob,k _ _ (.inl rfl) e⟩
 |xd fs=>obtain⟨mA,⟨od,es,ep,e,c⟩,r⟩:=x;exact⟨mA,⟨od,es,ep,k _ _ (.inl rfl) e,c⟩,r⟩
 |rng lo hi=>obtain⟨t,u,v,e⟩:=x;exact⟨t,u,v,k _ _ (.inl rfl) e⟩
 |frz ob u ih=>obtain⟨e,q⟩:=x;exact⟨k _ _ (.inl rfl) e,ih q⟩
 |tbl ps =>
  have e:h.get? a=some { cls:=.none,data:=.fields ps }:=x
  show h'.get? a=some { cls:=.none,data:=.fields ps }
  exact k a _ (.inl rfl) e
 |met f y =>
  have e:h.get? a=some (W.methodObj (.ref f) (.ref y)):=x
  show h'.get? a=some (W.methodObj (.ref f) (.ref y))
  exact k a _ (.inl rfl) e
 |ext φ=>obtain⟨p,⟨o,e⟩,st⟩:=x;exact⟨st _ _ p λo q=>k _ _ (.inl rfl) q,⟨o,k _ _ (.inl rfl) e⟩,st⟩
def HOk.lt(x:HOk P w H h)(e:H a=some o):a<h.objs.size:=(x a o e).lt
def HOk.fresh(x:HOk P w H h)(e:h.objs.size<=a):H a=none:=by
 cases q:H a with
 |none=>rfl
 |some u=>exact absurd (æ (x.lt q) e) (č _)
def HOk.kept(x:HOk P w H h)(k:∀b u,h.get? b=some u->h'.get? b=some u):HOk P w H h':=λa o e =>
 (x a o e).stay (λb u _ q=>k b u q) (λ_ q=>q) λ_ _ q=>q
def HOk.laid(x:HOk P w H h)(k:∀b u,h.get? b=some u->h'.get? b=some u)(hp:h.objs.size<=a)(new:bY P w (upd H a o) h' a o):HOk P w (upd H a o) h':=λb u e=>by
 have hn:=x.fresh hp
 by_cases hb:b=a
 ·subst hb;rw[au] at e;cases e;exact new
 ·rw[aq hb] at e
  exact(x b u e).stay (λc v _ q=>k c v q) (λc q=>by rw[aq (aB q hn)];exact q) λc xs q=>by rw[aq (aB q hn)];exact q
end
def Rd(H:Hp)(a:Addr)(u:HO):Prop:=H a=some u\/∃o,H a=some (.frz o u)
def Rd.ok{P:Program}{w:World}{H:Hp}{h:Heap}{a:Addr}{u:HO}(r:Rd H a u)(x:HOk P w H h):bY P w H h a u:=by
 rcases r with r|⟨o,r⟩
 ·exact x a u r
 ·obtain⟨_,q⟩:=x a _ r
  exact q
def Mut:Option HO->Prop
 |some (.lst _)=>True
 |some (.dK _)=>True
 |some (.dT _)=>True
 |some (.set _ _)=>True
 |some (.ins _ _ _)=>True
 |some (.ext _)=>True
 |_=>False
section
variable {P:Program}{w:World}{H:Hp}{h h':Heap}{x e:Addr}{o':HO}
def HOk.write(ok:HOk P w H h)(mu:Mut (H x))(he:e=x\/H e=some (.own x))(k:∀b u,b≠e->h.get? b=some u->h'.get? b=some u)(heo:∃u,h'.get? e=some u)(new:bY P w (upd H x o') h' x o'):HOk P w (upd H x o') h':=λb u q=>by
 have nown:∀c y,H c=some (.own y)->c≠x:=λc y r z=>by subst z;rw[r] at mu;exact mu
 have ntup:∀c xs,H c=some (.tup xs)->c≠x:=λc xs r z=>by subst z;rw[r] at mu;exact mu
 by_cases hb:b=x
 ·subst hb;rw[au] at q;cases q;exact new
 ·rw[aq hb] at q
  by_cases hbe:b=e
  ·have q':H b=some (.own x):=by
    rcases he with z|z
    ·exact absurd (hbe.trans z) hb
    ·rw[hbe];exact z
   rw[q] at q';cases q'
   obtain⟨v,hv⟩:=heo
   exact⟨v,by rw[hbe];exact hv⟩
  ·refine(ok b u q).stay (λc v hc r=>k c v ?_ r) (λc r=>by rw[aq (nown c b r)];exact r) λc xs r=>by rw[aq (ntup c xs r)];exact r
   rcases hc with rfl|hc
   ·exact hbe
   ·rintro rfl
    rcases he with z|z
    ·exact nown c b hc z
    ·rw[hc] at z;cases z;exact hb rfl
end
structure Un(fs ex:List Addr)(H H':Hp)(h h':Heap):Prop where
 keep:∀b o,h.get? b=some o->H b=none->b∉fs->b∉ex->h'.get? b=some o
 slot:∀b o,h.get? b=some o->H b=none->b∈fs->b∉ex->∃sl,h'.get? b=some { o with slots:=sl }
 free:∀b o,h.get? b=some o->H b=none->b∉ex->H' b=none
 there:∀b o,h.get? b=some o->b∉ex->∃o',h'.get? b=some o'
 tups:∀b xs,H b=some (.tup xs)->H' b=some (.tup xs)
 frzs:∀b o u,H b=some (.frz o u)->H' b=some (.frz o u)
 tbls:∀b ps,H b=some (.tbl ps)->∃more,H' b=some (.tbl (ps++more))
section
variable {fs fs' ex ex':List Addr}{H H1 H2:Hp}{h h1 h2 h':Heap}{a x e:Addr}{o:HO}
def Un.any(u:Un fs ex H H1 h h1){b:Addr}{ob:Obj}(q:h.get? b=some ob)(n:H b=none)(hx:b∉ex):∃sl,h1.get? b=some { ob with slots:=sl }:=by
 by_cases hb:b∈fs
 ·exact u.slot b ob q n hb hx
 ·exact⟨ob.slots,u.keep b ob q n hb hx⟩
def Un.kept(k:∀b u,h.get? b=some u->h'.get? b=some u):Un fs ex H H h h' :=
 ⟨λb ob q _ _ _=>k b ob q,λb ob q _ _ _=>⟨ob.slots,k b ob q⟩,λ_ _ _ n _=>n,λb ob q _=>⟨ob,k b ob q⟩,λ_ _ q=>q,λ_ _ _ q=>q,λ_ ps q=>⟨#[],by rw[q];simp⟩⟩
def Un.refl:Un fs ex H H h h:=Un.kept λ_ _ q=>q
def Un.laid(k:∀b u,h.get? b=some u->h'.get? b=some u)(hp:h.objs.size<=a)(hn:H a=none):Un fs ex H (upd H a o) h h' where
 keep:=λb u q _ _ _=>k b u q
 slot:=λb u q _ _ _=>⟨u.slots,k b u q⟩
 free:=λb u q n _=>by rw[aq (â (æ (Ï q) hp))];exact n
 there:=λb u q _=>⟨u,k b u q⟩
 tups:=λb xs q=>by rw[aq (aB q hn)];exact q
 frzs:=λb u xs q=>by rw[aq (aB q hn)];exact q
 tbls:=λb ps q=>⟨#[],by rw[aq (aB q hn),q];simp⟩
def Un.write(mu:Mut (H x))(he:e=x\/H e=some (.own x))(k:∀b u,b≠e->h.get? b=some u->h'.get? b=some u)(heo:∃u,h'.get? e=some u):Un fs ex H (upd H x o) h h':=by
 have hx:∀b,H b=none->b≠x:=λb n z=>by subst z;rw[n] at mu;exact mu
 have hb:∀b,H b=none->b≠e:=λb n z=>by
  subst z
  rcases he with r|r
  ·exact hx b n r
  ·rw[n] at r;cases r
 have hm:∀b u,H b=some u->¬Mut (some u)->b≠x:=λb u q nm z=>by subst z;rw[q] at mu;exact nm mu
 refine⟨λb u q n _ _=>k b u (hb b n) q,λb u q n _ _=>⟨u.slots,k b u (hb b n) q⟩,λb u q n _=>by rw[aq (hx b n)];exact n,λb u q _=>?_,
  λb xs q=>by rw[aq (hm b _ q λz=>z)];exact q,λb u xs q=>by rw[aq (hm b _ q λz=>z)];exact q,λb ps q=>⟨#[],by rw[aq (hm b _ q λz=>z),q];simp⟩⟩
 by_cases hbe:b=e
 ·subst hbe;exact heo
 ·exact⟨u,k b u hbe q⟩
end
def trk(h:Heap)(H:Hp):List Addr:=(Þ h.objs.size).filter λa=>(H a).isSome
def wR(h:Heap)(H:Hp):Heap:=W.hideAll h (trk h H)
def FN(h:Heap)(H:Hp):(wR h H).objs.size=h.objs.size:=W.hideAll_size _ _
def sG{h:Heap}{H:Hp}{b:Addr}{o:Obj}(e:h.get? b=some o)(n:H b=none):(wR h H).get? b=some o :=
 W.hideAll_get _ e λhm=>by
  have q:(H b).isSome=true:=(ą.mp hm).2
  rw[n] at q;simp at q
def Mh{h:Heap}{H:Hp}{b:Addr}{o:Obj}(e:(wR h H).get? b=some o):h.get? b=some o/\H b=none:=by
 have e':h.get? b=some o:=W.of_hideAll (trk h H) e
 refine⟨e',?_⟩
 cases q:H b with
 |none=>rfl
 |some x =>
  have hm:b∈trk h H:=ą.mpr ⟨Ī.mpr (Ï e'),by simp[q]⟩
  have z:(wR h H).get? b=none:=W.hideAll_none (trk h H) hm
  rw[z] at e;cases e
def xQ(g h:Heap)(L:Addr):List (Addr×Obj):=(Þ h.objs.size).filterMap λa=>if a=L\/(g.get? a).isSome=true then none else (h.get? a).map λo=>(a,o)
def rO{g h:Heap}{L:Addr}{p:Addr×Obj}(hp:p∈xQ g h L):p.1≠L/\g.get? p.1=none/\h.get? p.1=some p.2:=by
 obtain⟨b,_,e⟩:=œ.mp hp
 split at e
 ·cases e
 ·rename_i hn
  cases q:h.get? b with
  |none=>rw[q] at e;simp at e
  |some u =>
   rw[q] at e
   simp only[Option.map_some,Option.some.injEq] at e
   subst e
   refine⟨λz=>hn (.inl z),?_,q⟩
   show g.get? b=none
   cases r:g.get? b with
   |none=>rfl
   |some v=>exact(hn (.inr (by simp[r]))).elim
def rest(g h:Heap)(L d:Addr):List (Addr×Obj):=(xQ g h L).filter λp=>decide (p.1≠d)
def Jo{g h:Heap}{L:Addr}:News g L h (xQ g h L):=λp hp=>let ⟨a,b,c⟩:=rO hp;⟨c,a,b⟩
structure Mod(K:Ú)(mg:Str->Option Value)(base:Heap):Prop where
 kin:K.In base
 glob:base.Ns mainGlobals mg
 blt:∃mb,base.Ns builtinsNs mb/\∀x:Str,x≠"__name__"->mb x=bootBuiltins x
 nolimit:base.NoLimit
structure Cx where
 prog:Program
 w:World
 K:Ú
 mg:Str->Option Value
 base:Heap
 A:Around
 N:List Str
 s₀:Shared
 H₀:Hp
 env:Env
 outer:List Env
 stack:List Env
 ex:List Addr
 fn:Str->Bool
 calm:Bool
 pn:List (Addr×Obj)
 xe:Value->Shared->Prop
 sf:List (Addr×Obj×HO):=[]
def frs(l:List Env):List Addr:=l.filterMap (·.frame)
abbrev Cx.fs(X:Cx):List Addr:=frs X.outer
def Vis(sc:Scope)(x:Str):Prop:=sc.names.lookup x=some .local\/sc.names.lookup x=some .cell\/sc.names.lookup x=some .free
def Loc(sc:Scope)(x:Str):Prop:=sc.names.lookup x=some .local\/sc.names.lookup x=some .cell
def Look(env:Env)(h:Heap)(m:Str->Option Value)(x:Str)(u:Value):Prop :=
 (env.kindOf x=some .local/\m x=some u)\/((env.kindOf x=some .cell\/env.kindOf x=some .free)/\∃c,env.cells.lookup x=some c/\h.IsCell c (some u))
abbrev zS(X:Cx)(e:Expr)(es:List Expr):Prop:=starEach (e::es) X.env=(false,eval e X.env)::starEach es X.env
abbrev zP(X:Cx)(p:Pos)(es:List Expr):Prop:=(backTo p (starEach es X.env)).any (·.1)=false
abbrev zB(x:Str):Prop:=(x == ("__debug__":Str))=false
abbrev zF(X:Cx)(e:Expr):Prop:=∀x,foldedSetIterable e X.env x=pure x
abbrev zL(X:Cx)(x:Str):Prop:=X.fn x=true\/X.env.scope.names.lookup x=some .local
abbrev zW(X:Cx)(p:Pos)(es:List Expr):Prop:=((backTo p (starEach es X.env)).all (λx=>!x.1)&&(backToKw p (keywordEach [] X.env)).all (λx=>x.1.isSome)&&decide (es.length+([]:List Keyword).length+(if ([]:List Keyword).isEmpty then 0 else 1)<30))=true
def zQ{sc:Scope}{x:Str}(h:(sc.names.lookup x == some .local||sc.names.lookup x == some .cell)=true:=by rfl):Loc sc x:=(Bool.or_eq_true_iff.mp h).imp (λz=>eq_of_beq z) λz=>eq_of_beq z
structure Cx.Ok(X:Cx):Prop where
 mod:Mod X.K X.mg X.base
 kind:X.env.scope.kind=.function
 glob:X.env.globals=mainGlobals
 blt:X.env.builtins=builtinsNs
 above:X.s₀.heap.objs.size<=X.env.locals
 inj:∀x y c,X.env.cells.lookup x=some c->X.env.cells.lookup y=some c->x=y
 has:∀x,(X.env.kindOf x=some .cell\/X.env.kindOf x=some .free)->∃c,X.env.cells.lookup x=some c
 cab:∀x c,X.fn x=true->X.env.cells.lookup x=some c->X.s₀.heap.objs.size<=c
 hd:X.calm=true->X.A.handled=none
 frames:X.A.frames=some X.stack
 stk:X.stack=X.outer\/(X.stack=X.env::X.outer/\X.env.frame=some X.env.locals)
 exf:∀b∈X.ex,b≠X.env.locals/\∀x c,X.env.cells.lookup x=some c->c≠b
 bs:∀b o,X.base.get? b=some o->X.s₀.heap.get? b=some o/\X.H₀ b=none
 bsz:X.base.objs.size<=X.s₀.heap.objs.size
 noex:∀b o,X.base.get? b=some o->b∉X.ex
 exfs:∀b∈X.ex,b∉X.fs
 kZ:X.s₀.heap.FunFrames X.base X.outer
 frf:∀b∈X.fs,X.H₀ b=none
 sof:∀q∈X.sf,X.A.handled=some (.ref q.1)/\X.H₀ q.1=some (.frz q.2.1 q.2.2)/\∃ws,q.2.1.data=.fields ws/\ws[2]?=some .none
structure Inv(X:Cx)(pins:List (Addr×Obj))(σ:List (Option V))(H:Hp)(s:Shared):Prop where
 ok:X.Ok
 os:s.os=X.s₀.os
 bare:AllBare s.gens
 base:Un X.fs X.ex X.H₀ H X.s₀.heap s.heap
 loc:∃m,s.heap.Ns X.env.locals m/\∀(i:Nat) (x:Str) (v:V),X.N[i]?=some x->σ[i]?=some (some v)->Vis X.env.scope x->∃u,RelV v u/\Look X.env s.heap m x u
 cell:∀x c,X.env.cells.lookup x=some c->∃v,s.heap.IsCell c v
 free:H X.env.locals=none
 freeC:∀x c,X.env.cells.lookup x=some c->H c=none
 pin:∀p∈X.pn++pins,s.heap.get? p.1=some p.2/\H p.1=none/\p.1≠X.env.locals/\p.1∉X.fs/\∀v,p.2.data≠.cell v
 hok:HOk X.prog X.w H s.heap
 len:σ.length=X.N.length
section
variable {X:Cx}{pins:List (Addr×Obj)}{σ:List (Option V)}{H H':Hp}{s:Shared}{h':Heap}
def Cx.Ok.V3(ok:X.Ok){b:Addr}{o:Obj}(e:X.base.get? b=some o):b∉X.fs:=λhb=>by
 have:=(ok.kZ.mem hb).1
 rw[e] at this;cases this
def Inv.bs(I:Inv X pins σ H s):∀b o,X.base.get? b=some o->s.heap.get? b=some o/\H b=none:=λb o e =>
 ⟨I.base.keep b o (I.ok.bs b o e).1 (I.ok.bs b o e).2 (I.ok.V3 e) (I.ok.noex b o e),I.base.free b o (I.ok.bs b o e).1 (I.ok.bs b o e).2 (I.ok.noex b o e)⟩
def Inv.bk(I:Inv X pins σ H s):∀b o,X.base.get? b=some o->s.heap.get? b=some o:=λb o e=>(I.bs b o e).1
def Inv.mod(I:Inv X pins σ H s):Mod X.K X.mg X.base:=I.ok.mod
def Inv.kIn(I:Inv X pins σ H s):X.K.In s.heap:=I.ok.mod.kin.keeps I.bk
def Inv.fr(I:Inv X pins σ H s):∃m,Fr X.base X.env.locals s.heap m :=
 let ⟨m,hn,_⟩:=I.loc
 ⟨m,hn,I.bk,þ I.ok.bsz I.ok.above⟩
def Inv.lt(I:Inv X pins σ H s):X.env.locals<s.heap.objs.size:=let ⟨_,hn,_⟩:=I.loc;hn.lt
def Inv.sz(I:Inv X pins σ H s):X.s₀.heap.objs.size<=s.heap.objs.size:=þ I.ok.above (Nat.le_of_lt I.lt)
def Inv.V2(I:Inv X pins σ H s){a:Addr}(h:s.heap.objs.size<=a):a∉X.fs:=λhb=>by
 obtain⟨_,o,ho,_⟩:=I.ok.kZ.mem hb
 exact absurd (æ (Ï ho) (þ I.sz h)) (č _)
def Inv.cne(I:Inv X pins σ H s):∀x c,X.env.cells.lookup x=some c->c≠X.env.locals:=λx c e z=>by
 obtain⟨v,o,ho,hd⟩:=I.cell x c e
 obtain⟨m,⟨o',es,ep,ho',hd',_⟩,_⟩:=I.loc
 rw[z,ho'] at ho;cases ho;rw[hd'] at hd;cases hd
def Inv.kZ(I:Inv X pins σ H s):s.heap.FunFrames X.base X.outer:=by
 have all:∀(l:List Env),(∀b∈frs l,b∈X.fs)->X.s₀.heap.FunFrames X.base l->s.heap.FunFrames X.base l:=by
  intro l
  induction l with
  |nil=>intro _ _;trivial
  |cons env r ih =>
   intro hs hl
   obtain⟨hk,⟨L,o,hf,hn,ho,hd⟩,hr⟩:=hl
   have hL:L∈X.fs:=hs L (by unfold frs;rw[List.filterMap_cons,hf];exact Æ)
   obtain⟨sl,e⟩:=I.base.slot L o ho (I.ok.frf L hL) hL λz=>I.ok.exfs L z hL
   exact⟨hk,⟨L,_,hf,hn,e,hd⟩,ih (λb hb=>hs b (by unfold frs;rw[List.filterMap_cons,hf];exact Ã _ hb)) hr⟩
 exact all X.outer (λ_ hb=>hb) I.ok.kZ
def Inv.stack(I:Inv X pins σ H s):s.heap.FunFrames X.base X.stack:=by
 rcases I.ok.stk with e|⟨e,hf⟩
 ·rw[e];exact I.kZ
 ·rw[e]
  obtain⟨m,hn,_⟩:=I.loc
  refine .cons (by rw[I.ok.kind];decide) hf hn ?_ I.kZ
  exact Heap.get?_none_of_le (þ I.ok.bsz I.ok.above)
def Inv.qM(I:Inv X pins σ H s):∀b∈frs X.stack,b∈X.env.locals::X.fs:=λb hb=>by
 rcases I.ok.stk with e|⟨e,hf⟩
 ·rw[e] at hb;exact Ã _ hb
 ·rw[e] at hb
  unfold frs at hb
  rw[List.filterMap_cons,hf] at hb
  exact hb
def Inv.Cj(I:Inv X pins σ H s):∀b∈frs X.stack,H b=none:=λb hb=>by
 rcases Ñ.mp (I.qM b hb) with e|hb
 ·rw[e];exact I.free
 ·obtain⟨_,o,ho,_⟩:=I.ok.kZ.mem hb
  exact I.base.free b o ho (I.ok.frf b hb) λz=>I.ok.exfs b z hb
def Inv.step{g':Array GenState}{t':Nat}{d':Drawn}{ch:List Addr}(I:Inv X pins σ H s)(hch:∀b∈ch,(b∈X.ex\/X.s₀.heap.objs.size<=b)/\b≠X.env.locals/\(∀x c,X.env.cells.lookup x=some c->c≠b)/\∀p∈X.pn++pins,p.1≠b)(keep:∀b o,b≠X.env.locals->b∉X.fs->b∉ch->s.heap.get? b=some o->H b=none->h'.get? b=some o)(slot:∀b o,b≠X.env.locals->b∈X.fs->b∉ch->s.heap.get? b=some o->H b=none->∃sl,h'.get? b=some { o with slots:=sl })(free:∀b o,b∉ch->s.heap.get? b=some o->H b=none->H' b=none)(there:∀b o,b∉ch->s.heap.get? b=some o->∃o',h'.get? b=some o')(tups:∀b xs,H b=some (.tup xs)->H' b=some (.tup xs))(frzs:∀b o u,H b=some (.frz o u)->H' b=some (.frz o u))(tbls:∀b ps,H b=some (.tbl ps)->∃more,H' b=some (.tbl (ps++more)))(ns:∀m,s.heap.Ns X.env.locals m->h'.Ns X.env.locals m)(hok:HOk X.prog X.w H' h')(hg:AllBare g') :
  Inv X pins σ H' { s with heap:=h',gens:=g',drawn:=d',toks:=t' }:=by
 have neL:∀b o,X.s₀.heap.get? b=some o->b≠X.env.locals:=λb o e=>â (æ (Ï e) I.ok.above)
 have neC:∀b o,X.s₀.heap.get? b=some o->b∉X.ex->b∉ch:=λb o e hx hb=>by
  rcases(hch b hb).1 with z|z
  ·exact hx z
  ·exact absurd (æ (Ï e) z) (č _)
 have cellK:∀x c,X.env.cells.lookup x=some c->∀v,s.heap.IsCell c v->h'.IsCell c v:=λx c e v ⟨o,ho,hd⟩=>by
  have nch:c∉ch:=λz=>(hch c z).2.2.1 x c e rfl
  by_cases hc:c∈X.fs
  ·obtain⟨sl,q⟩:=slot c o (I.cne x c e) hc nch ho (I.freeC x c e)
   exact⟨_,q,hd⟩
  ·exact⟨o,keep c o (I.cne x c e) hc nch ho (I.freeC x c e),hd⟩
 refine⟨I.ok,I.os,hg,⟨λb o e n hb hx=>?_,λb o e n hb hx=>?_,λb o e n hx=>?_,λb o e hx=>?_,λb xs e=>tups b xs (I.base.tups b xs e),λb o xs e=>frzs b o xs (I.base.frzs b o xs e),λb ps e=>?_⟩,?_,λx c e=>?_,?_,λx c e=>?_,λp hp=>?_,hok,I.len⟩
 ·exact keep b o (neL b o e) hb (neC b o e hx) (I.base.keep b o e n hb hx) (I.base.free b o e n hx)
 ·obtain⟨sl,e1⟩:=I.base.slot b o e n hb hx
  obtain⟨sl',e2⟩:=slot b _ (neL b o e) hb (neC b o e hx) e1 (I.base.free b o e n hx)
  exact⟨sl',e2⟩
 ·obtain⟨o',e1⟩:=I.base.there b o e hx
  exact free b o' (neC b o e hx) e1 (I.base.free b o e n hx)
 ·obtain⟨o',e1⟩:=I.base.there b o e hx
  exact there b o' (neC b o e hx) e1
 ·obtain⟨m1,e1⟩:=I.base.tbls b ps e
  obtain⟨m2,e2⟩:=tbls b _ e1
  exact⟨m1++m2,by rw[e2,Array.append_assoc]⟩
 ·obtain⟨m,hn,hl⟩:=I.loc
  refine⟨m,ns m hn,λi x v e1 e2 e3=>?_⟩
  obtain⟨u,r,l⟩:=hl i x v e1 e2 e3
  refine⟨u,r,?_⟩
  rcases l with l|⟨k,c,e,z⟩
  ·exact .inl l
  ·exact .inr ⟨k,c,e,cellK x c e _ z⟩
 ·obtain⟨v,z⟩:=I.cell x c e
  exact⟨v,cellK x c e v z⟩
 ·obtain⟨m,⟨o,_,_,ho,_⟩,_⟩:=I.loc
  exact free _ o (λz=>(hch _ z).2.1 rfl) ho I.free
 ·obtain⟨v,o,ho,hd⟩:=I.cell x c e
  exact free c o (λz=>(hch c z).2.2.1 x c e rfl) ho (I.freeC x c e)
 ·obtain⟨e,n,ne,nf,d⟩:=I.pin p hp
  have nch:p.1∉ch:=λz=>(hch p.1 z).2.2.2 p hp rfl
  exact⟨keep p.1 p.2 ne nf nch e n,free p.1 p.2 nch e n,ne,nf,d⟩
def Inv.un{t':Nat}(I:Inv X pins σ H s)(u:Un X.fs [] H H' s.heap h')(hok:HOk X.prog X.w H' h'):Inv X pins σ H' { s with heap:=h',toks:=t' }:=by
 obtain⟨m,⟨o,es,ep,ho,r⟩,_⟩:=id I.loc
 obtain⟨sl,hL⟩:=u.any ho I.free (by simp)
 exact I.step (g':=s.gens) (d':=s.drawn) (ch:=[]) (λ_ z=>nomatch z) (λb o _ hb _ e n=>u.keep b o e n hb (by simp)) (λb o _ hb _ e n=>u.slot b o e n hb (by simp)) (λb o _ e n=>u.free b o e n (by simp)) (λb o _ e=>u.there b o e (by simp)) u.tups u.frzs u.tbls (λm' hm=>by
  obtain⟨o',es',ep',ho',r'⟩:=hm
  rw[ho] at ho';cases ho'
  exact⟨_,es',ep',hL,r'⟩) hok I.bare
def Inv.call{g':Array GenState}{t':Nat}{d':Drawn}{ch:List Addr}(I:Inv X pins σ H s)(u:Un (frs X.stack) ch H H' s.heap h')(hok:HOk X.prog X.w H' h')(hg:AllBare g')(hch:∀b∈ch,(b∈X.ex\/X.s₀.heap.objs.size<=b)/\b≠X.env.locals/\(∀x c,X.env.cells.lookup x=some c->c≠b)/\∀p∈X.pn++pins,p.1≠b) :
  Inv X pins σ H' { s with heap:=h',gens:=g',drawn:=d',toks:=t' }:=by
 obtain⟨m,⟨o,es,ep,ho,r⟩,_⟩:=id I.loc
 obtain⟨sl,hL⟩:=u.any ho I.free λz=>(hch _ z).2.1 rfl
 exact I.step (ch:=ch) hch (λb o hL hb hc e n=>u.keep b o e n (λz=>(Ñ.mp (I.qM b z)).elim hL hb) hc) (λb o _ _ hc e n=>u.any e n hc) (λb o hc e n=>u.free b o e n hc) (λb o hc e=>u.there b o e hc) u.tups u.frzs u.tbls (λm' hm=>by
  obtain⟨o',es',ep',ho',r'⟩:=hm
  rw[ho] at ho';cases ho'
  exact⟨_,es',ep',hL,r'⟩) hok hg
def Inv.turned{t':Nat}{it:Addr}(I:Inv X pins σ H s)(k:∀b o,b≠it->s.heap.get? b=some o->h'.get? b=some o)(hn:H it=none)(hL:it≠X.env.locals)(h1:it∈X.ex\/X.s₀.heap.objs.size<=it)(h2:∀x c,X.env.cells.lookup x=some c->c≠it)(h3:∀p∈X.pn++pins,p.1≠it):Inv X pins σ H { s with heap:=h',toks:=t' }:=by
 have nit:∀b u,H b=some u->b≠it:=λb u e z=>by rw[z,hn] at e;cases e
 refine I.step (g':=s.gens) (d':=s.drawn) (ch:=[it]) (λb hb=>?_) (λb o _ _ hc e _=>k b o (λz=>hc (by simp[z])) e) (λb o _ _ hc e _=>⟨o.slots,k b o (λz=>hc (by simp[z])) e⟩) (λ_ _ _ _ n=>n)
  (λb o hc e=>⟨o,k b o (λz=>hc (by simp[z])) e⟩) (λ_ _ e=>e) (λ_ _ _ e=>e) (λb ps e=>⟨#[],by rw[e];simp⟩) (λm hm=>?_) (λb u e=>?_) I.bare
 ·have e:b=it:=by simpa using hb
  subst e
  exact⟨h1,hL,h2,h3⟩
 ·obtain⟨o,es,ep,ho,r⟩:=hm
  exact⟨o,es,ep,k _ o (Ĥ hL) ho,r⟩
 ·refine(I.hok b u e).stay (λc v hc q=>k c v ?_ q) (λ_ q=>q) λ_ _ q=>q
  rcases hc with z|z
  ·rw[z];exact nit b u e
  ·exact nit c _ z
def Inv.tok(I:Inv X pins σ H s)(t:Nat):Inv X pins σ H { s with toks:=t }:=I.un (h':=s.heap) (t':=t) Un.refl I.hok
def Inv.kept{t':Nat}(I:Inv X pins σ H s)(k:∀b u,s.heap.get? b=some u->h'.get? b=some u):Inv X pins σ H { s with heap:=h',toks:=t' }:=I.un (Un.kept k) (I.hok.kept k)
def Inv.laid{a:Addr}{o:HO}{t':Nat}(I:Inv X pins σ H s)(k:∀b u,s.heap.get? b=some u->h'.get? b=some u)(hp:s.heap.objs.size<=a)(new:bY X.prog X.w (upd H a o) h' a o) :
  Inv X pins σ (upd H a o) { s with heap:=h',toks:=t' }:=I.un (Un.laid k hp (I.hok.fresh hp)) (I.hok.laid k hp new)
def Inv.write{x e:Addr}{o:HO}{t':Nat}(I:Inv X pins σ H s)(mu:Mut (H x))(he:e=x\/H e=some (.own x))(k:∀b u,b≠e->s.heap.get? b=some u->h'.get? b=some u)(heo:∃u,h'.get? e=some u)(new:bY X.prog X.w (upd H x o) h' x o):Inv X pins σ (upd H x o) { s with heap:=h',toks:=t' }:=I.un (Un.write mu he k heo) (I.hok.write mu he k heo new)
def Inv.qy{pins':List (Addr×Obj)}(I:Inv X pins σ H s)(h:∀p∈pins',s.heap.get? p.1=some p.2/\H p.1=none/\p.1≠X.env.locals/\p.1∉X.fs/\∀v,p.2.data≠.cell v):Inv X pins' σ H s :=
 ⟨I.ok,I.os,I.bare,I.base,I.loc,I.cell,I.free,I.freeC,λp hp=>(å.mp hp).elim (λz=>I.pin p (ī _ z)) (h p),I.hok,I.len⟩
def yM{N:List Str}(hN:N.Nodup){i j:Nat}{x:Str}(a:N[i]?=some x)(b:N[j]?=some x):i=j:=by
 obtain⟨h1,e1⟩:=Ê.mp a
 obtain⟨h2,e2⟩:=Ê.mp b
 exact(List.getElem_inj hN).mp (e1.trans e2.symm)
def uq{M:Model}{A:Around}{E:Value->Shared->Prop}{i:Nat}{x:Str}{v:V}{u:Value}{Q:Unit->Shared->Prop}(I:Inv X pins σ H s)(hU:∀j,X.N[j]?=some x->j=i)(hi:X.N[i]?=some x)(hx:Loc X.env.scope x)(r:RelV v u)(h:∀s',Inv X pins (σ.set i (some v)) H s'->(∃a,Heap.SameBut a s.heap s'.heap/\(a=X.env.locals\/X.env.cells.lookup x=some a))->Q () s')(hf:X.fn x=true\/X.env.scope.names.lookup x=some .local:=by first|exact .inl rfl|exact .inr rfl|assumption):wpAny M A (storeName X.env x u) Q E s:=by
 obtain⟨m,hn,hl⟩:=id I.loc
 have hcls:(X.env.scope.kind == .class || (X.env.scope.kind == .module&&X.env.locals != X.env.globals))=false:=by rw[I.ok.kind];rfl
 have hiσ:i<σ.length:=by rw[I.len];exact(Ê.mp hi).1
 have cne:=I.cne
 have tracked:∀{a:Addr}{h':Heap},(∃o,s.heap.get? a=some o/\H a=none)->Heap.SameBut a s.heap h'->HOk X.prog X.w H h':=λ{a h'} ha hs b ob e=>by
  obtain⟨_,_,hfree⟩:=ha
  refine(I.hok b ob e).stay (λc w' hc q=>(hs.2 c ?_).trans q) (λ_ q=>q) λ_ _ q=>q
  rintro rfl
  rcases hc with rfl|hc
  ·rw[hfree] at e;cases e
  ·rw[hfree] at hc;cases hc
 rcases hx with hk|hk
 ·refine wpAny_storeName_local hk hn (λh' hn' hs=>?_) hcls
  obtain⟨oL,_,_,hoL,_⟩:=id hn
  refine h _ ⟨I.ok,I.os,I.bare,⟨λb o e n hb hx=>?_,λb o e n hb hx=>?_,I.base.free,λb o e hx=>?_,I.base.tups,I.base.frzs,I.base.tbls⟩,⟨_,hn',λj y v' e1 e2 e3=>?_⟩,λy c e=>?_,I.free,I.freeC,λp hp=>?_,tracked ⟨oL,hoL,I.free⟩ hs,by simpa using I.len⟩ ⟨_,hs,.inl rfl⟩
  ·exact(hs.2 b (â (æ (Ï e) I.ok.above))).trans (I.base.keep b o e n hb hx)
  ·obtain⟨sl,e1⟩:=I.base.slot b o e n hb hx
   exact⟨sl,(hs.2 b (â (æ (Ï e) I.ok.above))).trans e1⟩
  ·obtain⟨o',e1⟩:=I.base.there b o e hx
   exact⟨o',(hs.2 b (â (æ (Ï e) I.ok.above))).trans e1⟩
  ·by_cases hj:j=i
   ·subst hj
    rw[hi] at e1;cases e1
    rw[Į hiσ] at e2
    cases e2
    exact⟨u,r,.inl ⟨hk,by simp⟩⟩
   ·rw[ŝ (Ĥ hj)] at e2
    obtain⟨u',r',q⟩:=hl j y v' e1 e2 e3
    refine⟨u',r',?_⟩
    rcases q with ⟨k,e⟩|⟨k,c,e,z⟩
    ·refine .inl ⟨k,?_⟩
     have:y≠x:=λe=>hj (hU _ (e ▸ e1))
     simp[this,e]
    ·exact .inr ⟨k,c,e,z.sameBut hs (cne y c e)⟩
  ·obtain⟨w',z⟩:=I.cell y c e
   exact⟨w',z.sameBut hs (cne y c e)⟩
  ·obtain⟨e,n,ne,nf,d⟩:=I.pin p hp
   exact⟨(hs.2 p.1 ne).trans e,n,ne,nf,d⟩
 ·have hfn:X.fn x=true:=by
   rcases hf with z|z
   ·exact z
   ·rw[z] at hk;cases hk
  obtain⟨c,hc⟩:=I.ok.has x (.inl hk)
  obtain⟨w',z⟩:=I.cell x c hc
  refine wpAny_storeName_cell I.ok.kind hk hc z (λh' hc' hs=>?_)
  obtain⟨oc,hoc,hocd⟩:=id z
  refine h { s with heap:=h' } ⟨I.ok,I.os,I.bare,⟨λb o e n hb hx=>?_,λb o e n hb hx=>?_,I.base.free,λb o e hx=>?_,I.base.tups,I.base.frzs,I.base.tbls⟩,⟨m,hn.sameBut hs (Ĥ (cne x c hc)),λj y v' e1 e2 e3=>?_⟩,λy c' e=>?_,I.free,I.freeC,λp hp=>?_,tracked ⟨oc,hoc,I.freeC x c hc⟩ hs,by simpa using I.len⟩ ⟨c,hs,.inr hc⟩
  ·exact(hs.2 b (â (æ (Ï e) (I.ok.cab x c hfn hc)))).trans (I.base.keep b o e n hb hx)
  ·obtain⟨sl,e1⟩:=I.base.slot b o e n hb hx
   exact⟨sl,(hs.2 b (â (æ (Ï e) (I.ok.cab x c hfn hc)))).trans e1⟩
  ·obtain⟨o',e1⟩:=I.base.there b o e hx
   exact⟨o',(hs.2 b (â (æ (Ï e) (I.ok.cab x c hfn hc)))).trans e1⟩
  ·by_cases hj:j=i
   ·subst hj
    rw[hi] at e1;cases e1
    rw[Į hiσ] at e2
    cases e2
    exact⟨u,r,.inr ⟨.inl hk,c,hc,hc'⟩⟩
   ·rw[ŝ (Ĥ hj)] at e2
    obtain⟨u',r',q⟩:=hl j y v' e1 e2 e3
    refine⟨u',r',?_⟩
    rcases q with q|⟨k,c',e,z'⟩
    ·exact .inl q
    ·refine .inr ⟨k,c',e,z'.sameBut hs ?_⟩
     rintro rfl
     exact hj (hU _ (I.ok.inj _ _ _ e hc ▸ e1))
  ·by_cases hcc:c'=c
   ·subst hcc;exact⟨_,hc'⟩
   ·obtain⟨w2,z2⟩:=I.cell y c' e
    exact⟨w2,z2.sameBut hs hcc⟩
  ·obtain⟨e,n,ne,nf,d⟩:=I.pin p hp
   refine⟨(hs.2 p.1 ?_).trans e,n,ne,nf,d⟩
   intro q
   rw[q,hoc] at e
   have q':oc=p.2:=á e
   exact d w' (by rw[←q'];exact hocd)
def xZ{M:Model}{A:Around}{E:Value->Shared->Prop}{i:Nat}{x:Str}{v:V}{u:Value}{Q:Unit->Shared->Prop}(I:Inv X pins σ H s)(hN:X.N.Nodup)(hi:X.N[i]?=some x)(hx:Loc X.env.scope x)(r:RelV v u)(h:∀s',Inv X pins (σ.set i (some v)) H s'->Q () s')(hf:X.fn x=true\/X.env.scope.names.lookup x=some .local:=by first|exact .inl rfl|exact .inr rfl|assumption):wpAny M A (storeName X.env x u) Q E s :=
 uq I (λj h=>yM hN h hi) hi hx r (λs' I' _=>h s' I') hf
def Inv.call'{s':Shared}{ch:List Addr}(I:Inv X pins σ H s)(ho:s'.os=s.os)(u:Un (frs X.stack) ch H H' s.heap s'.heap)(hok:HOk X.prog X.w H' s'.heap)(hg:AllBare s'.gens)(hch:∀b∈ch,(b∈X.ex\/X.s₀.heap.objs.size<=b)/\b≠X.env.locals/\(∀x c,X.env.cells.lookup x=some c->c≠b)/\∀p∈X.pn++pins,p.1≠b):Inv X pins σ H' s':=by
 obtain⟨h',g',d',t',o'⟩:=s'
 have e:o'=s.os:=ho
 subst e
 exact I.call (g':=g') (t':=t') (d':=d') u hok hg hch
end
abbrev XK:=Value->Option Addr->Hp->Prop
abbrev St:=List (Option V)
abbrev VK:=V->Hp->Prop
abbrev TE:=St->Hp->VK->Prop
abbrev TT:=St->Hp->(Bool->Hp->Prop)->Prop
abbrev TA:=St->Hp->(List V->Hp->Prop)->Prop
structure Ends where
 nx:St->Hp->Prop
 rt:VK
 bk:St->Hp->Prop:=λ_ _=>False
 ct:St->Hp->Prop:=λ_ _=>False
abbrev TS:=Ends->St->Hp->Prop
def EP(X:Cx)(pins:List (Addr×Obj))(σ:St)(Q:VK)(u:Value)(s':Shared):Prop:=∃v H',Inv X pins σ H' s'/\RelV v u/\Q v H'
def TP(X:Cx)(pins:List (Addr×Obj))(σ:St)(Q:Bool->Hp->Prop)(b:Bool)(s':Shared):Prop:=∃H',Inv X pins σ H' s'/\Q b H'
def AP(X:Cx)(pins:List (Addr×Obj))(σ:St)(Q:List V->Hp->Prop)(us:List Value)(s':Shared):Prop:=∃vs H',Inv X pins σ H' s'/\Vals vs us/\Q vs H'
def SP(X:Cx)(pins:List (Addr×Obj))(D:Ends)(f:Flow)(s':Shared):Prop :=
 match f with
 |.next=>∃σ' H',Inv X pins σ' H' s'/\D.nx σ' H'
 |.brk=>∃σ' H',Inv X pins σ' H' s'/\D.bk σ' H'
 |.cont=>∃σ' H',Inv X pins σ' H' s'/\D.ct σ' H'
 |.ret u=>∃v σ' H',Inv X pins σ' H' s'/\RelV v u/\D.rt v H'
def PE(X:Cx)(e:Expr)(t:TE):Prop :=
 ∀(pins:List (Addr×Obj)) (s:Shared) (σ:St) (H:Hp) (Q:VK),Inv X pins σ H s->t σ H Q->wpAny (model X.prog X.w) X.A (eval e X.env) (EP X pins σ Q) X.xe s
def PT(X:Cx)(e:Expr)(t:TT):Prop :=
 ∀(pins:List (Addr×Obj)) (s:Shared) (σ:St) (H:Hp) (Q:Bool->Hp->Prop),Inv X pins σ H s->t σ H Q->wpAny (model X.prog X.w) X.A (isTrue e X.env (eval e X.env)) (TP X pins σ Q) X.xe s
def PW(X:Cx)(e:Expr)(t:TT):Prop :=
 ∀(whole:Sem Value) (pins:List (Addr×Obj)) (s:Shared) (σ:St) (H:Hp) (Q:Bool->Hp->Prop),Inv X pins σ H s->t σ H Q->wpAny (model X.prog X.w) X.A (isTrue e X.env whole) (TP X pins σ Q) X.xe s
def PW.pt{X:Cx}{e:Expr}{t:TT}(h:PW X e t):PT X e t:=h _
def PA(X:Cx)(es:List Expr)(t:TA):Prop :=
 ∀(pos:Pos) (pins:List (Addr×Obj)) (s:Shared) (σ:St) (H:Hp) (Q:List V->Hp->Prop),Inv X pins σ H s->t σ H Q->wpAny (model X.prog X.w) X.A (spliced (backTo pos (starEach es X.env))) (AP X pins σ Q) X.xe s
def PS(X:Cx)(st:Stmt)(t:TS):Prop :=
 ∀(pins:List (Addr×Obj)) (s:Shared) (σ:St) (H:Hp) (D:Ends),Inv X pins σ H s->t D σ H->wpAny (model X.prog X.w) X.A (exec st X.env) (SP X pins D) X.xe s
def PSs(X:Cx)(st:List Stmt)(t:TS):Prop :=
 ∀(pins:List (Addr×Obj)) (s:Shared) (σ:St) (H:Hp) (D:Ends),Inv X pins σ H s->t D σ H->wpAny (model X.prog X.w) X.A (execs st X.env) (SP X pins D) X.xe s
def thn{α:Type}{t:Sem α}{Q Q':α->Shared->Prop}{M:Model}{A:Around}{E:Value->Shared->Prop}{s:Shared}(h:wpAny M A t Q E s)(hQ:∀a s,Q a s->Q' a s):wpAny M A t Q' E s:=ň h hQ λ_ _ x=>x
section
variable {X:Cx}
def bin{a b:Expr}{ta tb:TE}(ha:PE X a ta)(hb:PE X b tb){pins:List (Addr×Obj)}{s:Shared}{σ:St}{H:Hp}{R:V->V->Hp->Prop}(I:Inv X pins σ H s)(h:ta σ H λx H1=>tb σ H1 λy H2=>R x y H2){α:Type}{Q:α->Shared->Prop}{f:Value->Value->Sem α}(hf:∀v u s2 x y H2,Inv X pins σ H2 s2->RelV x v->RelV y u->R x y H2->wpAny (model X.prog X.w) X.A (f v u) Q X.xe s2) :
  wpAny (model X.prog X.w) X.A (eval a X.env) (λv s₁=>wpAny (model X.prog X.w) X.A (eval b X.env) (λu s₂=>wpAny (model X.prog X.w) X.A (f v u) Q X.xe s₂) X.xe s₁) X.xe s:=by
 refine thn (ha pins s σ H _ I h) λv s1 ⟨x,H1,I1,r1,q1⟩=>?_
 refine thn (hb pins s1 σ H1 _ I1 q1) λu s2 ⟨y,H2,I2,r2,q2⟩=>?_
 exact hf v u s2 x y H2 I2 r1 r2 q2
def iH(i:Nat):TE:=λσ H Q=>∃v,σ[i]?=some (some v)/\Q v H
def tC(v:V):TE:=λ_ H Q=>Q v H
def Ql{i:Nat}{x:Str}{pos:Pos}(hN:X.N[i]?=some x)(hv:Vis X.env.scope x)(hd:(x == ("__debug__":Str))=false:=by decide)(hcd:(x == ("__classdict__":Str))=false:=by decide):PE X (.Name x pos) (iH i):=by
 intro pins s σ H Q I h
 obtain⟨v,e,h⟩:=h
 obtain⟨m,hn,hl⟩:=I.loc
 obtain⟨u,r,l⟩:=hl i x v hN e hv
 have fin:EP X pins σ Q u s:=⟨v,H,I,r,h⟩
 rcases l with ⟨hk,hm⟩|⟨hk,c,hc,hcell⟩
 ·exact wpAny_Name (wpAny_loadName_local I.ok.kind hk hn hm fin) hd
 ·rcases hk with hk|hk
  ·exact wpAny_Name (wpAny_loadName_cell I.ok.kind hk hc hcell fin) hd
  ·exact wpAny_Name (wpAny_loadName_free I.ok.kind hk hc hcell fin hcd) hd
def HJ{i j pos}:PE X (.Constant (.int i) j pos) (tC (.int i)):=λ_ _ _ H _ I h=>wpAny_Constant_int ⟨.int i,H,I.tok _,⟨_,rfl⟩,h⟩
def CV{b j pos}:PE X (.Constant (.bool b) j pos) (tC (.bl b)):=λ_ _ _ H _ I h=>Constant_bool ⟨.bl b,H,I,rfl,h⟩
def Qm{x j pos}:PE X (.Constant (.str x) j pos) (tC (.str x)):=λ_ _ _ H _ I h=>Calls.Constant_str ⟨.str x,H,I.tok _,⟨_,rfl⟩,h⟩
def Gl(X:Cx)(x:Str):Prop:=X.env.kindOf x=some .globalImplicit
def Dk{E:Value->Shared->Prop}{pins:List (Addr×Obj)}{s:Shared}{σ:St}{H:Hp}{x:Str}{u:Value}{pos:Pos}{Q:Value->Shared->Prop}(I:Inv X pins σ H s)(hg:Gl X x)(hm:X.mg x=some u)(h:Q u s)(hd:(x == ("__debug__":Str))=false:=by decide):wpAny (model X.prog X.w) X.A (eval (.Name x pos) X.env) Q E s :=
 Calls.Name_function_global I.ok.kind hg (Calls.loadGlobal_global (by rw[I.ok.glob];exact I.mod.glob.keeps I.bk) hm h) hd
def jK{E:Value->Shared->Prop}{pins:List (Addr×Obj)}{s:Shared}{σ:St}{H:Hp}{x:Str}{u:Value}{pos:Pos}{Q:Value->Shared->Prop}(I:Inv X pins σ H s)(hg:Gl X x)(hm:X.mg x=none)(hv:bootBuiltins x=some u)(h:Q u s)(hn:x≠"__name__":=by decide)(hd:(x == ("__debug__":Str))=false:=by decide):wpAny (model X.prog X.w) X.A (eval (.Name x pos) X.env) Q E s:=by
 obtain⟨mb,h1,h2⟩:=I.mod.blt
 exact Calls.Name_function_global I.ok.kind hg (Calls.loadGlobal_builtin (by rw[I.ok.glob];exact I.mod.glob.keeps I.bk) hm (by rw[I.ok.blt];exact h1.keeps I.bk) ((h2 x hn).trans hv) h) hd
def ni{x:Str}{v:V}{u:Value}{pos:Pos}(hg:Gl X x)(hm:X.mg x=none)(hv:bootBuiltins x=some u)(r:RelV v u)(hn:x≠"__name__":=by decide)(hd:(x == ("__debug__":Str))=false:=by decide):PE X (.Name x pos) (tC v) :=
 λ_ _ _ H _ I h=>jK I hg hm hv ⟨v,H,I,r,h⟩ hn hd
variable {a b:Expr}{ta tb:TE}{pos:Pos}
def PC(X:Cx)(op:CmpOp)(a b:Expr)(t:TE):Prop :=
 ∀(pins:List (Addr×Obj)) (s:Shared) (σ:St) (H:Hp) (Q:VK),Inv X pins σ H s->t σ H Q ->
  wpAny (model X.prog X.w) X.A (eval a X.env) (λv s₁=>wpAny (model X.prog X.w) X.A (eval b X.env) (λu s₂=>wpAny (model X.prog X.w) X.A (compareOp op v u) (EP X pins σ Q) X.xe s₂) X.xe s₁) X.xe s
def tB(t:TE):TT:=λσ H Q=>t σ H λx H1=>∃c,x=.bl c/\Q c H1
def V1{op:CmpOp}{t:TE}(h:PC X op a b t)(h1:behindInMarks op b=false:=by first|exact nobehind _ (by decide) (by decide)|rfl):PT X (.Compare a [op] [b] pos) (tB t):=by
 intro pins s σ H Q I hw
 refine wpAny_isTrue_Compare1 (thn (h pins s σ H _ I hw) λv s1 h1=>thn h1 λu s2 h2=>thn h2 λc s3 ⟨x,H1,I1,r1,q1⟩=>?_) h1
 obtain⟨d,rfl,q⟩:=q1
 cases r1
 exact Ĩ ⟨H1,I1,q⟩
def zY{e:Expr}{t:TE}(h:PE X e t)(he:∀whole,isTrue e X.env whole=(do let v ←whole;standAt e.pos;holding [v] (truthy v)):=by intro _;rfl):PT X e (tB t):=by
 intro pins s σ H Q I hw
 refine isTrue_plain (thn (h pins s σ H _ I hw) λv s1 ⟨x,H1,I1,r1,q1⟩=>?_) (he _)
 obtain⟨d,rfl,q⟩:=q1
 cases r1
 exact Ĩ ⟨H1,I1,q⟩
variable {tA tB':TT}{rest:List Expr}
def SN(t u:TT):TT:=λσ H Q=>t σ H λc H1=>if c=true then u σ H1 Q else Q false H1
def tOr(t u:TT):TT:=λσ H Q=>t σ H λc H1=>if c=true then Q true H1 else u σ H1 Q
def Vw(t:TT):TT:=λσ H Q=>t σ H λc H1=>Q (!c) H1
def Ld(ha:PT X a tA):PW X (.BoolOp .And [a] pos) tA:=by
 intro wh pins s σ H Q I h
 refine isTrue_and (thn (ha pins s σ H Q I h) λc s1 e=>?_)
 cases c with
 |true=>exact isTrue_and_nil e
 |false=>exact e
def Qh(ha:PT X a tA):PW X (.BoolOp .Or [a] pos) tA:=by
 intro wh pins s σ H Q I h
 refine isTrue_or (thn (ha pins s σ H Q I h) λc s1 e=>?_)
 cases c with
 |false=>exact isTrue_or_nil e
 |true=>exact e
def Qi(ha:PT X a tA)(hb:PW X (.BoolOp .And (b::rest) pos) tB'):PW X (.BoolOp .And (a::b::rest) pos) (SN tA tB'):=by
 intro wh pins s σ H Q I h
 refine isTrue_and (thn (ha pins s σ H _ I h) λc s1 ⟨H1,I1,q1⟩=>?_)
 cases c with
 |true=>exact hb wh pins s1 σ H1 Q I1 q1
 |false=>exact⟨H1,I1,q1⟩
def Tz(ha:PT X a tA)(hb:PW X (.BoolOp .Or (b::rest) pos) tB'):PW X (.BoolOp .Or (a::b::rest) pos) (tOr tA tB'):=by
 intro wh pins s σ H Q I h
 refine isTrue_or (thn (ha pins s σ H _ I h) λc s1 ⟨H1,I1,q1⟩=>?_)
 cases c with
 |true=>exact⟨H1,I1,q1⟩
 |false=>exact hb wh pins s1 σ H1 Q I1 q1
def zZ(ha:PT X a tA):PT X (.UnaryOp .Not a pos) (Vw tA):=by
 intro pins s σ H Q I h
 exact isTrue_not (ha pins s σ H (λc H1=>Q (!c) H1) I h)
def SM(ta tb:TE):TE:=λσ H Q=>ta σ H λx H1=>∃c,x=.bl c/\if c=true then tb σ H1 Q else Q (.bl false) H1
def Sw(ta:TE):TE:=λσ H Q=>ta σ H λx H1=>∃c,x=.bl c/\Q (.bl (!c)) H1
def Qn{op}{t:TE}(h:PE X a t):PE X (.BoolOp op [a] pos) t:=λpins s σ H Q I hw=>BoolOp_one (h pins s σ H Q I hw)
def Qp(ha:PE X a ta)(hb:PE X (.BoolOp .And (b::rest) pos) tb):PE X (.BoolOp .And (a::b::rest) pos) (SM ta tb):=by
 intro pins s σ H Q I h
 refine BoolOp_and (thn (ha pins s σ H _ I h) λv s1 ⟨x,H1,I1,r1,q1⟩=>?_)
 obtain⟨c,rfl,q1⟩:=q1
 cases r1
 refine Ĩ ?_
 cases c with
 |true=>exact hb pins s1 σ H1 Q I1 q1
 |false=>exact⟨.bl false,H1,I1,rfl,q1⟩
def Qo(ha:PE X a ta):PE X (.UnaryOp .Not a pos) (Sw ta):=by
 intro pins s σ H Q I h
 refine UnaryOp_ (thn (ha pins s σ H _ I h) λv s1 ⟨x,H1,I1,r1,q1⟩=>?_)
 obtain⟨c,rfl,q1⟩:=q1
 cases r1
 exact not_of (Ĩ ⟨.bl (!c),H1,I1,rfl,q1⟩)
def tIf(t:TT)(ta tb:TE):TE:=λσ H Q=>t σ H λc H1=>if c=true then ta σ H1 Q else tb σ H1 Q
def HN{c:Expr}(hc:PT X c tA)(ha:PE X a ta)(hb:PE X b tb):PE X (.IfExp c a b pos) (tIf tA ta tb):=by
 intro pins s σ H Q I h
 refine wpAny_IfExp (thn (hc pins s σ H _ I h) λd s1 ⟨H1,I1,q1⟩=>?_)
 cases d with
 |true=>exact ha pins s1 σ H1 Q I1 q1
 |false=>exact hb pins s1 σ H1 Q I1 q1
end
def SqL(K:Ú)(H:Hp)(a:Addr)(xs:List V):Prop :=
 Rd H a (.lst xs) ∨
  ∃(o:Obj) (its:Array Value) (n:Nat),K.lookup a=some o/\o.cls=.type "list"/\o.dict=none/\o.data=.seq its n/\its.size<=sizeLine/\Vals xs its.toList
def SqT(K:Ú)(H:Hp)(a:Addr)(xs:List V):Prop :=
 Rd H a (.tup xs) ∨
  ∃(o:Obj) (its:Array Value) (n:Nat),K.lookup a=some o/\o.cls=.type "tuple"/\o.data=.seq its n/\its.size<=sizeLine/\Vals xs its.toList
def Wj:Value->Option V
 |.none=>some .non
 |.bool b=>some (.bl b)
 |.int i _=>some (.int i)
 |.str x _=>some (.str x)
 |.bytes b _=>some (.byt b)
 |.float b _=>some (.flt b)
 |.ref a=>some (.ref a)
 |.type n=>some (.ty n)
 |_=>none
def RelV.abs{x:V}{u:Value}(r:RelV x u):Wj u=some x:=by
 cases x with
 |non=>cases r;rfl
 |bl _=>cases r;rfl
 |int _=>obtain⟨t,rfl⟩:=r;rfl
 |str _=>obtain⟨t,rfl⟩:=r;rfl
 |byt _=>obtain⟨t,rfl⟩:=r;rfl
 |flt _=>obtain⟨t,rfl⟩:=r;rfl
 |ref _=>cases r;rfl
 |ty _=>cases r;rfl
def RelV.inj{x y:V}{u:Value}(r:RelV x u)(q:RelV y u):x=y:=á (r.abs.symm.trans q.abs)
def Vals.inj:∀{xs ys:List V}{us:List Value},Vals xs us->Vals ys us->xs=ys
 |_,_,_,.nil,.nil=>rfl
 |_,_,_,.cons r t,.cons r' t'=>by rw[r.inj r',Vals.inj t t']
section
variable {X:Cx}{pins:List (Addr×Obj)}{σ:St}{H:Hp}{s:Shared}{a:Addr}{xs ys:List V}
def SqL.of{K:Ú}(h:H a=some (.lst xs)):SqL K H a xs:=.inl (.inl h)
def SqT.of{K:Ú}(h:H a=some (.tup xs)):SqT K H a xs:=.inl (.inl h)
def Inv.list(I:Inv X pins σ H s)(h:SqL X.K H a xs):∃its:List Value,Vals xs its/\PlainL s.heap a its.toArray/\xs.length<=sizeLine:=by
 rcases h with h|⟨o,its,n,hk,hc,hd,hs,hz,r⟩
 ·obtain⟨z,its,n,r,e⟩:=h.ok I.hok
  exact⟨its,r,⟨_,n,e,rfl,rfl,rfl⟩,z⟩
 ·refine⟨its.toList,r,⟨o,n,I.kIn a o hk,hc,hd,by simpa using hs⟩,?_⟩
  have e:=r.length
  simp only[ľ] at e
  omega
def Inv.tuple(I:Inv X pins σ H s)(h:SqT X.K H a xs):∃its:List Value,Vals xs its/\IsTup s.heap a its.toArray/\xs.length<=sizeLine:=by
 rcases h with h|⟨o,its,n,hk,hc,hs,hz,r⟩
 ·obtain⟨z,its,r,p⟩:=h.ok I.hok
  exact⟨its,r,p,z⟩
 ·refine⟨its.toList,r,⟨o,I.kIn a o hk,hc,n,by simpa using hs⟩,?_⟩
  have e:=r.length
  simp only[ľ] at e
  omega
def Inv.Jv(I:Inv X pins σ H s)(h:SqL X.K H a xs)(h':SqL X.K H a ys):xs=ys:=by
 obtain⟨its,r,⟨o,n,e,_,_,d⟩,_⟩:=I.list h
 obtain⟨its',r',⟨o',n',e',_,_,d'⟩,_⟩:=I.list h'
 rw[e] at e';cases e'
 rw[d] at d'
 injection d' with d1 _
 have:its=its':=by simpa using congrArg Array.toList d1
 subst this
 exact r.inj r'
def Inv.El(I:Inv X pins σ H s)(h:SqT X.K H a xs)(h':SqT X.K H a ys):xs=ys:=by
 obtain⟨its,r,⟨o,e,_,n,d⟩,_⟩:=I.tuple h
 obtain⟨its',r',⟨o',e',_,n',d'⟩,_⟩:=I.tuple h'
 rw[e] at e';cases e'
 rw[d] at d'
 injection d' with d1 _
 have:its=its':=by simpa using congrArg Array.toList d1
 subst this
 exact r.inj r'
end
abbrev Cx.wish(X:Cx)(E:Value->Shared->Prop):Cx:={ X with xe:=E }
abbrev Cx.nox(X:Cx):Cx:=X.wish λ_ _=>False
def Cx.Ok.wish{X:Cx}(ok:X.Ok)(E:Value->Shared->Prop):(X.wish E).Ok :=
 ⟨ok.mod,ok.kind,ok.glob,ok.blt,ok.above,ok.inj,ok.has,ok.cab,ok.hd,ok.frames,ok.stk,ok.exf,ok.bs,ok.bsz,ok.noex,ok.exfs,ok.kZ,ok.frf,ok.sof⟩
def Cx.Ok.jm{X:Cx}{E:Value->Shared->Prop}(ok:(X.wish E).Ok):X.Ok :=
 ⟨ok.mod,ok.kind,ok.glob,ok.blt,ok.above,ok.inj,ok.has,ok.cab,ok.hd,ok.frames,ok.stk,ok.exf,ok.bs,ok.bsz,ok.noex,ok.exfs,ok.kZ,ok.frf,ok.sof⟩
section
variable {X:Cx}{pins:List (Addr×Obj)}{σ:St}{H:Hp}{s:Shared}{E:Value->Shared->Prop}
def Inv.wish(I:Inv X pins σ H s)(E:Value->Shared->Prop):Inv (X.wish E) pins σ H s:=⟨I.ok.wish E,I.os,I.bare,I.base,I.loc,I.cell,I.free,I.freeC,I.pin,I.hok,I.len⟩
def Inv.jm(I:Inv (X.wish E) pins σ H s):Inv X pins σ H s:=⟨I.ok.jm,I.os,I.bare,I.base,I.loc,I.cell,I.free,I.freeC,I.pin,I.hok,I.len⟩
def SP.jm{D:Ends}{f:Flow}{s':Shared}(h:SP (X.wish E) pins D f s'):SP X pins D f s':=by
 cases f with
 |next=>obtain⟨σ',H',I,q⟩:=h;exact⟨σ',H',I.jm,q⟩
 |brk=>obtain⟨σ',H',I,q⟩:=h;exact⟨σ',H',I.jm,q⟩
 |cont=>obtain⟨σ',H',I,q⟩:=h;exact⟨σ',H',I.jm,q⟩
 |ret u=>obtain⟨v,σ',H',I,r,q⟩:=h;exact⟨v,σ',H',I.jm,r,q⟩
def PSs.nox{st:List Stmt}{t:TS}(h:PSs X.nox st t):PSs X st t:=λpins s σ H D I hw =>
 ň (h pins s σ H D (I.wish _) hw) (λ_ _ q=>q.jm) λ_ _ z=>ĵ z
end
section
variable {X:Cx}{st:Stmt}{rest:List Stmt}{t u:TS}{e:Expr}{te:TE}{pos:Pos}
def Sy:TS:=λD σ H=>D.nx σ H
def Sq(t u:TS):TS:=λD σ H=>t { D with nx:=u D } σ H
def iJ:PSs X [] Sy:=λ_ _ σ H _ I h=>wpAny_execs_nil ⟨σ,H,I,h⟩
def qW(h1:PS X st t)(h2:PSs X rest u):PSs X (st::rest) (Sq t u):=by
 intro pins s σ H D I h
 refine wpAny_execs_cons (thn (h1 pins s σ H { D with nx:=u D } I h) λf s1 q=>?_)
 cases f with
 |next =>
  obtain⟨σ',H',I',q⟩:=q
  exact h2 pins s1 σ' H' D I' q
 |ret v=>exact q
 |brk=>exact q
 |cont=>exact q
def vO(h1:PS X st t):PSs X [st] t:=by
 intro pins s σ H D I h
 refine wpAny_execs_cons (thn (h1 pins s σ H D I h) λf s1 q=>?_)
 cases f with
 |next=>exact wpAny_execs_nil q
 |ret v=>exact q
 |brk=>exact q
 |cont=>exact q
def Inv.quiet{pins:List (Addr×Obj)}{σ:St}{H:Hp}{s:Shared}(I:Inv X pins σ H s):interactive X.env=false:=by simp[interactive,I.ok.kind]
def qI(te:TE):TS:=λD σ H=>te σ H λ_ H1=>D.nx σ H1
def cu(he:PE X e te)(hs:swapsWith e none pos.line X.env=pure false:=by rfl):PS X (.Expr e pos) (qI te):=by
 intro pins s σ H D I h
 exact wpAny_Expr_any (thn (he pins s σ H _ I h) λv s1 ⟨x,H1,I1,r1,q1⟩=>⟨σ,H1,I1,q1⟩) I.quiet hs
def Vv(te:TE):TS:=λD σ H=>te σ H D.rt
def fJ(he:PE X e te):PS X (.Return (some e) pos) (Vv te):=by
 intro pins s σ H D I h
 exact wpAny_Return_some (thn (he pins s σ H _ I h) λv s1 ⟨x,H1,I1,r1,q1⟩=>⟨x,σ,H1,I1,r1,q1⟩)
def Vy(c:TT)(t u:TS):TS:=λD σ H=>c σ H λb H1=>if b=true then t D σ H1 else u D σ H1
def p7{c:Expr}{a b:List Stmt}{tc:TT}(hc:PT X c tc)(ha:PSs X a t)(hb:PSs X b u):PS X (.If c a b pos) (Vy tc t u):=by
 intro pins s σ H D I h
 refine wpAny_If (thn (hc pins s σ H _ I h) λd s1 ⟨H1,I1,q1⟩=>?_)
 cases d with
 |true=>exact ha pins s1 σ H1 D I1 q1
 |false=>exact hb pins s1 σ H1 D I1 q1
def Pz:TS:=λ_ _ _=>False
def Hs:PS X st Pz:=λ_ _ _ _ _ _ h=>h.elim
end
abbrev TG:=V->St->Hp->(St->Hp->Prop)->Prop
abbrev TGs:=List V->St->Hp->(St->Hp->Prop)->Prop
def PG(X:Cx)(target:Expr)(t:TG):Prop :=
 ∀(pins:List (Addr×Obj)) (s:Shared) (σ:St) (H:Hp) (v:V) (u:Value) (Q:St->Hp->Prop),Inv X pins σ H s->RelV v u->t v σ H Q ->
  wpAny (model X.prog X.w) X.A (assign target X.env u) (λ_ s'=>∃σ' H',Inv X pins σ' H' s'/\Q σ' H') X.xe s
def PGs(X:Cx)(ts:List Expr)(t:TGs):Prop :=
 ∀(pins:List (Addr×Obj)) (s:Shared) (σ:St) (H:Hp) (vs:List V) (us:List Value) (Q:St->Hp->Prop),Inv X pins σ H s->Vals vs us->t vs σ H Q ->
  wpAny (model X.prog X.w) X.A (assignInOrder ((assignEach ts X.env).map (·.2)) us) (λ_ s'=>∃σ' H',Inv X pins σ' H' s'/\Q σ' H') X.xe s
abbrev R4:=V->V->V->Hp->(Hp->Prop)->Prop
def Vm(X:Cx)(t:R4):Prop :=
 ∀(pins:List (Addr×Obj)) (s:Shared) (σ:St) (H:Hp) (o i v:V) (ov iv u:Value) (Q:Hp->Prop),Inv X pins σ H s->RelV o ov->RelV i iv->RelV v u->t o i v H Q ->
  wpAny (model X.prog X.w) X.A (setItem ov iv u) (λ_ s'=>∃H',Inv X pins σ H' s'/\Q H') X.xe s
section
variable {X:Cx}{pos:Pos}
def jM(i:Nat):TG:=λv σ H Q=>Q (σ.set i (some v)) H
def CT{i:Nat}{x:Str}(hN:X.N.Nodup)(hi:X.N[i]?=some x)(hx:Loc X.env.scope x)(hf:X.fn x=true\/X.env.scope.names.lookup x=some .local:=by first|exact .inl rfl|exact .inr rfl|assumption):PG X (.Name x pos) (jM i):=by
 intro pins s σ H v u Q I r h
 exact wpAny_assign_Name (xZ I hN hi hx r (λs' I'=>⟨_,H,I',h⟩) hf)
def Wf:TGs:=λvs σ H Q=>vs=[]/\Q σ H
def Uw(t:TG)(u:TGs):TGs:=λvs σ H Q=>∃v r,vs=v::r/\t v σ H λσ' H'=>u r σ' H' Q
def CQ:PGs X [] Wf:=by
 intro pins s σ H vs us Q I r h
 obtain⟨e,h⟩:=h
 subst e
 cases r
 exact assignInOrder_nil ⟨σ,H,I,h⟩
def mZ{e:Expr}{es:List Expr}{t:TG}{u:TGs}(h1:PG X e t)(h2:PGs X es u)(hs:(assignEach (e::es) X.env).map (·.2)=assign e X.env::(assignEach es X.env).map (·.2):=by rfl):PGs X (e::es) (Uw t u):=by
 intro pins s σ H vs us Q I r h
 obtain⟨v,vr,e1,h⟩:=h
 subst e1
 cases r with
 |cons r rr =>
  rw[hs]
  refine assignInOrder_cons (thn (h1 pins s σ H _ _ _ I r h) λ_ s1 ⟨σ1,H1,I1,q1⟩=>?_)
  exact h2 pins s1 σ1 H1 _ _ Q I1 rr q1
def Wd(K:Ú)(n:Nat)(t:TGs):TG:=λv σ H Q=>∃a xs,v=.ref a/\SqT K H a xs/\xs.length=n/\t xs σ H Q
def Hx{es:List Expr}{k:Nat}{t:TGs}{n:Nat}(hc:X.calm=true)(h:PGs X es t)(hn:(assignEach es X.env).length=n:=by rfl)(hst:(assignEach es X.env).findIdx? (·.1)=none:=by rfl):PG X (.Tuple es k pos) (Wd X.K n t):=by
 intro pins s σ H v u Q I r hw
 obtain⟨a,xs,e1,hq,hl,hw⟩:=hw
 subst e1
 cases r
 obtain⟨its,rv,ht,hz⟩:=I.tuple hq
 refine assign_Tuple_tuple (I.ok.hd hc) ht (by simp[hn,←hl,rv.length]) hst λh' hx=>?_
 have I1:Inv X pins σ H { s with heap:=h' }:=I.kept (t':=s.toks) λb o e=>hx b o (â (Ï e)) e
 exact h pins _ σ H xs _ Q I1 (by simpa using rv) hw
def Us(to ti:TE)(t:R4):TG:=λv σ H Q=>to σ H λo H1=>ti σ H1 λi H2=>t o i v H2 λH3=>Q σ H3
def vQ{o i:Expr}{to ti:TE}{t:R4}(ho:PE X o to)(hi:PE X i ti)(hs:Vm X t)(ha:∀v,assign (.Subscript o i pos) X.env v=(do
   let ov ←holding [v] (eval o X.env)
   let iv ←holding [v,ov] (eval i X.env)
   standAt pos
   holding [v,ov,iv] (setItem ov iv v)
   release [v,ov,iv] []):=by intro _;rfl):PG X (.Subscript o i pos) (Us to ti t):=by
 intro pins s σ H v u Q I r h
 rw[ha]
 refine Ä (Ė (thn (ho pins s σ H _ I h) λov s1 ⟨x,H1,I1,r1,q1⟩=>?_))
 refine Ä (Ė (thn (hi pins s1 σ H1 _ I1 q1) λiv s2 ⟨y,H2,I2,r2,q2⟩=>?_))
 refine Ä (wpAny_standAt (Ä (Ė (thn (hs pins s2 σ H2 x y v ov iv u _ I2 r1 r2 r q2) λ_ s3 ⟨H3,I3,q3⟩=>?_))))
 exact wpAny_release ⟨σ,H3,I3,q3⟩
def qL(te:TE)(g:TG):TS:=λD σ H=>te σ H λx H1=>g x σ H1 D.nx
def oY{tg e:Expr}{te:TE}{g:TG}(he:PE X e te)(hg:PG X tg g)(hs:swapsWithSole [tg] e pos.line X.env=pure false:=by rfl)(hw:swappedStores [tg] e X.env=pure none:=by rfl)(h1:(assignEach [tg] X.env).map (·.2)=[assign tg X.env]:=by rfl):PS X (.Assign [tg] e pos) (qL te g):=by
 intro pins s σ H D I h
 refine wpAny_Assign_stores (thn (he pins s σ H _ I h) λv s1 ⟨x,H1,I1,r1,q1⟩=>?_) hs hw
 rw[h1]
 exact thn (hg pins s1 σ H1 x v _ I1 r1 q1) λ_ s2 q=>q
def Aa{i:Nat}{x:Str}{e:Expr}{te:TE}{pos':Pos}(hN:X.N.Nodup)(hi:X.N[i]?=some x)(hx:Loc X.env.scope x)(he:PE X e te)(hs:swapsWith e (some (.Name x pos')) pos.line X.env=pure false:=by rfl)(hf:X.fn x=true\/X.env.scope.names.lookup x=some .local:=by first|exact .inl rfl|exact .inr rfl|assumption) :
  PS X (.Assign [.Name x pos'] e pos) (qL te (jM i)):=by
 intro pins s σ H D I h
 refine wpAny_Assign_Name (thn (he pins s σ H _ I h) λv s1 ⟨y,H1,I1,r1,q1⟩=>?_) hs
 exact xZ I1 hN hi hx r1 (λs2 I2=>⟨_,H1,I2,q1⟩) hf
end
section
variable {X:Cx}{pos:Pos}
def Px(c:TT)(tb:TS):TS:=λD σ H=>∃W:Nat->St->Hp->Prop,(∃m,W m σ H)/\∀m σ H,W m σ H ->
 c σ H λb H1=>if b=true then ∃N:St->Hp->Prop,(∀σ' H',N σ' H'->∃m',m'<m/\W m' σ' H')/\tb { D with nx:=N,ct:=N,bk:=D.nx } σ H1 else D.nx σ H1
def Hr{c:Expr}{body:List Stmt}{tc:TT}{tb:TS}(hp:PassesOwn (model X.prog X.w) X.A X.env X.xe)(hc:PT X c tc)(hb:PSs X body tb):PS X (.While c body [] pos) (Px tc tb):=by
 intro pins s σ H D I h
 obtain⟨W,⟨m0,w0⟩,turn⟩:=h
 refine wpAny_While (codeAny_whileLoop (λn s'=>∃σ' H',Inv X pins σ' H' s'/\W n σ' H') ?_ m0 ⟨σ,H,I,w0⟩)
 rintro n s1 ⟨σ1,H1,I1,w1⟩
 refine ž hp (thn (hc pins s1 σ1 H1 _ I1 (turn n σ1 H1 w1)) λb s2 ⟨H2,I2,q2⟩=>?_)
 cases b with
 |true =>
  obtain⟨N,hN,q2⟩:=q2
  rw[if_pos rfl]
  refine ž hp (thn (hb pins s2 σ1 H2 _ I2 q2) λf s3 q3=>?_)
  cases f with
  |next =>
   obtain⟨σ3,H3,I3,n3⟩:=q3
   obtain⟨m',hm,w3⟩:=hN σ3 H3 n3
   exact⟨m',hm,σ3,H3,I3,w3⟩
  |cont =>
   obtain⟨σ3,H3,I3,n3⟩:=q3
   obtain⟨m',hm,w3⟩:=hN σ3 H3 n3
   exact⟨m',hm,σ3,H3,I3,w3⟩
  |brk=>exact q3
  |ret v=>exact q3
 |false =>
  rw[if_neg Ò]
  exact wpAny_execs_nil ⟨σ1,H2,I2,q2⟩
end
structure It where
 go:Nat->Hp->Prop
 yld:Nat->Hp->V->Hp->Prop
 stop:Nat->Hp->Prop
def tG(X:Cx)(pins:List (Addr×Obj))(H:Hp)(b:Addr):Prop :=
 H b=none/\b≠X.env.locals/\b∉X.fs/\(b∈X.ex\/X.s₀.heap.objs.size<=b)/\(∀x c,X.env.cells.lookup x=some c->c≠b)/\∀p∈X.pn++pins,p.1≠b
def Inv.Ru{X:Cx}{pins:List (Addr×Obj)}{σ:St}{H H':Hp}{s:Shared}{b:Addr}(I:Inv X pins σ H s)(hb:s.heap.objs.size<=b)(hn:H' b=none):tG X pins H' b:=by
 refine⟨hn,Nat.ne_of_gt (æ I.lt hb),I.V2 hb,.inr (þ I.sz hb),λx c e z=>?_,λp hp z=>?_⟩
 ·obtain⟨v,q⟩:=I.cell x c e
  exact absurd (æ q.lt (by rw[z];exact hb)) (č _)
 ·exact absurd (æ (Ï (I.pin p hp).1) (by rw[z];exact hb)) (č _)
structure TurnG(Cm:Cx->Prop)(P:Program)(w:World)(K:Ú)(tg:Expr)(J:It)(fp:List Addr)(it:Addr)(tn:Nat->Heap->Prop):Prop where
 mem:it∈fp
 obj:∀i h,tn i h->∀b∈fp,∃o,h.get? b=some o/\∀v,o.data≠.cell v
 keep:∀i h h',tn i h->(∀b∈fp,∀o,h.get? b=some o->h'.get? b=some o)->tn i h'
 item:∀(X:Cx),X.prog=P->X.w=w->X.K=K->Cm X->∀(i:Nat) (pins:List (Addr×Obj)) (s:Shared) (σ:St) (H:Hp) (E:Value->Shared->Prop),Inv X pins σ H s->(∀b∈fp,tG X pins H b)->tn i s.heap->J.go i H ->
  wpAny (model P w) X.A (pyNext (.ref it)) (λr s1=>∃u,r=some u /\
   wpAny (model P w) X.A (letOwnedTupleGo tg (.ref it) u) (λ_ s2=>∃x H',Inv X pins σ H' s2/\RelV x u/\J.yld i H x H'/\tn (i+1) s2.heap/\∀b∈fp,H' b=none) E s1) E s
 done:∀(X:Cx),X.prog=P->X.w=w->X.K=K->Cm X->∀(i:Nat) (pins:List (Addr×Obj)) (s:Shared) (σ:St) (H:Hp) (E:Value->Shared->Prop),Inv X pins σ H s->(∀b∈fp,tG X pins H b)->tn i s.heap->J.stop i H ->
  wpAny (model P w) X.A (pyNext (.ref it)) (λr s1=>r=none/\Inv X pins σ H s1) E s
 self:∀(A:Around) (i:Nat) (s:Shared) (Q:Value->Shared->Prop) (E:Value->Shared->Prop),tn i s.heap->Q (.ref it) s->wpAny (model P w) A (pyIter (.ref it)) Q E s
abbrev Turn(P:Program)(w:World)(K:Ú)(tg:Expr)(J:It)(fp:List Addr)(it:Addr)(tn:Nat->Heap->Prop):Prop:=TurnG (λX=>X.calm=true) P w K tg J fp it tn
abbrev TI:=St->Hp->(It->Hp->Prop)->Prop
def Vn(Cm:Cx->Prop)(X:Cx)(pins:List (Addr×Obj))(σ:St)(tg:Expr)(R:It->Hp->Prop)(itv:Value)(s2:Shared):Prop :=
 ∃(it:Addr) (fp:List Addr) (tn:Nat->Heap->Prop) (J:It) (H':Hp),itv=.ref it/\Inv X pins σ H' s2/\TurnG Cm X.prog X.w X.K tg J fp it tn/\tn 0 s2.heap/\(∀b∈fp,tG X pins H' b)/\R J H'
def PIG(Cm:Cx->Prop)(X:Cx)(tg iter:Expr)(wi:TI):Prop :=
 ∀(pins:List (Addr×Obj)) (s:Shared) (σ:St) (H:Hp) (R:It->Hp->Prop),Inv X pins σ H s->wi σ H R ->
  wpAny (model X.prog X.w) X.A (eval iter X.env) (λv s1=>wpAny (model X.prog X.w) X.A (pyIter v) (Vn Cm X pins σ tg R) X.xe s1) X.xe s
abbrev PIE(X:Cx):=Vn (λX=>X.calm=true) X
abbrev PI(X:Cx):=PIG (λX=>X.calm=true) X
def JL{M:Model}{A:Around}{E:Value->Shared->Prop}{s:Shared}{tg:Expr}{it:Addr}{u:Value}{o:Obj}{n:String}{vs:Array Value}{Q:Unit->Shared->Prop}(ho:s.heap.get? it=some o)(hc:o.cls=.type n)(hd:o.data=.fields vs)(hn:["enumerate","zip","dict_itemiterator","dict_reverseitemiterator","odict_iterator","itertools.zip_longest","itertools.pairwise"].contains n=false)(hQ:Q () s):wpAny M A (letOwnedTupleGo tg (.ref it) u) Q E s:=by
 unfold letOwnedTupleGo
 cases tg <;> first
  |exact Ø hQ
  | (cases u <;> first
    |exact Ø hQ
    | (refine Ä (wpAny_load ho ?_)
       rw[hc,hd]
       show wpAny M A (if (["enumerate","zip","dict_itemiterator","dict_reverseitemiterator","odict_iterator","itertools.zip_longest","itertools.pairwise"].contains n&&vs[0]? == some (rawInt _))=true then _ else _) Q E s
       rw[if_neg (by intro h;rw[hn,Bool.false_and] at h;cases h)]
       exact Ø hQ))
def Itl(K:Ú)(a:Addr):It :=
 ⟨λi H=>∃xs x,SqL K H a xs/\xs[i]?=some x,λi H x H'=>H'=H/\∀xs,SqL K H a xs->xs[i]?=some x,λi H=>∃xs,SqL K H a xs/\xs.length<=i⟩
def Itt(K:Ú)(a:Addr):It :=
 ⟨λi H=>∃xs x,SqT K H a xs/\xs[i]?=some x,λi H x H'=>H'=H/\∀xs,SqT K H a xs->xs[i]?=some x,λi H=>∃xs,SqT K H a xs/\xs.length<=i⟩
def Itr(lo:Int)(n:Nat):It:=⟨λi _=>i<n,λi H x H'=>H'=H/\x=.int (lo+i),λi _=>n<=i⟩
def Ek{P:Program}{w:World}{K:Ú}{tg:Expr}(a it:Addr):Turn P w K tg (Itl K a) [it] it (λi h=>h.IsListIter it a i) where
 mem:=by simp
 obj:=λi h st b hb=>by
  have e:b=it:=by simpa using hb
  subst e
  obtain⟨o,e,c,d⟩:=st
  exact⟨o,e,λv z=>by rw[d] at z;cases z⟩
 keep:=λi h h' st k=>st.at λo e=>k it (by simp) o e
 item:=by
  intro X hP hw hK hc i pins s σ H E I hf st hg
  subst hP hw hK
  obtain⟨xs,x,hq,hx⟩:=hg
  obtain⟨its,rv,p,hz⟩:=I.list hq
  obtain⟨u,hu,ru⟩:=rv.get hx
  obtain⟨f0,f1,f2,f3,f4,f5⟩:=hf it (by simp)
  refine wpAny_pyNext_list_item st p.isList (x:=u) (by simpa using hu) λh' st' sb=>?_
  have I1:Inv X pins σ H { s with heap:=h' }:=I.turned (t':=s.toks) (λb o hb e=>(sb.2 b hb).trans e) f0 f1 f3 f4 f5
  obtain⟨o,e,c,d⟩:=id st'
  exact⟨u,rfl,JL (s:={ s with heap:=h' }) e c d (by decide) ⟨x,H,I1,ru,⟨rfl,λys hy=>by rw[I.Jv hy hq];exact hx⟩,st',λb hb=>(hf b hb).1⟩⟩
 done:=by
  intro X hP hw hK hc i pins s σ H E I hf st hg
  subst hP hw hK
  obtain⟨xs,hq,hx⟩:=hg
  obtain⟨its,rv,p,hz⟩:=I.list hq
  obtain⟨f0,f1,f2,f3,f4,f5⟩:=hf it (by simp)
  have hl:=rv.length
  exact wpAny_pyNext_list_end (I.ok.hd hc) st p.isList (by simp;omega) λh' eb=>⟨rfl,I.turned (t':=s.toks) (λb o hb e=>eb b o hb e) f0 f1 f3 f4 f5⟩
 self:=λ_ _ _ _ _ st h=>wpAny_pyIter_listiter st h
def zN{P:Program}{w:World}{K:Ú}{tg:Expr}(a it:Addr):Turn P w K tg (Itt K a) [it] it (λi h=>h.IsTupleIter it a i) where
 mem:=by simp
 obj:=λi h st b hb=>by
  have e:b=it:=by simpa using hb
  subst e
  obtain⟨o,e,c,d⟩:=st
  exact⟨o,e,λv z=>by rw[d] at z;cases z⟩
 keep:=λi h h' st k=>st.at λo e=>k it (by simp) o e
 item:=by
  intro X hP hw hK hc i pins s σ H E I hf st hg
  subst hP hw hK
  obtain⟨xs,x,hq,hx⟩:=hg
  obtain⟨its,rv,p,hz⟩:=I.tuple hq
  obtain⟨u,hu,ru⟩:=rv.get hx
  obtain⟨f0,f1,f2,f3,f4,f5⟩:=hf it (by simp)
  refine wpAny_pyNext_tuple_item st (show s.heap.IsTuple a its.toArray from p) (x:=u) (by simpa using hu) λh' st' sb=>?_
  have I1:Inv X pins σ H { s with heap:=h' }:=I.turned (t':=s.toks) (λb o hb e=>(sb.2 b hb).trans e) f0 f1 f3 f4 f5
  obtain⟨o,e,c,d⟩:=id st'
  exact⟨u,rfl,JL (s:={ s with heap:=h' }) e c d (by decide) ⟨x,H,I1,ru,⟨rfl,λys hy=>by rw[I.El hy hq];exact hx⟩,st',λb hb=>(hf b hb).1⟩⟩
 done:=by
  intro X hP hw hK hc i pins s σ H E I hf st hg
  subst hP hw hK
  obtain⟨xs,hq,hx⟩:=hg
  obtain⟨its,rv,p,hz⟩:=I.tuple hq
  obtain⟨f0,f1,f2,f3,f4,f5⟩:=hf it (by simp)
  have hl:=rv.length
  exact wpAny_pyNext_tuple_end (I.ok.hd hc) st (show s.heap.IsTuple a its.toArray from p) (by simp;omega) λh' eb=>⟨rfl,I.turned (t':=s.toks) (λb o hb e=>eb b o hb e) f0 f1 f3 f4 f5⟩
 self:=λ_ _ _ _ _ st h=>wpAny_pyIter_tupleiter st h
def zO{P:Program}{w:World}{K:Ú}{tg:Expr}(it:Addr)(lo:Int)(n:Nat):Turn P w K tg (Itr lo n) [it] it (λi h=>IsRangeIter h it (lo+(i:Nat) * 1) ((n:Int) - (i:Nat)) 1) where
 mem:=by simp
 obj:=λi h st b hb=>by
  have e:b=it:=by simpa using hb
  subst e
  exact⟨_,st,λv z=>by
   have z':Data.fields _=Data.cell v:=z
   cases z'⟩
 keep:=λi h h' st k=>k it (by simp) _ st
 item:=by
  intro X hP hw hK hc i pins s σ H E I hf st hg
  subst hP hw hK
  obtain⟨f0,f1,f2,f3,f4,f5⟩:=hf it (by simp)
  have W:=Walks.range (prog:=X.prog) (w:=X.w) (I.ok.hd hc) it lo 1 n
  refine W.item i s _ _ hg st λv h' tk hv st' kk=>?_
  obtain⟨t,rfl⟩:=hv
  have I1:Inv X pins σ H { s with heap:=h',toks:=tk }:=I.turned (λb o hb e=>kk b o (by simpa using hb) e) f0 f1 f3 f4 f5
  refine⟨_,rfl,JL (s:={ s with heap:=h',toks:=tk }) (n:="range_iterator") st' rfl rfl (by decide) ⟨.int (lo+i),H,I1,⟨t,?_⟩,⟨rfl,rfl⟩,st',λb hb=>(hf b hb).1⟩⟩
  rw[Int.mul_one]
 done:=by
  intro X hP hw hK hc i pins s σ H E I hf st hg
  subst hP hw hK
  obtain⟨f0,f1,f2,f3,f4,f5⟩:=hf it (by simp)
  exact wpAny_pyNext_range_end (I.ok.hd hc) st (by have:n<=i:=hg;omega) λh' eb=>⟨rfl,I.turned (t':=s.toks) (λb o hb e=>eb b o hb e) f0 f1 f3 f4 f5⟩
 self:=λ_ _ _ _ _ st h=>wpAny_pyIter_rangeiter st h
section
variable {X:Cx}{tg:Expr}
def yt{pins:List (Addr×Obj)}{σ:St}{H:Hp}{s:Shared}{R:It->Hp->Prop}{E:Value->Shared->Prop}{lo hi:Int}{t u v:Tok}{tk:Nat}(I:Inv X pins σ H s)(h1:-(2 ^ 62)<=lo)(h2:lo<2 ^ 62)(h3:-(2 ^ 62)<=hi)(h4:hi<2 ^ 62)(q:R (Itr lo (hi - lo).toNat) H):wpAny (model X.prog X.w) X.A (pyIter (.ref s.heap.objs.size)) (PIE X pins σ tg R) E { s with heap:=s.heap.push { cls:=.type "range",data:=.fields #[.int lo t,.int hi u,.int 1 v] },toks:=tk }:=by
 refine wpAny_pyIter_range (IsRange.new ..) (small_one h1 h2 h3 h4) ?_
 have I1:Inv X pins σ H { s with heap:=s.heap.push { cls:=.type "range",data:=.fields #[.int lo t,.int hi u,.int 1 v] },toks:=tk }:=I.kept λb o e=>Ó _ e
 refine⟨(s.heap.push { cls:=.type "range",data:=.fields #[.int lo t,.int hi u,.int 1 v] }).objs.size,[(s.heap.push { cls:=.type "range",data:=.fields #[.int lo t,.int hi u,.int 1 v] }).objs.size],_,_,H,rfl,
  I1.kept (t':=tk) λb o e=>Ó _ e,zO _ lo (hi - lo).toNat,?_,λb hb=>?_,q⟩
 ·have e1:lo+((0:Nat):Int) * 1=lo:=by simp
  have e2:(((hi - lo).toNat:Nat):Int) - ((0:Nat):Int)=Builtin.Range.rangeSize lo hi 1:=by rw[rangeSize_one];split <;> omega
  show IsRangeIter _ _ (lo+((0:Nat):Int) * 1) ((((hi - lo).toNat:Nat):Int) - ((0:Nat):Int)) 1
  rw[e1,e2]
  exact ä _ rfl
 ·have e:b=(s.heap.push { cls:=.type "range",data:=.fields #[.int lo t,.int hi u,.int 1 v] }).objs.size:=by simpa using hb
  subst e
  exact I1.Ru (Ì _) (I1.hok.fresh (Ì _))
def Uq(ta:TA):TI:=λσ H R=>ta σ H λvs H1=>∃j:Int,vs=[.int j]/\-(2 ^ 62)<=j/\j<2 ^ 62/\R (Itr 0 j.toNat) H1
def Uo(ta:TA):TI:=λσ H R=>ta σ H λvs H1=>∃i j:Int,vs=[.int i,.int j]/\(-(2 ^ 62)<=i/\i<2 ^ 62/\-(2 ^ 62)<=j/\j<2 ^ 62)/\R (Itr i (j - i).toNat) H1
def j6{a:Expr}{ta:TA}{p pos:Pos}(hg:Gl X "range")(hm:X.mg "range"=none)(ha:PA X [a] ta)(hs:starEach [a] X.env=[(false,eval a X.env)]:=by rfl):PI X tg (.Call (.Name "range" p) [a] [] pos) (Uq ta):=by
 intro pins s σ H R I h
 refine Call_ (jK I hg hm boot_range (Ň (thn (ha pos pins s σ H _ I h) λus s1 ⟨vs,H1,I1,r1,q1⟩=>?_) hs rfl))
 obtain⟨j,e,q1,q2,q⟩:=q1
 subst e
 cases r1 with
 |cons r rr =>
  cases rr
  obtain⟨t,rfl⟩:=r
  exact call_range_1 (yt I1 (by omega) (by omega) q1 q2 (by simpa using q))
def Ew{a b:Expr}{ta:TA}{p pos:Pos}(hg:Gl X "range")(hm:X.mg "range"=none)(ha:PA X [a,b] ta)(hs:starEach [a,b] X.env=[(false,eval a X.env),(false,eval b X.env)]:=by rfl)(hs2:starEach [b] X.env=[(false,eval b X.env)]:=by rfl) :
  PI X tg (.Call (.Name "range" p) [a,b] [] pos) (Uo ta):=by
 intro pins s σ H R I h
 refine Call_ (jK I hg hm boot_range (Ň (thn (ha pos pins s σ H _ I h) λus s1 ⟨vs,H1,I1,r1,q1⟩=>?_) (by rw[hs,hs2]) (by rw[hs2];rfl)))
 obtain⟨i,j,e,⟨q1,q2,q3,q4⟩,q⟩:=q1
 subst e
 cases r1 with
 |cons r rr =>
  cases rr with
  |cons r' rr =>
   cases rr
   obtain⟨t,rfl⟩:=r
   obtain⟨t',rfl⟩:=r'
   exact call_range_2 (yt I1 q1 q2 q3 q4 q)
def Vz(wi:TI)(g:TG)(tb:TS):TS:=λD σ H=>wi σ H λJ H1=>∃W:Nat->Nat->St->Hp->Prop,(∃m,W 0 m σ H1)/\∀i m σ H,W i m σ H ->
 (J.stop i H/\D.nx σ H)\/(J.go i H/\∃N:St->Hp->Prop,(∀σ' H',N σ' H'->∃m',m'<m/\W (i+1) m' σ' H')/\∀x H',J.yld i H x H'->g x σ H' λσ2 H2=>tb { D with nx:=N,ct:=N,bk:=D.nx } σ2 H2)
def jz(fp:List Addr)(h:Heap):List (Addr×Obj):=fp.filterMap λb=>(h.get? b).map λo=>(b,o)
def iU{fp:List Addr}{h:Heap}{b:Addr}{o:Obj}(hb:b∈fp)(e:h.get? b=some o):(b,o)∈jz fp h:=œ.mpr ⟨b,hb,by rw[e];rfl⟩
def uH{fp:List Addr}{h:Heap}{p:Addr×Obj}(hp:p∈jz fp h):p.1∈fp/\h.get? p.1=some p.2:=by
 obtain⟨b,hb,e⟩:=œ.mp hp
 cases q:h.get? b with
 |none=>rw[q] at e;cases e
 |some o =>
  rw[q] at e
  have e':(b,o)=p:=á e
  subst e'
  exact⟨hb,q⟩
def Inv.pinned{pins:List (Addr×Obj)}{σ:St}{H:Hp}{s:Shared}{fp:List Addr}(I:Inv X pins σ H s)(hf:∀b∈fp,tG X pins H b)(ho:∀b∈fp,∃o,s.heap.get? b=some o/\∀v,o.data≠.cell v):Inv X (pins++jz fp s.heap) σ H s :=
 I.qy λp hp=>(å.mp hp).elim (λz=>I.pin p (ì _ z)) λz=>by
  obtain⟨hb,e⟩:=uH z
  obtain⟨f0,f1,f2,_⟩:=hf p.1 hb
  obtain⟨o,e',d⟩:=ho p.1 hb
  rw[e] at e';cases e'
  exact⟨e,f0,f1,f2,d⟩
def Inv.mj{pins pl:List (Addr×Obj)}{σ:St}{H:Hp}{s:Shared}(I:Inv X (pins++pl) σ H s):Inv X pins σ H s:=I.qy λp hp=>I.pin p (ì _ (ī _ hp))
def oX{iter:Expr}{body:List Stmt}{wi:TI}{g:TG}{tb:TS}{pos:Pos}(hp:PassesOwn (model X.prog X.w) X.A X.env X.xe)(hc:X.calm=true)(hi:PI X tg iter wi)(hg:PG X tg g)(hb:PSs X body tb)(hs:∀x,foldedSetIterable iter X.env x=pure x:=by intro _;rfl):PS X (.For tg iter body [] pos) (Vz wi g tb):=by
 intro pins s σ H D I h
 refine wpAny_For (thn (hi pins s σ H _ I h) λv s1 h1=>thn h1 λitv s2 h2=>?_) hs
 obtain⟨it,fp,tn,J,H2,e,I2,T,st2,f2,W,⟨m0,w0⟩,turn⟩:=h2
 subst e
 -- what stays true of the iterator's objects through the loop
 have stat:∀{H':Hp},(∀b∈fp,H' b=none)->∀b∈fp,tG X pins H' b:=λhn b hb=>⟨hn b hb,(f2 b hb).2⟩
 refine codeAny_forLoop_any (λn s'=>∃i σ' H',Inv X pins σ' H' s'/\tn i s'.heap/\(∀b∈fp,H' b=none)/\W i n σ' H') ?_ m0 ⟨0,σ,H2,I2,st2,λb hb=>(f2 b hb).1,w0⟩
 rintro n s3 ⟨i,σ3,H3,I3,st3,fr3,w3⟩
 rcases turn i n σ3 H3 w3 with ⟨stop,qn⟩|⟨go,N,hN,step⟩
 ·refine ž hp (thn (T.done X rfl rfl rfl hc i pins s3 σ3 H3 X.xe I3 (stat fr3) st3 stop) λr s4 ⟨hr,I4⟩=>?_)
  subst hr
  exact wpAny_execs_nil ⟨σ3,H3,I4,qn⟩
 ·refine ž hp (thn (T.item X rfl rfl rfl hc i pins s3 σ3 H3 X.xe I3 (stat fr3) st3 go) λr s4 ⟨u,hr,h4⟩=>?_)
  subst hr
  refine ž hp (thn h4 λ_ s5 ⟨x,H5,I5,r5,y5,st5,fr5⟩=>?_)
  have I5':=I5.pinned (stat fr5) (T.obj _ _ st5)
  refine ž hp (thn (hg _ s5 σ3 H5 x u _ I5' r5 (step x H5 y5)) λ_ s6 ⟨σ6,H6,I6,q6⟩=>?_)
  refine ž hp (thn (hb _ s6 σ6 H6 _ I6 q6) λf s7 q7=>?_)
  have again:∀{σ7:St}{H7:Hp},Inv X (pins++jz fp s5.heap) σ7 H7 s7->N σ7 H7->∃m,m<n/\∃i σ' H',Inv X pins σ' H' s7/\tn i s7.heap/\(∀b∈fp,H' b=none)/\W i m σ' H':=λ{σ7 H7} I7 n7=>by
   obtain⟨m',hm,w7⟩:=hN σ7 H7 n7
   refine⟨m',hm,i+1,σ7,H7,I7.mj,T.keep _ _ _ st5 λb hb o e=>(I7.pin (b,o) (ì _ (ì _ (iU hb e)))).1,λb hb=>?_,w7⟩
   obtain⟨o,e,d⟩:=T.obj _ _ st5 b hb
   exact(I7.pin (b,o) (ì _ (ì _ (iU hb e)))).2.1
  cases f with
  |next=>obtain⟨σ7,H7,I7,n7⟩:=q7;exact again I7 n7
  |cont=>obtain⟨σ7,H7,I7,n7⟩:=q7;exact again I7 n7
  |brk=>obtain⟨σ7,H7,I7,q7⟩:=q7;exact⟨σ7,H7,I7.mj,q7⟩
  |ret v=>obtain⟨x7,σ7,H7,I7,r7,q7⟩:=q7;exact⟨x7,σ7,H7,I7.mj,r7,q7⟩
end
def JR{K:Ú}{a:Addr}{xs:List V}{g:TG}{tb:TS}{D:Ends}{σ:St}{H:Hp}(Pv:Nat->St->Hp->Prop)(h0:Pv 0 σ H)(hl:∀i σ H,i<=xs.length->Pv i σ H->SqL K H a xs)(hs:∀i x σ H,xs[i]?=some x->Pv i σ H->g x σ H λσ2 H2=>tb { D with nx:=Pv (i+1),ct:=Pv (i+1),bk:=D.nx } σ2 H2)(hd:∀σ H,Pv xs.length σ H->D.nx σ H) :
  ∃W:Nat->Nat->St->Hp->Prop,(∃m,W 0 m σ H)/\∀i m σ H,W i m σ H ->
   ((Itl K a).stop i H/\D.nx σ H)\/((Itl K a).go i H/\∃N:St->Hp->Prop,(∀σ' H',N σ' H'->∃m',m'<m/\W (i+1) m' σ' H')/\∀x H',(Itl K a).yld i H x H'->g x σ H' λσ2 H2=>tb { D with nx:=N,ct:=N,bk:=D.nx } σ2 H2):=by
 refine⟨λi m σ H=>m=xs.length - i/\i<=xs.length/\Pv i σ H,⟨xs.length,by simp,ÿ _,h0⟩,?_⟩
 rintro i m σ H ⟨rfl,hi,p⟩
 have q:=hl i σ H hi p
 by_cases hlt:i<xs.length
 ·refine .inr ⟨⟨xs,xs[i],q,by simp[hlt]⟩,Pv (i+1),λσ' H' p'=>⟨xs.length - (i+1),by omega,rfl,hlt,p'⟩,λx H' y=>?_⟩
  obtain⟨e,y⟩:=y
  subst e
  exact hs i x σ _ (y xs q) p
 ·have e:i=xs.length:=by omega
  subst e
  exact .inl ⟨⟨xs,q,Ì _⟩,hd σ H p⟩
def kI{lo:Int}{n:Nat}{g:TG}{tb:TS}{D:Ends}{σ:St}{H:Hp}(Pv:Nat->St->Hp->Prop)(h0:Pv 0 σ H)(hs:∀i σ H,i<n->Pv i σ H->g (.int (lo+i)) σ H λσ2 H2=>tb { D with nx:=Pv (i+1),ct:=Pv (i+1),bk:=D.nx } σ2 H2)(hd:∀σ H,Pv n σ H->D.nx σ H) :
  ∃W:Nat->Nat->St->Hp->Prop,(∃m,W 0 m σ H)/\∀i m σ H,W i m σ H ->
   ((Itr lo n).stop i H/\D.nx σ H)\/((Itr lo n).go i H/\∃N:St->Hp->Prop,(∀σ' H',N σ' H'->∃m',m'<m/\W (i+1) m' σ' H')/\∀x H',(Itr lo n).yld i H x H'->g x σ H' λσ2 H2=>tb { D with nx:=N,ct:=N,bk:=D.nx } σ2 H2):=by
 refine⟨λi m σ H=>m=n - i/\i<=n/\Pv i σ H,⟨n,by simp,ÿ _,h0⟩,?_⟩
 rintro i m σ H ⟨rfl,hi,p⟩
 by_cases hlt:i<n
 ·refine .inr ⟨hlt,Pv (i+1),λσ' H' p'=>⟨n - (i+1),by omega,rfl,hlt,p'⟩,λx H' y=>?_⟩
  obtain⟨e,y⟩:=y
  subst e y
  exact hs i σ _ hlt p
 ·have e:i=n:=by omega
  subst e
  exact .inl ⟨Ì _,hd σ H p⟩
abbrev R2:=V->V->Hp->VK->Prop
def OpR(X:Cx)(f:Value->Value->Sem Value)(r:R2):Prop :=
 ∀(pins:List (Addr×Obj)) (s:Shared) (σ:St) (H:Hp) (x y:V) (v u:Value) (Q:VK),Inv X pins σ H s->RelV x v->RelV y u->r x y H Q ->
  wpAny (model X.prog X.w) X.A (f v u) (EP X pins σ Q) X.xe s
def UnR(X:Cx)(f:Value->Sem Value)(r:V->Hp->VK->Prop):Prop :=
 ∀(pins:List (Addr×Obj)) (s:Shared) (σ:St) (H:Hp) (x:V) (v:Value) (Q:VK),Inv X pins σ H s->RelV x v->r x H Q ->
  wpAny (model X.prog X.w) X.A (f v) (EP X pins σ Q) X.xe s
def bI(X:Cx)(f:Value)(r:List V->Hp->VK->Prop):Prop :=
 ∀(pins:List (Addr×Obj)) (s:Shared) (σ:St) (H:Hp) (xs:List V) (us:List Value) (Q:VK),Inv X pins σ H s->Vals xs us->r xs H Q ->
  wpAny (model X.prog X.w) X.A (call f us) (EP X pins σ Q) X.xe s
def tOp(r:R2)(ta tb:TE):TE:=λσ H Q=>ta σ H λx H1=>tb σ H1 λy H2=>r x y H2 Q
def tUn(r:V->Hp->VK->Prop)(ta:TE):TE:=λσ H Q=>ta σ H λx H1=>r x H1 Q
def rI(C:Int->Int->Prop)(g:Int->Int->V):R2:=λx y H Q=>∃i j,x=.int i/\y=.int j/\C i j/\Q (g i j) H
def rI0(g:Int->Int->V):R2:=λx y H Q=>∃i j,x=.int i/\y=.int j/\Q (g i j) H
def rU(g:Int->V):V->Hp->VK->Prop:=λx H Q=>∃i,x=.int i/\Q (g i) H
section
variable {X:Cx}{a b c:Expr}{ta tb tc:TE}{pos:Pos}
def RZ(ha:PE X a ta)(hb:PE X b tb){pins:List (Addr×Obj)}{s:Shared}{σ:St}{H:Hp}{R:V->V->Hp->Prop}(I:Inv X pins σ H s)(h:ta σ H λx H1=>tb σ H1 λy H2=>R x y H2){Q:Value->Shared->Prop}{f:Value->Value->Sem Value}(hf:∀v u s2 x y H2,Inv X pins σ H2 s2->RelV x v->RelV y u->R x y H2->wpAny (model X.prog X.w) X.A (f v u) Q X.xe s2) :
  wpAny (model X.prog X.w) X.A (eval a X.env) (λv s₁=>wpAny (model X.prog X.w) X.A (eval b X.env) (λu s₂=>wpAny (model X.prog X.w) X.A (f v u) Q X.xe s₂) X.xe s₁) X.xe s:=by
 refine thn (ha pins s σ H _ I h) λv s1 ⟨x,H1,I1,r1,q1⟩=>?_
 refine thn (hb pins s1 σ H1 _ I1 q1) λu s2 ⟨y,H2,I2,r2,q2⟩=>?_
 exact hf v u s2 x y H2 I2 r1 r2 q2
def bV{op:Operator}{r:R2}(ho:OpR X (binaryOp op) r)(ha:PE X a ta)(hb:PE X b tb):PE X (.BinOp a op b pos) (tOp r ta tb):=by
 intro pins s σ H Q I h
 exact wpAny_BinOp (RZ ha hb I h λv u s2 x y H2 I2 rx ry q=>ho pins s2 σ H2 x y v u Q I2 rx ry q)
def NQ{op:UnaryOp}{r:V->Hp->VK->Prop}(ho:UnR X (unaryOp op) r)(ha:PE X a ta):PE X (.UnaryOp op a pos) (tUn r ta):=by
 intro pins s σ H Q I h
 exact UnaryOp_ (thn (ha pins s σ H _ I h) λv s1 ⟨x,H1,I1,r1,q1⟩=>ho pins s1 σ H1 x v Q I1 r1 q1)
def opI{f:Value->Value->Sem Value}{C:Int->Int->Prop}{g:Int->Int->Int}(rule:∀(i j:Int) (t u:Tok) (s:Shared) (Q:Value->Shared->Prop) (E:Value->Shared->Prop),C i j->Q (.int (g i j) s.toks) { s with toks:=s.toks+1 }->wpAny (model X.prog X.w) X.A (f (.int i t) (.int j u)) Q E s) :
  OpR X f (rI C λi j=>.int (g i j)):=by
 intro pins s σ H x y v u Q I rx ry h
 obtain⟨i,j,rfl,rfl,hc,q⟩:=h
 obtain⟨t,rfl⟩:=rx
 obtain⟨t',rfl⟩:=ry
 exact rule i j t t' s _ _ hc ⟨.int (g i j),H,I.tok _,⟨_,rfl⟩,q⟩
def QB{f:Value->Value->Sem Value}{g:Int->Int->Int}(rule:∀(i j:Int) (t u:Tok) (s:Shared) (Q:Value->Shared->Prop) (E:Value->Shared->Prop),Q (.int (g i j) s.toks) { s with toks:=s.toks+1 }->wpAny (model X.prog X.w) X.A (f (.int i t) (.int j u)) Q E s) :
  OpR X f (rI0 λi j=>.int (g i j)):=by
 intro pins s σ H x y v u Q I rx ry h
 obtain⟨i,j,rfl,rfl,q⟩:=h
 obtain⟨t,rfl⟩:=rx
 obtain⟨t',rfl⟩:=ry
 exact rule i j t t' s _ _ ⟨.int (g i j),H,I.tok _,⟨_,rfl⟩,q⟩
def Lx{f:Value->Value->Sem Value}{g:Int->Int->Bool}(rule:∀(i j:Int) (t u:Tok) (s:Shared) (Q:Value->Shared->Prop) (E:Value->Shared->Prop),Q (.bool (g i j)) s->wpAny (model X.prog X.w) X.A (f (.int i t) (.int j u)) Q E s) :
  OpR X f (rI0 λi j=>.bl (g i j)):=by
 intro pins s σ H x y v u Q I rx ry h
 obtain⟨i,j,rfl,rfl,q⟩:=h
 obtain⟨t,rfl⟩:=rx
 obtain⟨t',rfl⟩:=ry
 exact rule i j t t' s _ _ ⟨.bl (g i j),H,I,rfl,q⟩
def Vq(i j:Int):Prop:=0<j/\j<1073741824
def Wq(i j:Int):Prop:=0<=j/\j<=1000000/\i.natAbs<2 ^ 64
def KN(i j:Int):Prop:=(-(2 ^ 64)<i/\i<2 ^ 64)\/(-(2 ^ 64)<j/\j<2 ^ 64)
def KN.ok{i j:Int}(h:KN i j):IntMulOk i j:=by
 rcases h with ⟨h1,h2⟩|⟨h1,h2⟩
 ·exact .of_left (intBits_le_64 h1 h2)
 ·exact .of_right (intBits_le_64 h1 h2)
def iT:OpR X (binaryOp .Add) (rI0 λi j=>.int (i+j)):=QB λ_ _ _ _ _ _ _ q=>add_int q
def Qy:OpR X (binaryOp .Sub) (rI0 λi j=>.int (i - j)):=QB λ_ _ _ _ _ _ _ q=>sub_int q
def lU:OpR X (binaryOp .Mult) (rI KN λi j=>.int (i * j)):=opI λ_ _ _ _ _ _ _ hc q=>mul_int q hc.ok
def wg:OpR X (binaryOp .FloorDiv) (rI Vq λi j=>.int (i / j)):=opI λi j _ _ _ _ _ hc q=>by
 have h1:(0:Int)<j:=hc.1
 have h2:j<1073741824:=hc.2
 exact floordiv_int (by omega) (by rw[Int.fdiv_eq_ediv_of_nonneg i (by omega)];exact q) (.inl (PyProof.noPylong_small (by omega)))
def iR:OpR X (binaryOp .Mod) (rI (λ_ j=>0<j) λi j=>.int (i % j)):=opI λi j _ _ _ _ _ hc q=>by
 have h1:(0:Int)<j:=hc
 exact mod_int' (by omega) (by rw[Int.fmod_eq_emod_of_nonneg i (by omega)];exact q)
def Iu:OpR X (binaryOp .Pow) (rI Wq λi j=>.int (i ^ j.toNat)):=opI λ_ _ _ _ _ _ _ hc q=>pow_int_small hc.1 hc.2.1 hc.2.2 q
def Qz:OpR X (binaryOp .BitAnd) (rI0 λi j=>.int (Builtin.bitAnd i j)):=QB λ_ _ _ _ _ _ _ q=>and_int q
def unI{f:Value->Sem Value}{g:Int->Int}(rule:∀(i:Int) (t:Tok) (s:Shared) (Q:Value->Shared->Prop) (E:Value->Shared->Prop),Q (.int (g i) s.toks) { s with toks:=s.toks+1 }->wpAny (model X.prog X.w) X.A (f (.int i t)) Q E s) :
  UnR X f (rU λi=>.int (g i)):=by
 intro pins s σ H x v Q I rx h
 obtain⟨i,rfl,q⟩:=h
 obtain⟨t,rfl⟩:=rx
 exact rule i t s _ _ ⟨.int (g i),H,I.tok _,⟨_,rfl⟩,q⟩
def GJ:UnR X (unaryOp .USub) (rU λi=>.int (-i)):=unI λ_ _ _ _ _ q=>neg_int q
end
def S5:V->V->Bool
 |.non,.non=>true|.non,.int _=>true|.int _,.non=>true|.non,.bl _=>true|.bl _,.non=>true|.non,.str _=>true|.str _,.non=>true
 |.int _,.int _=>true|.bl _,.bl _=>true|.str _,.str _=>true|.byt _,.byt _=>true
 |.int _,.str _=>true|.str _,.int _=>true|.bl _,.str _=>true|.str _,.bl _=>true
 |_,_=>false
def rEq:R2:=λx y H Q=>S5 x y=true/\Q (.bl (decide (x=y))) H
def rNe:R2:=λx y H Q=>S5 x y=true/\Q (.bl (!decide (x=y))) H
def DY{i j:Int}:decide (V.int i=V.int j)=(i == j):=by
 rw[ġ]
 simp
def Kh{i j:Bool}:decide (V.bl i=V.bl j)=(i == j):=by
 rw[ġ]
 simp
def DX{i j:Str}:decide (V.str i=V.str j)=(i == j):=by
 rw[ġ]
 simp
def Ea{i j:Array UInt8}:decide (V.byt i=V.byt j)=(i.toList == j.toList):=by
 rw[ġ]
 cases i
 cases j
 simp
section
variable {X:Cx}{a b c:Expr}{ta tb tc:TE}{pos:Pos}
def aO{pins:List (Addr×Obj)}{σ:St}{H:Hp}{s:Shared}{Q:VK}{k k':Bool}(I:Inv X pins σ H s)(q:Q (.bl k) H)(e:k=k'):EP X pins σ Q (.bool k') s:=by
 subst e
 exact⟨.bl k,H,I,rfl,q⟩
def uG:OpR X (compareOp .Eq) rEq:=by
 intro pins s σ H x y v u Q I rx ry h
 obtain⟨hs,q⟩:=h
 cases x with
 |non =>
  cases rx
  cases y with
  |non=>cases ry;exact PySem.EqNone.eq_none_none (aO I q (by simp))
  |bl j=>cases ry;exact PySem.EqNone.eq_none_bool (aO I q (by simp))
  |int j=>obtain⟨t',rfl⟩:=ry;exact PySem.EqNone.eq_none_int (aO I q (by simp))
  |str j=>obtain⟨t',rfl⟩:=ry;exact PySem.EqNone.eq_none_str (aO I q (by simp))
  |_=>exact absurd (show false=true from hs) Ò
 |bl i =>
  cases rx
  cases y with
  |non=>cases ry;exact PySem.EqNone.eq_bool_none (aO I q (by simp))
  |bl j=>cases ry;exact eq_bool (aO I q Kh)
  |str j=>obtain⟨t',rfl⟩:=ry;exact PySem.EqMixed.eq_bool_str (aO I q (by simp))
  |_=>exact absurd (show false=true from hs) Ò
 |int i =>
  obtain⟨t,rfl⟩:=rx
  cases y with
  |non=>cases ry;exact PySem.EqNone.eq_int_none (aO I q (by simp))
  |int j=>obtain⟨t',rfl⟩:=ry;exact eq_int (aO I q DY)
  |str j=>obtain⟨t',rfl⟩:=ry;exact PySem.EqMixed.eq_int_str (aO I q (by simp))
  |_=>exact absurd (show false=true from hs) Ò
 |str i =>
  obtain⟨t,rfl⟩:=rx
  cases y with
  |non=>cases ry;exact PySem.EqNone.eq_str_none (aO I q (by simp))
  |bl j=>cases ry;exact PySem.EqMixed.eq_str_bool (aO I q (by simp))
  |int j=>obtain⟨t',rfl⟩:=ry;exact PySem.EqMixed.eq_str_int (aO I q (by simp))
  |str j=>obtain⟨t',rfl⟩:=ry;exact eq_str (aO I q DX)
  |_=>exact absurd (show false=true from hs) Ò
 |byt i =>
  obtain⟨t,rfl⟩:=rx
  cases y with
  |byt j=>obtain⟨t',rfl⟩:=ry;exact W.eq_bytes (aO I q Ea)
  |_=>exact absurd (show false=true from hs) Ò
 |_=>cases y <;> exact absurd (show false=true from hs) Ò
def CZ:OpR X (compareOp .NotEq) rNe:=by
 intro pins s σ H x y v u Q I rx ry h
 obtain⟨hs,q⟩:=h
 cases x with
 |non =>
  cases rx
  cases y with
  |non=>cases ry;exact PySem.EqNone.ne_none_none (aO I q (by simp))
  |bl j=>cases ry;exact PySem.EqNone.ne_none_bool (aO I q (by simp))
  |int j=>obtain⟨t',rfl⟩:=ry;exact PySem.EqNone.ne_none_int (aO I q (by simp))
  |str j=>obtain⟨t',rfl⟩:=ry;exact PySem.EqNone.ne_none_str (aO I q (by simp))
  |_=>exact absurd (show false=true from hs) Ò
 |bl i =>
  cases rx
  cases y with
  |non=>cases ry;exact PySem.EqNone.ne_bool_none (aO I q (by simp))
  |bl j=>cases ry;exact ne_bool (aO I q (congrArg not Kh))
  |str j=>obtain⟨t',rfl⟩:=ry;exact PySem.EqMixed.ne_bool_str (aO I q (by simp))
  |_=>exact absurd (show false=true from hs) Ò
 |int i =>
  obtain⟨t,rfl⟩:=rx
  cases y with
  |non=>cases ry;exact PySem.EqNone.ne_int_none (aO I q (by simp))
  |int j=>obtain⟨t',rfl⟩:=ry;exact ne_int (aO I q (congrArg not DY))
  |str j=>obtain⟨t',rfl⟩:=ry;exact PySem.EqMixed.ne_int_str (aO I q (by simp))
  |_=>exact absurd (show false=true from hs) Ò
 |str i =>
  obtain⟨t,rfl⟩:=rx
  cases y with
  |non=>cases ry;exact PySem.EqNone.ne_str_none (aO I q (by simp))
  |bl j=>cases ry;exact PySem.EqMixed.ne_str_bool (aO I q (by simp))
  |int j=>obtain⟨t',rfl⟩:=ry;exact PySem.EqMixed.ne_str_int (aO I q (by simp))
  |str j=>obtain⟨t',rfl⟩:=ry;exact ne_str (aO I q (congrArg not DX))
  |_=>exact absurd (show false=true from hs) Ò
 |byt i =>
  obtain⟨t,rfl⟩:=rx
  cases y with
  |byt j=>obtain⟨t',rfl⟩:=ry;exact W.ne_bytes (aO I q (congrArg not Ea))
  |_=>exact absurd (show false=true from hs) Ò
 |_=>cases y <;> exact absurd (show false=true from hs) Ò
def uF:OpR X (compareOp .Lt) (rI0 λi j=>.bl (decide (i<j))):=Lx λ_ _ _ _ _ _ _ q=>lt_int q
def NZ:OpR X (compareOp .LtE) (rI0 λi j=>.bl (decide (i<=j))):=Lx λ_ _ _ _ _ _ _ q=>le_int q
def N5:OpR X (compareOp .Gt) (rI0 λi j=>.bl (decide (j<i))):=Lx λ_ _ _ _ _ _ _ q=>gt_int q
def IV:OpR X (compareOp .GtE) (rI0 λi j=>.bl (decide (j<=i))):=Lx λ_ _ _ _ _ _ _ q=>ge_int q
def bM(b:Expr){op:CmpOp}(h:op≠.In:=by decide)(h2:op≠.NotIn:=by decide):behindInMarks op b=false:=by
 have e1:(op == CmpOp.In)=false:=by cases op <;> first|rfl|exact absurd rfl h
 have e2:(op == CmpOp.NotIn)=false:=by cases op <;> first|rfl|exact absurd rfl h2
 cases b <;> simp[behindInMarks,e1,e2]
def Lk{op:CmpOp}{r:R2}(ho:OpR X (compareOp op) r)(ha:PE X a ta)(hb:PE X b tb)(hm:behindInMarks op b=false):PE X (.Compare a [op] [b] pos) (tOp r ta tb):=by
 intro pins s σ H Q I h
 exact wpAny_Compare1 (RZ ha hb I h λv u s2 x y H2 I2 rx ry q=>ho pins s2 σ H2 x y v u Q I2 rx ry q) hm
def GX(t:TE):TT:=λσ H Q=>t σ H λx H'=>∃k,x=.bl k/\Q k H'
def j5{op:CmpOp}{r:R2}(ho:OpR X (compareOp op) r)(ha:PE X a ta)(hb:PE X b tb)(hm:behindInMarks op b=false):PT X (.Compare a [op] [b] pos) (GX (tOp r ta tb)):=by
 intro pins s σ H Q I h
 refine wpAny_isTrue_Compare1 (thn (ha pins s σ H _ I h) λv s1 ⟨x,H1,I1,r1,q1⟩=>thn (hb pins s1 σ H1 _ I1 q1) λu s2 ⟨y,H2,I2,r2,q2⟩ =>
  thn (ho pins s2 σ H2 x y v u _ I2 r1 r2 q2) λc s3 ⟨z,H3,I3,r3,k,e,q3⟩=>?_) hm
 subst e
 cases r3
 exact Ĩ ⟨H3,I3,q3⟩
def qK(r r':R2)(ta tb tc:TE):TE:=λσ H Q=>ta σ H λx H1=>tb σ H1 λy H2=>r x y H2 λz H3=>∃k,z=.bl k /\
 (if k=true then tc σ H3 λw' H4=>r' y w' H4 Q else Q (.bl false) H3)
def HS{op op':CmpOp}{r r':R2}(ho:OpR X (compareOp op) r)(ho':OpR X (compareOp op') r')(ha:PE X a ta)(hb:PE X b tb)(hc:PE X c tc)(hm:lastMarks [op,op'] [b,c]=false:=by with_unfolding_all rfl):PE X (.Compare a [op,op'] [b,c] pos) (qK r r' ta tb tc):=by
 intro pins s σ H Q I h
 refine Compare_chain (thn (ha pins s σ H _ I h) λv s1 ⟨x,H1,I1,r1,q1⟩=>chain_link (thn (hb pins s1 σ H1 _ I1 q1) λu s2 ⟨y,H2,I2,r2,q2⟩ =>
  thn (ho pins s2 σ H2 x y v u _ I2 r1 r2 q2) λd s3 ⟨z,H3,I3,r3,k,e,q3⟩=>?_)) hm
 subst e
 cases r3
 refine Ĩ ?_
 cases k with
 |false=>exact ite_ff ⟨.bl false,H3,I3,rfl,q3⟩
 |true=>exact ite_tt (chain_last (thn (hc pins s3 σ H3 _ I3 q3) λw' s4 ⟨z',H4,I4,r4,q4⟩=>ho' pins s4 σ H4 y z' u w' Q I4 r2 r4 q4))
def Hq{op op':CmpOp}{r r':R2}(ho:OpR X (compareOp op) r)(ho':OpR X (compareOp op') r')(ha:PE X a ta)(hb:PE X b tb)(hc:PE X c tc)(hm:lastMarks [op,op'] [b,c]=false:=by with_unfolding_all rfl):PT X (.Compare a [op,op'] [b,c] pos) (GX (qK r r' ta tb tc)):=by
 intro pins s σ H Q I h
 refine isTrue_chain (thn (ha pins s σ H _ I h) λv s1 ⟨x,H1,I1,r1,q1⟩=>test_link (thn (hb pins s1 σ H1 _ I1 q1) λu s2 ⟨y,H2,I2,r2,q2⟩ =>
  thn (ho pins s2 σ H2 x y v u _ I2 r1 r2 q2) λd s3 ⟨z,H3,I3,r3,k,e,q3⟩=>?_)) hm
 subst e
 cases r3
 refine Ĩ ?_
 cases k with
 |false =>
  obtain⟨k',e',q'⟩:=q3
  cases e'
  exact ite_ff ⟨H3,I3,q'⟩
 |true =>
  refine ite_tt (test_last (thn (hc pins s3 σ H3 _ I3 q3) λw' s4 ⟨z',H4,I4,r4,q4⟩=>thn (ho' pins s4 σ H4 y z' u w' _ I4 r2 r4 q4) λd' s5 ⟨z2,H5,I5,r5,k2,e2,q5⟩=>?_))
  subst e2
  cases r5
  exact Ĩ ⟨H5,I5,q5⟩
def wM:(sizeLine:Nat)<2 ^ 63:=by rw[ô];decide
def vals1{x:V}{us:List Value}(r:Vals [x] us):∃u,us=[u]/\RelV x u:=by
 cases r with
 |cons r1 r2=>cases r2;exact⟨_,rfl,r1⟩
def vals2{x y:V}{us:List Value}(r:Vals [x,y] us):∃u w',us=[u,w']/\RelV x u/\RelV y w':=by
 cases r with
 |cons r1 r2 =>
  cases r2 with
  |cons r3 r4=>cases r4;exact⟨_,_,rfl,r1,r3⟩
def zy:bI X (.builtin "abs") (λxs H Q=>∃i,xs=[.int i]/\Q (.int (if i<0 then -i else i)) H):=by
 intro pins s σ H xs us Q I r h
 obtain⟨i,rfl,q⟩:=h
 obtain⟨u,rfl,t,rfl⟩:=vals1 r
 exact call_abs_int λu tk=>⟨.int (if i<0 then -i else i),H,I.tok _,⟨_,rfl⟩,q⟩
def Gg(hc:X.calm=true):bI X (.builtin "max") (λxs H Q=>∃i j,xs=[.int i,.int j]/\Q (.int (if j > i then j else i)) H):=by
 intro pins s σ H xs us Q I r h
 obtain⟨i,j,rfl,q⟩:=h
 obtain⟨u,w',rfl,⟨t,rfl⟩,⟨t',rfl⟩⟩:=vals2 r
 refine max_two_ints (I.ok.hd hc) λh' tk k=>⟨_,H,I.kept k,?_,q⟩
 by_cases hj:j > i
 ·rw[if_pos hj,if_pos hj];exact⟨_,rfl⟩
 ·rw[if_neg hj,if_neg hj];exact⟨_,rfl⟩
def Gf(hc:X.calm=true):bI X (.builtin "min") (λxs H Q=>∃i j,xs=[.int i,.int j]/\Q (.int (if j<i then j else i)) H):=by
 intro pins s σ H xs us Q I r h
 obtain⟨i,j,rfl,q⟩:=h
 obtain⟨u,w',rfl,⟨t,rfl⟩,⟨t',rfl⟩⟩:=vals2 r
 refine min_two_ints (I.ok.hd hc) λh' tk k=>⟨_,H,I.kept k,?_,q⟩
 by_cases hj:j<i
 ·rw[if_pos hj,if_pos hj];exact⟨_,rfl⟩
 ·rw[if_neg hj,if_neg hj];exact⟨_,rfl⟩
def Gh:bI X (.type "int") (λxs H Q=>(∃i,xs=[.int i]/\Q (.int i) H)\/∃k,xs=[.bl k]/\Q (.int (if k then 1 else 0)) H):=by
 intro pins s σ H xs us Q I r h
 rcases h with ⟨i,rfl,q⟩|⟨k,rfl,q⟩
 ·obtain⟨u,rfl,t,rfl⟩:=vals1 r
  exact call_int_int ⟨.int i,H,I,⟨_,rfl⟩,q⟩
 ·obtain⟨u,rfl,r1⟩:=vals1 r
  cases r1
  exact call_int_bool ⟨.int (if k then 1 else 0),H,I.tok _,⟨_,rfl⟩,q⟩
end
structure ObjM(h:Heap)(x dx C:Addr)(mA:Str->Option Value):Prop where
 obj:h.get? x=some (W.instObj C dx)
 ns:h.Ns1 dx mA
 ne:dx≠x
def Fq{h:Heap}{dx:Addr}{mA:Str->Option Value}(n:h.Ns1 dx mA):∃od,h.get? dx=some od/\∀name,W.lookIn name od=some (mA name):=by
 obtain⟨o,es,ep,ho,hd,hk,_,hm⟩:=n
 refine⟨o,ho,λname=>?_⟩
 have e:=hm name
 unfold nsFind findBy at e
 rw[←Array.find?_toList] at e
 unfold W.lookIn
 rw[hd]
 dsimp only
 split
 ·rename_i y q
  rw[q] at e
  exact congrArg some e
 ·rename_i q
  rw[q] at e
  have a:es.toList.any (·.refKey)=false:=by
   rw[List.any_eq_false]
   intro y hy
   obtain⟨z,t,hkey⟩:=hk y (Array.mem_toList_iff.mp hy)
   simp[DictEntry.refKey,hkey]
  have a':¬es.toList.any (·.refKey)=true:=by rw[a];exact Ò
  rw[if_neg a']
  exact congrArg some e
def ObjM.look{h:Heap}{x dx C:Addr}{mA:Str->Option Value}(I:ObjM h x dx C mA):∃od,W.InstAt h x (W.instObj C dx) C (some od)/\∀name,W.lookIn name od=some (mA name) :=
 let ⟨od,ho,hl⟩:=Fq I.ns
 ⟨od,⟨I.obj,rfl,rfl,ho⟩,hl⟩
section
variable {prog:Program}{w:World}{A:Around}{E:Value->Shared->Prop}{s:Shared}{K:Ú}{x dx C f:Addr}{mA:Str->Option Value}{name:Str}{v:Value}
end
section
variable {P:Program}{w:World}{H H':Hp}{h h':Heap}{a C dx:Addr}{fs fs':List (Str×V)}
def M5(hok:HOk P w H h)(e:H a=some (.ins C dx fs)):∃mA,ObjM h a dx C mA/\(∀f,R6 (fs.lookup f) (mA f))/\PySem.Within mA (fs.map (·.1))/\fs.length<=1000/\H dx=some (.own a):=by
 obtain⟨d,z,ne,ob,mA,n,r,q⟩:=(show bY P w H h a (.ins C dx fs) from hok a _ e)
 exact⟨mA,⟨ob,n,ne⟩,r,q,z,d⟩
end
structure Cls(K:Ú)(C:Addr):Prop where
 pg:W.plainGet K C Str.empty=true
 hd:W.hasDictIn K C=true
 po:W.plainOver K C=true
 sa:W.findIn K (.ref C) "__setattr__"=some (some (.builtin "object.__setattr__"))
def Cls.get{K:Ú}{C:Addr}(c:Cls K C)(f:Str):W.plainGet K C f=true:=c.pg
structure Con(K:Ú)(C:Addr)(f:Str)(v:V)(u:Value):Prop where
 at_:W.findIn K (.ref C) f=some (some u)
 rel:RelV v u
 get:W.specialIn K u "__get__"=some none
 cp:W.copiedNames.contains f=false
structure Meth(K:Ú)(C:Addr)(m:Str)(f:Addr):Prop where
 at_:W.findIn K (.ref C) m=some (some (.ref f))
 fn:W.isFn K (.ref f)=true
 kp:W.keepIn K (.ref f)=true
section
variable {X:Cx}{pins:List (Addr×Obj)}{σ:St}{H:Hp}{s:Shared}{a C dx:Addr}{fs:List (Str×V)}{f:Str}{v:V}{A:Around}{E:Value->Shared->Prop}
end
section
variable {X:Cx}{o e value:Expr}{f:Str}{pos pos' tpos:Pos}{ta tv:TE}
end
section
variable {X:Cx}{pins:List (Addr×Obj)}{σ:St}{H:Hp}{s:Shared}{A:Around}{E:Value->Shared->Prop}{Q:Value->Shared->Prop}{c:Value}{b:Bool}
inductive TyOf(K:Ú)(H:Hp):V->Value->Prop where
 |non:TyOf K H .non (.type "NoneType")
 |bl (x:Bool):TyOf K H (.bl x) (.type "bool")
 |int (i:Int):TyOf K H (.int i) (.type "int")
 |str (x:Str):TyOf K H (.str x) (.type "str")
 |flt (x:UInt64):TyOf K H (.flt x) (.type "float")
 |lst {a:Addr}{xs:List V} (e:H a=some (.lst xs)):TyOf K H (.ref a) (.type "list")
 |frz {a:Addr}{o:Obj}{xs:List V} (e:H a=some (.frz o (.lst xs))):TyOf K H (.ref a) (.type "list")
 |tup {a:Addr}{xs:List V} (e:H a=some (.tup xs)):TyOf K H (.ref a) (.type "tuple")
 |dK {a:Addr}{kvs:List (Key×V)} (e:H a=some (.dK kvs)):TyOf K H (.ref a) (.type "dict")
 |dT {a:Addr}{kvs:List (List Key×V)} (e:H a=some (.dT kvs)):TyOf K H (.ref a) (.type "dict")
 |ins {a C dx:Addr}{fs:List (Str×V)} (e:H a=some (.ins C dx fs)) (cl:Cls K C) (ha:W.findIn K (.ref C) "__class__"=some (some (.builtin "object.__class__")))
   (hn:W.specialIn K (.builtin "object.__class__") "__get__"=some (some (.builtin "getset_descriptor.__get__"))) (htk:W.takesIn K (.builtin "object.__class__")=some true)
   (hm:W.mroIn K C (.type "object")=some true):TyOf K H (.ref a) (.ref C)
def Fx{x:V}{u t:Value}(I:Inv X pins σ H s)(rx:RelV x u)(ty:TyOf X.K H x t)(e:W.kitOne X.K t c=some b)(h:∀tk,Q (.bool b) { s with toks:=tk }) :
  wpAny (model X.prog X.w) A (call (.builtin "isinstance") [u,c]) Q E s:=by
 cases ty with
 |non=>cases (show u=ė from rx);exact W.kia_one W.kitx_none I.kIn True.intro e (λz=>nomatch z) h
 |bl y=>cases (show u=Value.bool y from rx);exact W.kia_one W.kitx_bool I.kIn True.intro e (λz=>nomatch z) h
 |int i=>obtain⟨t,q⟩:=(show ∃t,u=Ō i t from rx);cases q;exact W.kia_one W.kitx_int I.kIn True.intro e (λz=>nomatch z) h
 |str y=>obtain⟨t,q⟩:=(show ∃t,u=Value.str y t from rx);cases q;exact W.kia_one W.kitx_str I.kIn True.intro e (λz=>nomatch z) h
 |flt y=>obtain⟨t,q⟩:=(show ∃t,u=Value.float y t from rx);cases q;exact W.kia_one W.kitx_float I.kIn True.intro e (λz=>nomatch z) h
 |@lst a xs ea =>
  cases (show u=ŋ a from rx)
  obtain⟨_,_,n,_,h1⟩:=(show bY X.prog X.w H s.heap a (.lst xs) from I.hok a _ ea)
  exact W.kia_one W.kitx_list I.kIn ⟨_,h1,rfl⟩ e (λz=>nomatch z) h
 |@frz a ob xs ea =>
  cases (show u=ŋ a from rx)
  obtain⟨_,_,_,n,_,h1⟩:=(show bY X.prog X.w H s.heap a (.frz ob (.lst xs)) from I.hok a _ ea)
  exact W.kia_one W.kitx_list I.kIn ⟨_,h1,rfl⟩ e (λz=>nomatch z) h
 |@tup a xs ea =>
  cases (show u=ŋ a from rx)
  obtain⟨_,_,_,p⟩:=(show bY X.prog X.w H s.heap a (.tup xs) from I.hok a _ ea)
  obtain⟨o,h1,h2,_⟩:=p
  exact W.kia_one W.kitx_tuple I.kIn ⟨o,h1,h2⟩ e (λz=>nomatch z) h
 |@dK a kvs ea =>
  cases (show u=ŋ a from rx)
  obtain⟨_,_,vs,_,p⟩:=(show bY X.prog X.w H s.heap a (.dK kvs) from I.hok a _ ea)
  obtain⟨o,es,ep,h1,h2,_⟩:=p
  exact W.kia_one W.kitx_dict I.kIn ⟨o,h1,h2.1⟩ e (λz=>nomatch z) h
 |@dT a kvs ea =>
  cases (show u=ŋ a from rx)
  obtain⟨_,_,xs,_,o,es,ep,h1,h2,_⟩:=(show bY X.prog X.w H s.heap a (.dT kvs) from I.hok a _ ea)
  exact W.kia_one W.kitx_dict I.kIn ⟨o,h1,h2.1⟩ e (λz=>nomatch z) h
 |@ins a C dx fs ea cl ha hn htk hm =>
  cases (show u=ŋ a from rx)
  obtain⟨mA,O,_⟩:=M5 I.hok ea
  obtain⟨od,J,_⟩:=O.look
  exact W.kia_one (W.kitx_own (cl.get _) cl.hd ha hn htk hm) I.kIn J e (λz=>nomatch z) h
end
structure Room(k:Nat)(A:Around):Prop where
 hd:A.handled=none
 dp:A.depth+3 * k+5<recursionLimit
 un:A.units+16 * k+200<cLine
 gd:A.guards=some []
def Room.mono{j k:Nat}{A:Around}(r:Room k A)(h:j<=k):Room j A:=⟨r.hd,by have:=r.dp;omega,by have:=r.un;omega,r.gd⟩
def Room.deeper{k:Nat}{A:Around}(r:Room (k+1) A)(env:Env):Room k (A.deeper env) :=
 ⟨r.hd,by have:=r.dp;show A.depth+1+3 * k+5<_;omega,by have:=r.un;show A.units+3+16 * k+200<_;omega,r.gd⟩
def Room.in1{k:Nat}{A:Around}(r:Room (k+1) A):Room k A.in1 :=
 ⟨r.hd,by have:=r.dp;show A.depth+3 * k+5<_;omega,by have:=r.un;show A.units+1+16 * k+200<_;omega,r.gd⟩
def Room.depth{k:Nat}{A:Around}(r:Room k A):A.depth<recursionLimit:=by have:=r.dp;omega
def Room.units{k:Nat}{A:Around}(r:Room k A):A.units+64<cLine:=by have:=r.un;omega
def Py:TA:=λ_ H Q=>Q [] H
def qJ(ta:TE)(tr:TA):TA:=λσ H Q=>ta σ H λx H1=>tr σ H1 λxs H2=>Q (x::xs) H2
section
variable {X:Cx}{e:Expr}{es:List Expr}{te:TE}{t:TA}{pos:Pos}
def pA:PA X [] Py:=λ_ _ _ _ H Q I h=>Calls.spliced_nil ⟨[],H,I,.nil,h⟩
def dB(ha:PE X e te)(hr:PA X es t)(hs:starEach (e::es) X.env=(false,eval e X.env)::starEach es X.env:=by rfl):PA X (e::es) (qJ te t):=by
 intro pos pins s σ H Q I h
 rw[hs]
 show wpAny _ _ (spliced ((false,eval e X.env)::backTo pos (starEach es X.env))) _ _ s
 refine Calls.spliced_cons (thn (ha pins s σ H _ I h) λu s1 ⟨x,H1,I1,r1,q1⟩=>?_)
 exact thn (hr pos pins s1 σ H1 _ I1 q1) λus s2 ⟨xs,H2,I2,r2,q2⟩=>⟨x::xs,H2,I2,.cons r1 r2,q2⟩
def Vu(t:TA):TE:=λσ H Q=>t σ H λxs H1=>xs.length<=sizeLine/\∀p,H1 p=none->Q (.ref p) (upd H1 p (.tup xs))
def SJ(t:TA):TE:=λσ H Q=>t σ H λxs H1=>xs.length<=sizeLine/\∀p,H1 p=none->Q (.ref p) (upd H1 p (.lst xs))
def HB{x1}(h:PA X es t):PE X (.Tuple es x1 pos) (Vu t):=by
 intro pins s σ H Q I hq
 refine wpAny_Tuple_spliced (thn (h pos pins s σ H _ I hq) λus s1 ⟨xs,H1,I1,r,z,q⟩=>⟨by rw[←r.length];exact z,?_⟩)
 have hf:H1 s1.heap.objs.size=none:=I1.hok.fresh (Ì _)
 refine⟨.ref s1.heap.objs.size,upd H1 s1.heap.objs.size (.tup xs),I1.laid (t':=s1.toks) (λb u e=>Ó _ e) (Ì _) ?_,rfl,q _ hf⟩
 exact⟨z,us,r,⟨_,ä _ rfl,rfl,_,rfl⟩⟩
def jA(h:PA X es t):PE X (.List es pos) (SJ t):=by
 intro pins s σ H Q I hq
 refine wpAny_List_spliced (thn (h pos pins s σ H _ I hq) λus s1 ⟨xs,H1,I1,r,z,q⟩=>⟨by rw[←r.length];exact z,?_⟩)
 have hf:H1 s1.heap.objs.size=none:=I1.hok.fresh (Ì _)
 refine⟨.ref s1.heap.objs.size,upd H1 s1.heap.objs.size (.lst xs),I1.laid (t':=s1.toks) (λb u e=>Ó _ e) (Ì _) ?_,rfl,q _ hf⟩
 exact⟨z,us,0,r,ä _ rfl⟩
end
abbrev Sp:=List V->Hp->VK->XK->Prop
abbrev CXT:=List Env->Hp->Shared->XK->Value->Shared->Prop
structure Env0(P:Program)(w:World)(K:Ú)(mg:Str->Option Value)(base:Heap)(A:Around)(outer:List Env)(s:Shared)(H:Hp):Prop where
 frames:A.frames=some outer
 mod:Mod K mg base
 bs:∀b o,base.get? b=some o->s.heap.get? b=some o/\H b=none
 bsz:base.objs.size<=s.heap.objs.size
 kZ:s.heap.FunFrames base outer
 frf:∀b∈frs outer,H b=none
 hok:HOk P w H s.heap
 bare:AllBare s.gens
def CE(outer:List Env)(P:Program)(w:World)(H:Hp)(s:Shared)(Q:VK)(u:Value)(s':Shared):Prop :=
 ∃v H',s'.os=s.os/\AllBare s'.gens/\Un (frs outer) [] H H' s.heap s'.heap/\HOk P w H' s'.heap/\RelV v u/\Q v H'
def CR(CX:CXT)(outer:List Env)(P:Program)(w:World)(H:Hp)(s:Shared)(Q:VK)(E:XK)(r:Result)(s':Shared):Prop :=
 match r with
 |.ok (.ret u)=>CE outer P w H s Q u s'
 |.ok _=>False
 |.error e=>CX outer H s E e s'
structure FnOk(P:Program)(w:World)(K:Ú)(mg:Str->Option Value)(base:Heap)(CX:CXT)(k:Nat)(f:Addr)(fd:FuncData)(ps:List Str)(sp:Sp):Prop where
 len:∀vs H Q E,sp vs H Q E->vs.length=ps.length
 run:∀(A:Around) (outer:List Env) (s:Shared) (H:Hp) (args:Args) (us:List Value) (vs:List V) (Q:VK) (E:XK),Room k A->Env0 P w K mg base A outer s H->BindsTo s fd args (ps.zip us)->Vals vs us->sp vs H Q E ->
  codeAny (model P w) A (.call (.ref f) args) (CR CX outer P w H s Q E) s
def FnOk.imp{P:Program}{w:World}{K:Ú}{mg:Str->Option Value}{base:Heap}{CX:CXT}{k:Nat}{f:Addr}{fd:FuncData}{ps:List Str}{sp sp':Sp}(F:FnOk P w K mg base CX k f fd ps sp)(h:∀vs H Q E,sp' vs H Q E->sp vs H Q E):FnOk P w K mg base CX k f fd ps sp' :=
 ⟨λvs H Q E q=>F.len vs H Q E (h _ _ _ _ q),λA outer s H args us vs Q E hr he hb hv hs=>F.run A outer s H args us vs Q E hr he hb hv (h _ _ _ _ hs)⟩
def Env0.in1{P:Program}{w:World}{K:Ú}{mg:Str->Option Value}{base:Heap}{A:Around}{outer:List Env}{s:Shared}{H:Hp}(e:Env0 P w K mg base A outer s H) :
  Env0 P w K mg base A.in1 outer s H:=⟨e.frames,e.mod,e.bs,e.bsz,e.kZ,e.frf,e.hok,e.bare⟩
section
variable {X:Cx}{pins:List (Addr×Obj)}{σ:St}{H:Hp}{s s':Shared}
def Inv.env0(I:Inv X pins σ H s):Env0 X.prog X.w X.K X.mg X.base X.A X.stack s H :=
 ⟨I.ok.frames,I.ok.mod,I.bs,þ I.ok.bsz I.sz,I.stack,I.Cj,I.hok,I.bare⟩
def Inv.after{Q:VK}{u:Value}(I:Inv X pins σ H s)(h:CE X.stack X.prog X.w H s Q u s'):EP X pins σ Q u s':=by
 obtain⟨v,H',os,bare,un,hok,r,q⟩:=h
 obtain⟨hh,g,d,t,os'⟩:=s'
 obtain rfl:os'=s.os:=os
 exact⟨v,H',I.call (h':=hh) (g':=g) (d':=d) (t':=t) (ch:=[]) un hok bare (λb z=>absurd z (by simp)),r,q⟩
end
def ug(sp:Sp)(dvs:List V)(E:XK)(t:TA):TE:=λσ H Q=>t σ H λvs H1=>sp (vs++dvs) H1 Q E
def Binds(K:Ú)(fd:FuncData)(ps:List Str)(ds:List Value):Prop :=
 ∀(s:Shared) (us:List Value),K.In s.heap->(us++ds).length=ps.length->BindsTo s fd ⟨us,[]⟩ (ps.zip (us++ds))
def Binds.all{K:Ú}{fd:FuncData}{ps:List Str}(h:∀us:List Value,us.length=ps.length->bindArgs fd ⟨us,[]⟩=pure (ps.zip us)):Binds K fd ps []:=λs us _ hl=>by
 rw[ð] at hl ⊢
 exact .of_eq (h us hl)
def Passes(CX:CXT)(X:Cx)(E:XK):Prop:=∀(pins:List (Addr×Obj)) (σ:St) (H:Hp) (s:Shared) (e:Value) (s':Shared),Inv X pins σ H s->CX X.stack H s E e s'->X.xe e s'
section
variable {X:Cx}{CX:CXT}{k:Nat}{f C:Addr}{fd:FuncData}{ps:List Str}{sp:Sp}{dvs:List V}{ds:List Value}{E:XK}{x m:Str}{p pos apos:Pos}{e o:Expr}{es:List Expr}{ta:TE}{t:TA}
def Hf{pins:List (Addr×Obj)}{σ:St}{H:Hp}{s:Shared}{Q:VK}{us:List Value}{vs:List V}(F:FnOk X.prog X.w X.K X.mg X.base CX k f fd ps sp)(hr:Room k X.A)(hb:Binds X.K fd ps ds)(hd:Vals dvs ds)(hx:Passes CX X E)(I:Inv X pins σ H s)(r:Vals vs us)(h:sp (vs++dvs) H Q E):wpAny (model X.prog X.w) X.A (call (.ref f) us) (EP X pins σ Q) X.xe s:=by
 have r2:Vals (vs++dvs) (us++ds):=r.append hd
 have hl:(us++ds).length=ps.length:=by rw[←r2.length];exact F.len _ _ _ _ h
 refine wpAny_call (codeAny_mono (F.run X.A X.stack s H ⟨us,[]⟩ (us++ds) (vs++dvs) Q E hr I.env0 (hb s us I.kIn hl) r2 h) λr s' hq=>?_)
 cases r with
 |error e=>exact hx pins σ H s e s' I hq
 |ok fl =>
  cases fl with
  |ret u=>exact I.after hq
  |next=>exact ĵ hq
  |brk=>exact ĵ hq
  |cont=>exact ĵ hq
def Ln(F:FnOk X.prog X.w X.K X.mg X.base CX k f fd ps sp)(hr:Room k X.A)(hg:Gl X x)(hm:X.mg x=some (.ref f))(hk:W.keepIn X.K (.ref f)=true)(hb:Binds X.K fd ps ds)(hd:Vals dvs ds)(hx:Passes CX X E)(ha:PA X (e::es) t)(hdb:(x == ("__debug__":Str))=false:=by decide)(he:starEach (e::es) X.env=(false,eval e X.env)::starEach es X.env:=by rfl)(hpl:(backTo pos (starEach es X.env)).any (·.1)=false:=by rfl) :
  PE X (.Call (.Name x p) (e::es) [] pos) (ug sp dvs E t):=by
 intro pins s σ H Q I h
 refine Ŋ (Dk I hg hm ?_ hdb)
 refine W.callWith_K (h₀:=X.base) I.ok.mod.kin hk (thn (ha pos pins s σ H _ I h) λus s1 ⟨vs,H1,I1,r,q⟩=>⟨I1.kIn,?_⟩) he hpl
 exact Hf F hr hb hd hx I1 r q
structure Mk(K:Ú)(C f:Addr):Prop where
 makes:W.makesIn K C=true
 init:W.findIn K (.ref C) "__init__"=some (some (.ref f))
 fn:W.isFn K (.ref f)=true
 kp:W.keepIn K (.ref C)=true
end
section
variable {X:Cx}{CX:CXT}{k:Nat}{f C:Addr}{fd:FuncData}{ps ks:List Str}{sp:Sp}{E:XK}{x m:Str}{p pos apos kpos:Pos}{e o:Expr}{es:List Expr}{kws:List Keyword}{te ta:TE}{t tk:TA}{nm:Option Str}
structure KBinds(K:Ú)(fd:FuncData)(ps ks:List Str)(g:List Value->List Value->List Value)(gV:List V->List V->List V):Prop where
 to:∀(s:Shared) (us ws:List Value),K.In s.heap->(g us ws).length=ps.length->BindsTo s fd ⟨us,ks.zip ws⟩ (ps.zip (g us ws))
 rel:∀{vs:List V}{us:List Value}{zs:List V}{ws:List Value},Vals vs us->Vals zs ws->Vals (gV vs zs) (g us ws)
variable {g:List Value->List Value->List Value}{gV:List V->List V->List V}
end
structure FnScope(N P:List Str)(sc:Scope):Prop where
 kind:sc.kind=.function
 co:sc.isCoroutine=false
 gen:sc.isGenerator=false
 nd:N.Nodup
 pre:N.take P.length=P
 par:∀x∈P,sc.names.lookup x=some .local\/sc.names.lookup x=some .cell
 nofree:∀y∈sc.names,y.2≠.free
def zC{N P:List Str}{sc:Scope}(a:sc.kind=.function:=by rfl)(b:sc.isCoroutine=false:=by rfl)(c:sc.isGenerator=false:=by rfl)(d:N.Nodup:=by decide +kernel)(e:N.take P.length=P:=by rfl)(f:∀x∈P,sc.names.lookup x=some .local\/sc.names.lookup x=some .cell:=by decide +kernel)(g:∀y∈sc.names,y.2≠.free:=by decide +kernel):FnScope N P sc:=⟨a,b,c,d,e,f,g⟩
def uY{kindOf:Str->Option NameKind}{x:Str}:∀{binds:List (Str×Value)}{m:Str->Option Value},(∀v,(x,v)∉binds)->bindL kindOf binds m x=m x
 |[],_,_=>rfl
 |(n,v)::r,m,h=>by
  unfold bindL
  rw[uY λw hw=>h w (Ã _ hw)]
  split
  ·have:x≠n:=by rintro rfl;exact h v Æ
   simp[this]
  ·rfl
def u5{kindOf:Str->Option NameKind}{x:Str}:∀{binds:List (Str×Value)}{m:Str->Option Value},(∀v,(x,v)∉binds)->bindC kindOf binds m x=m x
 |[],_,_=>rfl
 |(n,v)::r,m,h=>by
  unfold bindC
  rw[u5 λw hw=>h w (Ã _ hw)]
  split
  ·rfl
  ·have:x≠n:=by rintro rfl;exact h v Æ
   simp[this]
def uZ{kindOf:Str->Option NameKind}{x:Str}{v:Value}:∀{P:List Str}{vs:List Value}{i:Nat}{m:Str->Option Value},P.Nodup->P[i]?=some x->vs[i]?=some v->kindOf x=some .local ->
  bindL kindOf (P.zip vs) m x=some v
 |[],_,_,_,_,h,_,_=>by simp at h
 |_::_,[],_,_,_,_,h,_=>by simp at h
 |p::P,w::vs,0,m,nd,h1,h2,hk=>by
  simp at h1 h2;subst h1;subst h2
  show bindL kindOf ((p,w)::P.zip vs) m p=_
  unfold bindL
  rw[uY λv hv=>(ś.mp nd).1 (List.of_mem_zip hv).1,if_pos hk]
  simp
 |p::P,w::vs,i+1,m,nd,h1,h2,hk=>by
  show bindL kindOf ((p,w)::P.zip vs) m x=_
  unfold bindL
  exact uZ (i:=i) (ś.mp nd).2 (by simpa using h1) (by simpa using h2) hk
def u6{kindOf:Str->Option NameKind}{x:Str}{v:Value}:∀{P:List Str}{vs:List Value}{i:Nat}{m:Str->Option Value},P.Nodup->P[i]?=some x->vs[i]?=some v->kindOf x≠some .local ->
  bindC kindOf (P.zip vs) m x=some v
 |[],_,_,_,_,h,_,_=>by simp at h
 |_::_,[],_,_,_,_,h,_=>by simp at h
 |p::P,w::vs,0,m,nd,h1,h2,hk=>by
  simp at h1 h2;subst h1;subst h2
  show bindC kindOf ((p,w)::P.zip vs) m p=_
  unfold bindC
  rw[u5 λv hv=>(ś.mp nd).1 (List.of_mem_zip hv).1,if_neg hk]
  simp
 |p::P,w::vs,i+1,m,nd,h1,h2,hk=>by
  show bindC kindOf ((p,w)::P.zip vs) m x=_
  unfold bindC
  exact u6 (i:=i) (ś.mp nd).2 (by simpa using h1) (by simpa using h2) hk
def start(N:List Str)(vs:List V):St:=vs.map some++É (N.length - vs.length) none
def zf(CX:CXT)(P:Program)(w:World)(K:Ú)(mg:Str->Option Value)(base:Heap)(N:List Str)(qual:Str)(scope:Scope)(f:Addr)(cd:Value)(A:Around)(outer:List Env)(s:Shared)(H:Hp)(E:XK):Cx where
 prog:=P
 w:=w
 K:=K
 mg:=mg
 base:=base
 A:=A.deeper (envOfC qual scope s.heap.objs.size f cd)
 N:=N
 s₀:=s
 H₀:=H
 env:=envOfC qual scope s.heap.objs.size f cd
 outer:=outer
 stack:=envOfC qual scope s.heap.objs.size f cd::outer
 ex:=[]
 calm:=true
 fn:=λ_=>true
 pn:=[]
 xe:=λe s'=>wpAny (model P w) (A.deeper (envOfC qual scope s.heap.objs.size f cd)) (leaving (envOfC qual scope s.heap.objs.size f cd) e) (λ_ s''=>CX outer H s E e s'') (λe' s''=>CX outer H s E e' s'') s'
def zu{sc:Scope}{n:Nat}{x:Str}(h:sc.names.lookup x=some .cell):∃c,(cellsFrom n sc.names []).lookup x=some c:=by
 have q:=W.cellsFrom_some sc.names n [] (.inl h)
 exact Option.isSome_iff_exists.mp q
def Fy{CX:CXT}{P:Program}{w:World}{K:Ú}{mg:Str->Option Value}{base:Heap}{N ps:List Str}{qual:Str}{scope:Scope}{f:Addr}{cd:Value}{A:Around}{outer:List Env}{s s1:Shared}{H:Hp}{E:XK}{us:List Value}{vs:List V}(S:FnScope N ps scope)(hd:A.handled=none)(e0:Env0 P w K mg base A outer s H)(hl:vs.length=ps.length)(r:Vals vs us)(x:InCallC s s.heap.objs.size (bindL (envOfC qual scope s.heap.objs.size f cd).kindOf (ps.zip us) λ_=>none) (cellsFrom (s.heap.objs.size+1) scope.names []) (bindC (envOfC qual scope s.heap.objs.size f cd).kindOf (ps.zip us) λ_=>none) s1) :
  Inv (zf CX P w K mg base N qual scope f cd A outer s H E) [] (start N vs) H s1:=by
 have hpl:ps.length<=N.length:=by have:=congrArg List.length S.pre;rw[Ģ] at this;omega
 obtain⟨h1,tk,rfl,hk⟩:=x.done
 have noA:∀b:Addr,b∉(zf CX P w K mg base N qual scope f cd A outer s H E).ex:=λb z=>absurd (show b∈([]:List Addr) from z) (by simp)
 refine⟨⟨e0.mod,S.kind,rfl,rfl,Ì _,λy z c h1 h2=>?_,λy hy=>?_,λy c _ h=>?_,λ_=>hd,Around.frames_deeper e0.frames,.inr ⟨rfl,rfl⟩,λb z=>absurd z (noA b),e0.bs,e0.bsz,λb _ _=>noA b,λb z=>absurd z (noA b),e0.kZ,e0.frf,λq z=>nomatch (show q∈([]:List (Addr×Obj×HO)) from z)⟩,
  rfl,e0.bare,Un.kept hk,⟨_,x.toInCall.ns,λi y v h1 h2 h3=>?_⟩,λy c h=>⟨_,x.cell y c h⟩,e0.hok.fresh (Ì _),λy c h=>?_,λp hp=>absurd (show p∈([]:List (Addr×Obj)) from hp) (by simp),e0.hok.kept hk,?_⟩
 ·exact name_of_addr x.apart (ă h1) (ă h2)
 ·have hy:scope.names.lookup y=some .cell\/scope.names.lookup y=some .free:=hy
  rcases hy with hy|hy
  ·exact zu hy
  ·exact absurd rfl (S.nofree _ (ă hy))
 ·exact Nat.le_of_lt (x.above y c (ă h))
 ·have hi:i<vs.length:=by
   unfold start at h2
   by_cases hi:i<vs.length
   ·exact hi
   ·rw[é (by simpa using hi)] at h2
    rw[Ŏ] at h2
    split at h2 <;> cases h2
  have ha:vs[i]?=some v:=by
   unfold start at h2
   rw[ú (by simpa using hi),ß] at h2
   cases e:vs[i]? with
   |none=>rw[e] at h2;cases h2
   |some a=>rw[e] at h2;cases h2;rfl
  obtain⟨u,hu,rv⟩:=r.get ha
  have hp:ps[i]?=some y:=by
   rw[←S.pre,List.getElem?_take_of_lt (by omega)];exact h1
  have ndP:ps.Nodup:=by rw[←S.pre];exact S.nd.sublist (List.take_sublist _ _)
  refine⟨u,rv,?_⟩
  rcases S.par y (Î hp) with k|k
  ·exact .inl ⟨k,uZ ndP hp hu k⟩
  ·obtain⟨c,e⟩:=zu (n:=s.heap.objs.size+1) k
   refine .inr ⟨.inl k,c,e,?_⟩
   have q:=x.cell y c e
   rw[u6 ndP hp hu (by show scope.names.lookup y≠_;rw[k];decide)] at q
   exact q
 ·exact e0.hok.fresh (Nat.le_of_lt (x.above y c (ă h)))
 ·unfold start
  show _=N.length
  rw[È,Á,ĥ]
  omega
def JT{CX:CXT}{P:Program}{w:World}{K:Ú}{mg:Str->Option Value}{base:Heap}{k:Nat}{f:Addr}{name qual:Str}{params:Arguments}{body:List Stmt}{scope:Scope}{dV kV doc pm cdv ct oc:Value}{an od:Option Addr}{osl:Array (Option Value)}{N ps:List Str}{sp:Sp}(lk:K.lookup f=some ⟨oc,od,.func (W.fnOf name qual params body scope dV kV doc pm an cdv ct),osl⟩)(hcd:W.codeIn K cdv qual=true)(S:FnScope N ps scope)(len:∀vs H Q E,sp vs H Q E->vs.length=ps.length)(hbody:∀(A:Around) (outer:List Env) (s:Shared) (H:Hp) (vs:List V) (Q:VK) (E:XK),Room k (A.deeper (envOfC qual scope s.heap.objs.size f cdv))->sp vs H Q E ->
   ∃t,PSs (zf CX P w K mg base N qual scope f cdv A outer s H E) body t/\t { nx:=λ_ H'=>Q .non H',rt:=Q } (start N vs) H) :
  FnOk P w K mg base CX (k+1) f (W.fnOf name qual params body scope dV kV doc pm an cdv ct) ps sp:=by
 refine⟨len,λA outer s H args us vs Q E hr e0 hb r hsp=>?_⟩
 have hl:=len _ _ _ _ hsp
 have KX:K.In s.heap:=e0.mod.kin.keeps λb o e=>(e0.bs b o e).1
 have lim:s.heap.NoLimit:=e0.mod.nolimit.keeps λb o e=>(e0.bs b o e).1
 have hkind:∀y∈ps.zip us,scope.names.lookup y.1=some .local\/(scope.names.lookup y.1=some .cell/\((cellsFrom (s.heap.objs.size+1) scope.names []).lookup y.1).isSome=true):=λ⟨n,v⟩ hy=>by
  rcases S.par n (List.of_mem_zip hy).1 with q|q
  ·exact .inl q
  ·exact .inr ⟨q,W.cellsFrom_some _ _ _ (.inl q)⟩
 refine codeAny_call_function hr.depth (KX _ _ lk) rfl S.co S.gen rfl (W.codeRec_of KX hcd) (hb _ _ _ _ ?_)
 refine wpAny_newFunctionEnv_cells S.kind hkind λenv he s1 x=>?_
 subst he
 refine⟨lim.keeps x.toInCall.keep,codeAny_func ?_⟩
 obtain⟨t,ht,hq⟩:=hbody A outer s H vs Q E (hr.deeper _) hsp
 have I:Inv (zf CX P w K mg base N qual scope f cdv A outer s H E) [] (start N vs) H s1:=Fy S hr.hd e0 hl r x
 refine ň (ht [] s1 (start N vs) H _ I hq) (λfl s' hs=>?_) λe s' hs=>hs
 have fin:∀{σ':St}{H':Hp}{v:V}{u:Value},Inv (zf CX P w K mg base N qual scope f cdv A outer s H E) [] σ' H' s'->RelV v u->Q v H'->CE outer P w H s Q u s' :=
  λ{σ' H' v u} J rv q=>⟨v,H',J.os,J.bare,J.base,J.hok,rv,q⟩
 cases fl with
 |ret u =>
  obtain⟨v,σ',H',J,rv,q⟩:=hs
  exact fin J rv q
 |next =>
  obtain⟨σ',H',J,q⟩:=hs
  exact fin (v:=V.non) (u:=ė) J rfl q
 |brk =>
  obtain⟨_,_,_,q⟩:=hs
  exact ĵ q
 |cont =>
  obtain⟨_,_,_,q⟩:=hs
  exact ĵ q
section
variable {X:Cx}{x:Str}{p pos:Pos}{e:Expr}{es:List Expr}{t:TA}{id T:String}{r:List V->Hp->VK->Prop}
def tCB(r:List V->Hp->VK->Prop)(t:TA):TE:=λσ H Q=>t σ H λvs H1=>r vs H1 Q
def eE(hc:bI X (.builtin id) r)(hg:Gl X x)(hm:X.mg x=none)(hv:bootBuiltins x=some (.builtin id))(ha:PA X (e::es) t)(hn:x≠"__name__":=by decide)(hdb:(x == ("__debug__":Str))=false:=by decide)(he:starEach (e::es) X.env=(false,eval e X.env)::starEach es X.env:=by rfl)(hpl:(backTo pos (starEach es X.env)).any (·.1)=false:=by rfl):PE X (.Call (.Name x p) (e::es) [] pos) (tCB r t):=by
 intro pins s σ H Q I h
 refine Ŋ (jK I hg hm hv ?_ hn hdb)
 exact PyProof.Rows.callWith_builtin1 (thn (ha pos pins s σ H _ I h) λus s1 ⟨vs,H1,I1,r1,q1⟩=>hc pins s1 σ H1 vs us Q I1 r1 q1) he hpl
def uD(hc:bI X (.type T) r)(hg:Gl X x)(hm:X.mg x=none)(hv:bootBuiltins x=some (.type T))(ha:PA X (e::es) t)(hn:x≠"__name__":=by decide)(hdb:(x == ("__debug__":Str))=false:=by decide)(he:starEach (e::es) X.env=(false,eval e X.env)::starEach es X.env:=by rfl)(hpl:(backTo pos (starEach es X.env)).any (·.1)=false:=by rfl):PE X (.Call (.Name x p) (e::es) [] pos) (tCB r t):=by
 intro pins s σ H Q I h
 refine Ŋ (jK I hg hm hv ?_ hn hdb)
 exact Ň (thn (ha pos pins s σ H _ I h) λus s1 ⟨vs,H1,I1,r1,q1⟩=>hc pins s1 σ H1 vs us Q I1 r1 q1) he hpl
end
end L2
namespace HT
open PySem PyProof.Rows
section
open PySem.SeqAt
open PySem.AutoSeq1 (wpAny_loadPart')
open PySem.MeetsSeq PySem.MeetsSeq2 PySem.MeetsSeq3
end
section
variable {prog:Program}{w:World}{A:Around}{E:Value->Shared->Prop}{s:Shared}
def Nk{t b:Addr}{vs ws:List Value}{Q:Value->Shared->Prop}(ht:IsTup s.heap t vs.toArray)(hb:IsTup s.heap b ws.toArray)(hv:vs≠[])(h1:ws=[]->Q (.ref t) s)(h2:ws≠[]->Q (.ref s.heap.objs.size) { s with heap:=s.heap.push { cls:=.type "tuple",data:=.seq (vs++ws).toArray } })(hsz:vs.length+ws.length<=sizeLine):wpAny (model prog w) A (binaryOp .Add (.ref t) (.ref b)) Q E s:=by
 obtain⟨⟨cls,dd,data,sl⟩,ho,hc,n,hd⟩:=id ht
 obtain⟨⟨cls2,dd2,data2,sl2⟩,ho2,hc2,n2,hd2⟩:=id hb
 simp only at hc hd hc2 hd2
 subst hc hd hc2 hd2
 have e:vs.toArray++ws.toArray=(vs++ws).toArray:=by simp
 by_cases hw:ws=[]
 ·exact concat_meets ⟨_,ho,rfl⟩ ⟨_,ho2,rfl⟩ noFill_tuple_add seq_tuple_add PySem.F.slot_tuple_add PySem.F.entry_tuple_add (PySem.F.args_tuple_add_2 _ _)
   (tuple_addW1 t b vs.toArray ws.toArray n n2 dd dd2 sl sl2 (by simpa using hv) (by simp[hw])) ⟨ho,ho2,h1 hw⟩
 ·refine concat_meets ⟨_,ho,rfl⟩ ⟨_,ho2,rfl⟩ noFill_tuple_add seq_tuple_add PySem.F.slot_tuple_add PySem.F.entry_tuple_add (PySem.F.args_tuple_add_2 _ _)
   (tuple_addW2 t b vs.toArray ws.toArray n n2 dd dd2 sl sl2 (by simpa using hv) (by simpa using hw) (by rw[Í,Í];exact hsz)) ⟨ho,ho2,?_⟩
  rw[e]
  exact h2 hw
def sIx(n d:Nat):Option Int->Nat
 |none=>d
 |some v=>if v<0 then (v+(n:Int)).toNat else min v.toNat n
def mO(n d k:Nat):sIx n d (some (k:Int))=min k n:=by
 show(if (k:Int)<0 then ((k:Int)+(n:Int)).toNat else min (k:Int).toNat n)=min k n
 rw[if_neg (by omega),ï]
def Qf(n d:Nat)(hd:d<=n)(o:Option Int):sIx n d o<=n:=by
 cases o with
 |none=>exact hd
 |some v =>
  show(if v<0 then (v+(n:Int)).toNat else min v.toNat n)<=n
  by_cases hv:v<0
  ·rw[if_pos hv];omega
  ·rw[if_neg hv];exact Nat.min_le_right _ _
def Ed(v:Int)(n d:Nat):(if v<0 then max (v+(n:Int)) 0 else min v (n:Int))=((sIx n d (some v):Nat):Int):=by
 show(if v<0 then max (v+(n:Int)) 0 else min v (n:Int))=(((if v<0 then (v+(n:Int)).toNat else min v.toNat n):Nat):Int)
 by_cases hv:v<0
 ·simp only[if_pos hv];omega
 ·simp only[if_neg hv];omega
def BR(lo hi:Option Int)(n:Nat):Builtin.Slice.sliceAdjust lo hi 1 (n:Int)=(((sIx n 0 lo:Nat):Int),((sIx n n hi:Nat):Int)):=by
 have h1:¬((1:Int)<0):=by omega
 unfold Builtin.Slice.sliceAdjust
 simp only[h1,if_false]
 refine Prod.ext ?_ ?_
 ·cases lo with
  |none=>rfl
  |some v=>exact Ed v n 0
 ·cases hi with
  |none=>rfl
  |some v=>exact Ed v n n
def Ac(i j:Nat):ů (i:Int) (j:Int) 1=j - i:=by
 unfold ů
 have h1:(1:Int) > 0:=by omega
 simp only[h1,if_true,Int.ediv_one]
 split <;> omega
def qN{v:Value}{o:Option Int}{Q:Option Int->Shared->Prop}(p:IsPart v o)(h:Q o s):wpAny (model prog w) A (Builtin.Slice.slicePartIndex v) Q E s:=by
 cases p with
 |none=>exact slicePart_none h
 |int i t=>exact slicePart_int h
def oR{sl:Addr}{vl vu:Value}{lo hi:Option Int}{n:Nat}{Q:Int×Int×Nat->Shared->Prop}(hs:s.heap.IsSliceOf sl vl vu .none)(pl:IsPart vl lo)(pu:IsPart vu hi)(h:Q (((sIx n 0 lo:Nat):Int),1,sIx n n hi - sIx n 0 lo) s):wpAny (model prog w) A (Builtin.Slice.sliceApplied (.ref sl) (pure (n:Int))) Q E s:=by
 obtain⟨os,hos,hcs,hds⟩:=id hs
 unfold Builtin.Slice.sliceApplied Builtin.Slice.sliceFields
 refine Ä (Ä (wpAny_field hos hds (x:=vl) rfl (Ä (wpAny_field hos hds (x:=vu) rfl (Ä (wpAny_field hos hds (x:=.none) rfl (Ø ?_)))))))
 refine Ä (slicePart_none ?_)
 show wpAny _ _ (if ((1:Int) == 0)=true then _ else _) _ _ s
 rw[if_neg (by decide)]
 refine Ä (qN pl (Ä (qN pu (Ä (Ø ?_)))))
 show wpAny _ _ (match Builtin.Slice.sliceAdjust lo hi 1 (n:Int) with|(lo,hi)=>pure (lo,(1:Int),ů lo hi 1)) _ _ s
 rw[BR lo hi n]
 show wpAny _ _ (pure (((sIx n 0 lo:Nat):Int),(1:Int),ů ((sIx n 0 lo:Nat):Int) ((sIx n n hi:Nat):Int) 1)) _ _ s
 rw[Ac]
 exact Ø h
def Hv(xs:Array Value)(i k:Nat):((Þ k).filterMap λ(m:Nat)=>xs[((i:Int)+(m:Int) * 1).toNat]?).toArray=((xs.toList.drop i).take k).toArray:=by
 have e:(λ(m:Nat)=>xs[((i:Int)+(m:Int) * 1).toNat]?)=λm=>xs[i+m]?:=by
  funext m
  have:((i:Int)+(m:Int) * 1).toNat=i+m:=by omega
  rw[this]
 rw[e]
 have:=pick_run xs i k
 rw[List.filterMap_map] at this
 have e2:((λx=>xs[x]?) ∘ λx=>i+x)=λm=>xs[i+m]?:=rfl
 rw[e2] at this
 rw[this]
def nU{t sl:Addr}{items:Array Value}{vl vu:Value}{lo hi:Option Int}{Q:Value->Shared->Prop}(ht:IsTup s.heap t items)(hs:s.heap.IsSliceOf sl vl vu .none)(pl:IsPart vl lo)(pu:IsPart vu hi)(hw:¬(sIx items.size 0 lo=0/\sIx items.size items.size hi=items.size))(h:Q (.ref s.heap.objs.size) { s with heap:=s.heap.push { cls:=.type "tuple",data:=.seq ((items.toList.drop (sIx items.size 0 lo)).take (sIx items.size items.size hi - sIx items.size 0 lo)).toArray } })(hsz:items.size<=sizeLine):wpAny (model prog w) A (getItem (.ref t) (.ref sl)) Q E s:=by
 have htake:sizeOk (.seq ((items.toList.drop (sIx items.size 0 lo)).take (sIx items.size items.size hi - sIx items.size 0 lo)).toArray):=by
  show((items.toList.drop (sIx items.size 0 lo)).take (sIx items.size items.size hi - sIx items.size 0 lo)).toArray.size<=sizeLine
  rw[Í,Ģ,Ā,ľ]
  omega
 have hj:sIx items.size items.size hi<=items.size:=Qf _ _ (Ì _) hi
 obtain⟨os,hos,hcs,hds⟩:=id hs
 have hTs:s.TypeIs (.ref sl) "slice":=⟨os,hos,hcs⟩
 unfold getItem
 try with_reducible refine Ė ?_
 first|refine Ä (Ø ?_)|skip
 refine Ä (wpAny_sequenceKey ht.typeIs (by decide) ?_)
 refine Ä (wpAny_callSpecial?_slot (name:=ç "__getitem__") ht.typeIs PyProof.Rows.slot_tuple_getitem
  (wpAny_call_entry PyProof.Rows.slot_tuple_getitem ht.typeIs entry_tuple_getitem ?_ (args_tuple_getitem _ _)))
 show wpAny _ _ (Builtin.Tuple.tupleItemsOf (.ref t) >>= _) _ _ s
 refine Ä (tupleItemsOf_ ht ?_)
 refine Ä (wpAny_typeOf hTs ?_)
 rw[if_pos (by decide)]
 refine Ä (oR hs pl pu ?_)
 have hno:¬((((sIx items.size 0 lo:Nat):Int) == 0&&(1:Int) == 1&&(sIx items.size items.size hi - sIx items.size 0 lo) == items.size)=true):=by
  intro q
  rw[Û,Û] at q
  have q1:((sIx items.size 0 lo:Nat):Int)=0:=eq_of_beq q.1.1
  have q2:sIx items.size items.size hi - sIx items.size 0 lo=items.size:=eq_of_beq q.2
  exact hw ⟨by omega,by omega⟩
 show wpAny _ _ (if (((sIx items.size 0 lo:Nat):Int) == 0&&(1:Int) == 1&&(sIx items.size items.size hi - sIx items.size 0 lo) == items.size)=true then _ else _) _ _ s
 rw[if_neg hno,Hv]
 first
  |exact Ä (m:=Ŷ _) (wpAny_newObj_type (Ø ⟨_,rfl,Ø h⟩) htake)
  |exact Ä (m:=Ŷ _) (wpAny_newObj_type (Ä (Ø (Ø ⟨_,rfl,Ø h⟩))) htake)
  |exact Ä (Ä (m:=Ŷ _) (wpAny_newObj_type (Ø (Ø ⟨_,rfl,Ø h⟩)) htake))
  |exact Ä (Ä (m:=Ŷ _) (wpAny_newObj_type (Ø ⟨_,rfl,Ø h⟩) htake))
end
end HT
namespace L2
open PySem PySem.Spec PyProof.Rows
abbrev TO:=St->Hp->(Option Int->Hp->Prop)->Prop
def PO(X:Cx)(e:Option Expr)(t:TO):Prop :=
 ∀(pins:List (Addr×Obj)) (s:Shared) (σ:St) (H:Hp) (Q:Option Int->Hp->Prop),Inv X pins σ H s->t σ H Q ->
  wpAny (model X.prog X.w) X.A (evalPart e X.env) (λu s'=>∃o H',Inv X pins σ H' s'/\IsPart u o/\Q o H') X.xe s
def K4:TO:=λ_ H Q=>Q none H
def Sv(t:TE):TO:=λσ H Q=>t σ H λx H1=>∃i,x=.int i/\Q (some i) H1
def intsAre_of{ns:List Int}:∀{us:List Value},Vals (ns.map V.int) us->IntsAre us ns:=by
 induction ns with
 |nil=>intro us r;rw[List.map_nil] at r;cases r;exact .nil
 |cons n ns ih =>
  intro us r
  rw[à] at r
  cases r with
  |cons r1 r2 =>
   obtain⟨t,e⟩:=r1
   subst e
   exact .cons n t (ih r2)
section
variable {X:Cx}{e:Expr}{te:TE}{lo hi:Option Expr}{tl th:TO}{pos p2:Pos}
def Lj:PO X none K4:=by
 intro pins s σ H Q I h
 rw[evalPart_none]
 exact Ø ⟨none,H,I,.none,h⟩
def Li(h:PE X e te):PO X (some e) (Sv te):=by
 intro pins s σ H Q I hw
 rw[evalPart_some]
 refine thn (h pins s σ H _ I hw) λu s1 ⟨x,H1,I1,r1,q1⟩=>?_
 obtain⟨i,rfl,q⟩:=q1
 obtain⟨t,rfl⟩:=r1
 exact⟨some i,H1,I1,.int i t,q⟩
def SlR(X:Cx)(r:V->Option Int->Option Int->Hp->VK->Prop):Prop :=
 ∀(pins:List (Addr×Obj)) (s:Shared) (σ:St) (H:Hp) (x:V) (v vl vu:Value) (lo hi:Option Int) (sl:Addr) (Q:VK),Inv X pins σ H s->RelV x v->s.heap.IsSliceOf sl vl vu .none->IsPart vl lo->IsPart vu hi->r x lo hi H Q ->
  ∃T id,typeLookup (.type T) "__getitem__"=pure (some (.builtin id))/\s.TypeIs v T/\wpAny (model X.prog X.w) X.A (getItem v (.ref sl)) (EP X pins σ Q) X.xe s
def SlR.or{r r':V->Option Int->Option Int->Hp->VK->Prop}(h:SlR X r)(h':SlR X r'):SlR X (λx lo hi H Q=>r x lo hi H Q\/r' x lo hi H Q):=by
 intro pins s σ H x v vl vu lo hi sl Q I rx hs pl pu q
 rcases q with q|q
 ·exact h pins s σ H x v vl vu lo hi sl Q I rx hs pl pu q
 ·exact h' pins s σ H x v vl vu lo hi sl Q I rx hs pl pu q
def tSl(r:V->Option Int->Option Int->Hp->VK->Prop)(te:TE)(tl th:TO):TE:=λσ H Q=>te σ H λx H1=>tl σ H1 λl H2=>th σ H2 λu H3=>r x l u H3 Q
def yx{r:V->Option Int->Option Int->Hp->VK->Prop}(hr:SlR X r)(he:PE X e te)(hl:PO X lo tl)(hu:PO X hi th):PE X (.Subscript e (.Slice lo hi none p2) pos) (tSl r te tl th):=by
 intro pins s σ H Q I h
 refine Subscript_ (thn (he pins s σ H _ I h) λv s1 ⟨x,H1,I1,r1,q1⟩=>?_)
 refine wpAny_Slice (thn (hl pins s1 σ H1 _ I1 q1) λvl s2 ⟨l,H2,I2,pl,q2⟩=>thn (hu pins s2 σ H2 _ I2 q2) λvu s3 ⟨u,H3,I3,pu,q3⟩=>?_)
 rw[evalPart_none]
 refine Ø ?_
 have I4:Inv X pins σ H3 { s3 with heap:=s3.heap.push { cls:=.type "slice",data:=.fields #[vl,vu,.none] } }:=I3.kept (t':=s3.toks) λb ob q=>Ó _ q
 obtain⟨T,id,hT,ht,hg⟩:=hr pins { s3 with heap:=s3.heap.push { cls:=.type "slice",data:=.fields #[vl,vu,.none] } } σ H3 x v vl vu l u s3.heap.objs.size Q I4 r1 (Heap.IsSliceOf.new ..) pl pu q3
 show wpAny (model X.prog X.w) X.A (subscriptTail e (.Slice lo hi none p2) v (.ref s3.heap.objs.size)) (EP X pins σ Q) X.xe { s3 with heap:=s3.heap.push { cls:=.type "slice",data:=.fields #[vl,vu,.none] } }
 exact tail_any (ops:=[.ref s3.heap.objs.size,v]) ht hT hg (by with_unfolding_all rfl)
def sY(xs:List V)(lo hi:Option Int):List V:=(xs.drop (HT.sIx xs.length 0 lo)).take (HT.sIx xs.length xs.length hi - HT.sIx xs.length 0 lo)
def qm(xs:List V)(lo hi:Option Int):(sY xs lo hi).length<=xs.length:=by
 unfold sY
 rw[Ģ,Ā]
 omega
def VN(K:Ú):V->Option Int->Option Int->Hp->VK->Prop:=λx lo hi H Q=>∃a xs,x=.ref a/\SqT K H a xs /\
 ¬(HT.sIx xs.length 0 lo=0/\HT.sIx xs.length xs.length hi=xs.length)/\∀p,H p=none->Q (.ref p) (upd H p (.tup (sY xs lo hi)))
def Qe:SlR X (VN X.K):=by
 intro pins s σ H x v vl vu lo hi sl Q I rx hs pl pu h
 obtain⟨a,xs,rfl,hx,hw,q⟩:=h
 cases rx
 obtain⟨its,r,ht,hz⟩:=I.tuple hx
 have hlen:its.toArray.size=xs.length:=by rw[Í];exact r.length.symm
 refine⟨"tuple",_,PyProof.Rows.slot_tuple_getitem.lookup,ht.typeIs,?_⟩
 refine HT.nU ht hs pl pu (by rw[hlen];exact hw) ?_ (by rw[hlen];exact hz)
 rw[hlen]
 refine⟨.ref s.heap.objs.size,_,I.laid (t':=s.toks) (o:=.tup (sY xs lo hi)) (λb ob q=>Ó _ q) (Ì _) ?_,rfl,q _ (I.hok.fresh (Ì _))⟩
 exact⟨þ (qm xs lo hi) hz,_,(r.drop (HT.sIx xs.length 0 lo)).take (HT.sIx xs.length xs.length hi - HT.sIx xs.length 0 lo),IsTup.new _ _⟩
def Tv(K:Ú):R2:=λx y H Q=>∃a b xs ys,x=.ref a/\y=.ref b/\SqT K H a xs/\SqT K H b ys/\xs≠[]/\xs.length+ys.length<=sizeLine /\
 (ys=[]->Q (.ref a) H)/\(ys≠[]->∀p,H p=none->Q (.ref p) (upd H p (.tup (xs++ys))))
def Vals.wI{xs:List V}{us:List Value}(r:Vals xs us):us=[]↔xs=[]:=by
 cases r with
 |nil=>simp
 |cons _ _=>simp
def Ls:OpR X (binaryOp .Add) (Tv X.K):=by
 intro pins s σ H x y v u Q I rx ry h
 obtain⟨a,b,xs,ys,rfl,rfl,ha,hb,hx,hz,q1,q2⟩:=h
 cases rx
 cases ry
 obtain⟨its,r1,p1,_⟩:=I.tuple ha
 obtain⟨its2,r2,p2,_⟩:=I.tuple hb
 refine HT.Nk p1 p2 (λz=>hx (r1.wI.mp z)) (λz=>⟨.ref a,H,I,rfl,q1 (r2.wI.mp z)⟩) (λz=>?_) (by rw[←r1.length,←r2.length];exact hz)
 refine⟨.ref s.heap.objs.size,_,I.laid (t':=s.toks) (o:=.tup (xs++ys)) (λb ob q=>Ó _ q) (Ì _) ?_,rfl,q2 (λw=>z (r2.wI.mpr w)) _ (I.hok.fresh (Ì _))⟩
 exact⟨by rw[È];exact hz,_,r1.append r2,IsTup.new _ _⟩
end
def ixN(n:Nat)(i:Int):Option Nat:=if 0<=i then (if i<n then some i.toNat else none) else if -(n:Int)<=i then some (i+n).toNat else none
def atI{α:Type}(xs:List α)(i:Int):Option α:=(ixN xs.length i).bind λj=>xs[j]?
def Dp{n:Nat}{i:Int}{j:Nat}(h:ixN n i=some j):seqIndex? i n=some j/\j<n/\-(n:Int)<=i/\i<n:=by
 unfold ixN at h
 by_cases h0:0<=i
 ·rw[if_pos h0] at h
  by_cases h1:i<n
  ·rw[if_pos h1] at h
   have e:i.toNat=j:=á h
   exact⟨by rw[seqIndex_of h0 h1,e],by omega,by omega,h1⟩
  ·rw[if_neg h1] at h;cases h
 ·rw[if_neg h0] at h
  by_cases h1:-(n:Int)<=i
  ·rw[if_pos h1] at h
   have e:(i+n).toNat=j:=á h
   exact⟨by rw[seqIndex_neg (by omega) h1,e],by omega,h1,by omega⟩
  ·rw[if_neg h1] at h;cases h
def Ej{α:Type}{xs:List α}{i:Int}{v:α}(h:atI xs i=some v):∃j,seqIndex? i xs.length=some j/\xs[j]?=some v/\j<xs.length/\-(xs.length:Int)<=i/\i<xs.length:=by
 unfold atI at h
 cases e:ixN xs.length i with
 |none=>rw[e] at h;cases h
 |some j =>
  rw[e] at h
  obtain⟨h1,h2,h3,h4⟩:=Dp e
  exact⟨j,h1,h,h2,h3,h4⟩
def dN{α:Type}{xs:List α}{j:Nat}{v:α}(h:xs[j]?=some v):atI xs (j:Int)=some v:=by
 have hj:j<xs.length:=(Ê.mp h).1
 have e:ixN xs.length (j:Int)=some j:=by
  unfold ixN
  rw[if_pos (by omega),if_pos (by omega)];simp
 unfold atI;rw[e];exact h
def oF{α:Type}(xs:List α)(v:α):atI (xs++[v]) (-1)=some v:=by
 have hl:(xs++[v]).length=xs.length+1:=by simp
 have e:ixN (xs++[v]).length (-1)=some xs.length:=by
  unfold ixN
  rw[hl,if_neg (by decide),if_pos (by omega)]
  congr 1
  omega
 unfold atI
 rw[e]
 show(xs++[v])[xs.length]?=some v
 simp
def oJ(b:Expr):Prop:=∀o i,subscripted b false o i=operate [o,i] (getItem o i)
def IxR(X:Cx)(r:R2):Prop :=
 ∀(value slice:Expr) (pins:List (Addr×Obj)) (s:Shared) (σ:St) (H:Hp) (x y:V) (v u:Value) (Q:VK),Inv X pins σ H s->RelV x v->RelV y u->r x y H Q ->
  subscripted slice false v u=operate [v,u] (getItem v u)->wpAny (model X.prog X.w) X.A (subscriptTail value slice v u) (EP X pins σ Q) X.xe s
def MtR(X:Cx)(id:String)(r:V->List V->Hp->VK->Prop):Prop :=
 ∀(pins:List (Addr×Obj)) (s:Shared) (σ:St) (H:Hp) (x:V) (xs:List V) (v:Value) (us:List Value) (Q:VK),Inv X pins σ H s->RelV x v->Vals xs us->r x xs H Q ->
  wpAny (model X.prog X.w) X.A (call (.builtin id) (v::us)) (EP X pins σ Q) X.xe s
section
variable {X:Cx}{a b:Expr}{ta tb:TE}{pos:Pos}
def IxR.or{r r':R2}(h:IxR X r)(h':IxR X r'):IxR X (λx y H Q=>r x y H Q\/r' x y H Q):=by
 intro value slice pins s σ H x y v u Q I rx ry q hs
 rcases q with q|q
 ·exact h value slice pins s σ H x y v u Q I rx ry q hs
 ·exact h' value slice pins s σ H x y v u Q I rx ry q hs
def fL{r:R2}(hr:IxR X r)(ha:PE X a ta)(hb:PE X b tb)(hs:oJ b):PE X (.Subscript a b pos) (tOp r ta tb):=by
 intro pins s σ H Q I h
 exact Subscript_ (RZ ha hb I h λv u s2 x y H2 I2 rx ry q=>hr a b pins s2 σ H2 x y v u Q I2 rx ry q (hs _ _))
def V0(K:Ú):R2:=λx y H Q=>∃p xs i v,x=.ref p/\y=.int i/\SqL K H p xs/\atI xs i=some v/\Q v H
def VR(K:Ú):R2:=λx y H Q=>∃p xs i v,x=.ref p/\y=.int i/\SqT K H p xs/\atI xs i=some v/\Q v H
def cQ:IxR X (V0 X.K):=by
 intro value slice pins s σ H x y v u Q I rx ry h hs
 obtain⟨p,xs,i,z,rfl,rfl,hq,he,q⟩:=h
 cases rx
 obtain⟨t,rfl⟩:=ry
 obtain⟨its,r,pl,hz⟩:=I.list hq
 obtain⟨j,h1,h2,h3,h4,h5⟩:=Ej he
 obtain⟨w,ew,rw'⟩:=r.get h2
 have hl:=r.length
 have hn:=wM
 have fin:EP X pins σ Q w s:=⟨z,H,I,rw',q⟩
 by_cases h0:0<=i
 ·have hj:i.toNat=j:=by
   rw[seqIndex_of h0 h5] at h1
   exact á h1
  exact item_listR pl.isList h0 (by omega) (by rw[hj];simpa using ew) fin hs
 ·have hj:(i+(its.toArray.size:Int)).toNat=j:=by
   rw[seqIndex_neg (by omega) h4] at h1
   rw[Í,←hl]
   exact á h1
  exact subscriptTail_builtinR (x:=w) pl.isList.typeIs slot_list_getitem.lookup
   (wpAny_getItem_list_neg (Q:=λr s'=>r=w/\EP X pins σ Q r s') pl.isList (by omega) (by rw[Í] <;> omega) (by omega) (by rw[hj];simpa using ew) ⟨rfl,fin⟩) hs
def wQ:IxR X (VR X.K):=by
 intro value slice pins s σ H x y v u Q I rx ry h hs
 obtain⟨p,xs,i,z,rfl,rfl,hq,he,q⟩:=h
 cases rx
 obtain⟨t,rfl⟩:=ry
 obtain⟨its,r,pl,hz⟩:=I.tuple hq
 obtain⟨j,h1,h2,h3,h4,h5⟩:=Ej he
 obtain⟨w,ew,rw'⟩:=r.get h2
 have hl:=r.length
 have hn:=wM
 have fin:EP X pins σ Q w s:=⟨z,H,I,rw',q⟩
 exact subscriptTail_builtinR (x:=w) pl.typeIs slot_tuple_getitem.lookup
  (getItem_tuple (j:=j) (Q:=λr s'=>r=w/\EP X pins σ Q r s') pl (by omega) (by omega) (by rw[Í,←hl];exact h1) (by simpa using ew) ⟨rfl,fin⟩) hs
def Ax(its:List Value)(n j:Nat)(u:Value):Ý (·.setIfInBounds j u) { cls:=.type "list",data:=.seq its.toArray n }={ cls:=.type "list",data:=.seq (its.set j u).toArray n }:=by
 simp[Ý]
def Inv.lst{pins:List (Addr×Obj)}{σ:St}{H:Hp}{s:Shared}{p:Addr}{xs:List V}(I:Inv X pins σ H s)(h:H p=some (.lst xs)) :
  ∃(its:List Value) (n:Nat),Vals xs its/\s.heap.get? p=some { cls:=.type "list",data:=.seq its.toArray n }/\xs.length<=sizeLine:=by
 obtain⟨z,its,n,r,e⟩:=I.hok p _ h
 exact⟨its,n,r,e,z⟩
def Inv.Q0{pins:List (Addr×Obj)}{σ:St}{H:Hp}{s:Shared}{p:Addr}{xs ys:List V}{its its':List Value}{n n':Nat}{f:Obj->Obj}(I:Inv X pins σ H s)(h:H p=some (.lst xs))(ho:s.heap.get? p=some { cls:=.type "list",data:=.seq its.toArray n })(hf:f { cls:=.type "list",data:=.seq its.toArray n }={ cls:=.type "list",data:=.seq its'.toArray n' })(r:Vals ys its')(hz:ys.length<=sizeLine)(t:Nat) :
  Inv X pins σ (upd H p (.lst ys)) { s with heap:=s.heap.update p f,toks:=t }:=by
 have e:(s.heap.update p f).get? p=some { cls:=.type "list",data:=.seq its'.toArray n' }:=by
  rw[Ų f ho (by rw[hf] <;> rfl),hf]
 refine I.write (x:=p) (e:=p) (by rw[h];trivial) (.inl rfl) (λb u hb q=>(ļ _ _ (Ĥ hb)).trans q) ⟨_,e⟩ ?_
 exact⟨hz,its',n',r,e⟩
def Ny:V->V->V->Hp->(Hp->Prop)->Prop:=λo i v H Q=>∃p xs k j,o=.ref p/\i=.int k/\H p=some (.lst xs)/\ixN xs.length k=some j/\Q (upd H p (.lst (xs.set j v)))
def set_list:Vm X Ny:=by
 intro pins s σ H o i v ov iv u Q I ro ri rv h
 obtain⟨p,xs,k,j,rfl,rfl,hp,hj,q⟩:=h
 cases ro
 obtain⟨t,rfl⟩:=ri
 obtain⟨its,n,r,ho,hz⟩:=I.lst hp
 obtain⟨h1,h2,h3,h4⟩:=Dp hj
 have hl:=r.length
 have hn:=wM
 have I':Inv X pins σ (upd H p (.lst (xs.set j v))) { s with heap:=s.heap.update p (Ý (·.setIfInBounds j u)) } :=
  I.Q0 hp ho (Ax its n j u) (r.set rv j) (by rw[List.length_set];exact hz) s.toks
 by_cases h0:0<=k
 ·have hk:k.toNat=j:=by
   rw[seqIndex_of h0 h4] at h1
   exact á h1
  exact W.ki_setAt ho h0 (by omega) (by rw[Í,←hl];exact h4) (by rw[hk];exact⟨_,I',q⟩)
 ·have hk:(k+(its.toArray.size:Int)).toNat=j:=by
   rw[seqIndex_neg (by omega) h3] at h1
   rw[Í,←hl]
   exact á h1
  exact W.ki_setBack ho (by omega) (by rw[Í,←hl];exact h3) (by omega) (by rw[hk];exact⟨_,I',q⟩)
def vD(lo hi:Option Int)(n:Nat):(sliceBounds lo hi none n).1=((HT.sIx n 0 lo:Nat):Int)/\(sliceBounds lo hi none n).2.1=((HT.sIx n n hi:Nat):Int)/\(sliceBounds lo hi none n).2.2=1:=by
 refine⟨?_,?_,rfl⟩
 ·cases lo with
  |none=>simp[sliceBounds,HT.sIx]
  |some i =>
   simp only[sliceBounds,HT.sIx,Option.getD_none,show(1:Int) > 0 by decide,if_true]
   by_cases h:i<0
   ·simp only[h,if_true] <;> omega
   ·simp only[h,if_false] <;> omega
 ·cases hi with
  |none=>simp[sliceBounds,HT.sIx]
  |some i =>
   simp only[sliceBounds,HT.sIx,Option.getD_none,show(1:Int) > 0 by decide,if_true]
   by_cases h:i<0
   ·simp only[h,if_true] <;> omega
   ·simp only[h,if_false] <;> omega
def tL(its:List Value)(lo hi:Option Int):slicePick its.toArray lo hi none=((its.drop (HT.sIx its.length 0 lo)).take (HT.sIx its.length its.length hi - HT.sIx its.length 0 lo)).toArray:=by
 obtain⟨h1,h2,h3⟩:=vD lo hi its.toArray.size
 unfold slicePick
 rw[h1,h2,h3]
 simp only[sliceRange_one,pick_run,Í] <;> rfl
def VP(K:Ú):V->Option Int->Option Int->Hp->VK->Prop:=λx lo hi H Q=>∃a xs,x=.ref a/\SqL K H a xs/\∀p,H p=none->Q (.ref p) (upd H p (.lst (sY xs lo hi)))
def Cq:SlR X (VP X.K):=by
 intro pins s σ H x v vl vu lo hi sl Q I rx hs pl pu h
 obtain⟨a,xs,rfl,hx,q⟩:=h
 cases rx
 obtain⟨its,r,ht,hz⟩:=I.list hx
 have hlen:=r.length
 refine⟨"list",_,slot_list_getitem.lookup,ht.isList.typeIs,?_⟩
 refine wpAny_getItem_list_slice ht.isList hs pl pu .none (by simp) ?_ (by rw[Í] <;> omega)
 rw[tL,←hlen]
 refine⟨.ref s.heap.objs.size,_,I.laid (t':=s.toks) (o:=.lst (sY xs lo hi)) (λb ob q=>Ó _ q) (Ì _) ?_,rfl,q _ (I.hok.fresh (Ì _))⟩
 exact⟨þ (qm xs lo hi) hz,_,0,(r.drop (HT.sIx xs.length 0 lo)).take (HT.sIx xs.length xs.length hi - HT.sIx xs.length 0 lo),ä _ rfl⟩
def fB:bI X (.builtin "len") (λxs H Q=>∃p ys,xs=[.ref p]/\(SqL X.K H p ys\/SqT X.K H p ys)/\Q (.int ys.length) H):=by
 intro pins s σ H xs us Q I r h
 obtain⟨p,ys,rfl,hq,q⟩:=h
 obtain⟨u,rfl,rx⟩:=vals1 r
 cases rx
 have hn:=wM
 rcases hq with hq|hq
 ·obtain⟨its,r',pl,hz⟩:=I.list hq
  have hlen:=r'.length
  exact Calls.call_len_list pl.isList (by simp only[Í] <;> omega) ⟨.int ys.length,H,I.tok _,⟨s.toks+1,by rw[Í,hlen]⟩,q⟩
 ·obtain⟨its,r',pl,hz⟩:=I.tuple hq
  have hlen:=r'.length
  exact len_tuple pl (by simp only[Í] <;> omega) ⟨.int ys.length,H,I.tok _,⟨s.toks+1,by rw[Í,hlen]⟩,q⟩
def xK:bI X (.type "list") (λxs H Q=>∃p ys,xs=[.ref p]/\(SqL X.K H p ys\/SqT X.K H p ys)/\∀l,H l=none->Q (.ref l) (upd H l (.lst ys))):=by
 intro pins s σ H xs us Q I r h
 obtain⟨p,ys,rfl,hq,q⟩:=h
 obtain⟨u,rfl,rx⟩:=vals1 r
 cases rx
 have fin:∀(its:List Value),Vals ys its->ys.length<=sizeLine->∀(h':Heap) (c':Nat),(∀b o',s.heap.get? b=some o'->h'.get? b=some o') ->
   h'.get? s.heap.objs.size=some { cls:=.type "list",dict:=none,data:=.seq its.toArray c',slots:=#[] }->EP X pins σ Q (.ref s.heap.objs.size) { s with heap:=h' }:=λits r' hz h' c' kp e =>
  ⟨.ref s.heap.objs.size,_,I.laid (t':=s.toks) kp (Ì _) (show bY X.prog X.w _ h' _ (.lst ys) from⟨hz,its,c',r',e⟩),rfl,q _ (I.hok.fresh (Ì _))⟩
 rcases hq with hq|hq
 ·obtain⟨its,r',pl,hz⟩:=I.list hq
  have hlen:=r'.length
  obtain⟨o,ho,hc,n,hd⟩:=pl.isList
  exact call_list_seq p (.inl rfl) ho hc hd (λh' c' kp e=>fin its r' hz h' c' kp e) (by simp only[Í] <;> omega)
 ·obtain⟨its,r',pl,hz⟩:=I.tuple hq
  have hlen:=r'.length
  obtain⟨o,ho,hc,n,hd⟩:=pl
  exact call_list_seq p (.inr rfl) ho hc hd (λh' c' kp e=>fin its r' hz h' c' kp e) (by simp only[Í] <;> omega)
def tW:bI X (.type "tuple") (λxs H Q=>∃p ys,xs=[.ref p]/\((SqL X.K H p ys/\∀l,H l=none->Q (.ref l) (upd H l (.tup ys)))\/(SqT X.K H p ys/\Q (.ref p) H))):=by
 intro pins s σ H xs us Q I r h
 obtain⟨p,ys,rfl,h⟩:=h
 obtain⟨u,rfl,rx⟩:=vals1 r
 cases rx
 rcases h with ⟨hq,q⟩|⟨hq,q⟩
 ·obtain⟨its,r',pl,hz⟩:=I.list hq
  have hlen:=r'.length
  refine call_tuple_list pl.isList (λh' kp=>?_) (by simp only[Í] <;> omega)
  have I1:Inv X pins σ H { s with heap:=h' }:=I.kept (t':=s.toks) kp
  have I2:Inv X pins σ (upd H h'.objs.size (.tup ys)) { s with heap:=h'.push { cls:=.type "tuple",data:=.seq its.toArray } } :=
   I1.laid (t':=s.toks) (λb o e=>Ó _ e) (Ì _) (show bY X.prog X.w _ _ _ (.tup ys) from⟨hz,its,r',IsTup.new _ _⟩)
  exact⟨.ref h'.objs.size,_,I2,rfl,q _ (I1.hok.fresh (Ì _))⟩
 ·obtain⟨its,r',pl,hz⟩:=I.tuple hq
  exact call_tuple_same pl ⟨.ref p,H,I,rfl,q⟩
def tyV(K:Ú)(T:String)(x:V)(H:Hp):Prop:=match x with
 |.str _=>T="str"
 |.int _=>T="int"
 |.ref p=>(T="list"/\∃xs,SqL K H p xs)\/(T="tuple"/\∃o,K.lookup p=some o/\o.cls=.type "tuple"/\o.dict=none) ∨
   (T="dict"/\((∃kvs,H p=some (.dK kvs))\/∃kvs,H p=some (.dT kvs)))\/(T="set"/\∃S n,H p=some (.set S n))
 |_=>False
def Pu{pins:List (Addr×Obj)}{σ:St}{H:Hp}{s:Shared}{T:String}{x:V}{v:Value}(I:Inv X pins σ H s)(r:RelV x v)(ty:tyV X.K T x H) :
  s.TypeIs v T/\∀a,v=.ref a->∃ob,s.heap.get? a=some ob/\ob.dict=none:=by
 cases x with
 |str z =>
  obtain⟨t,rfl⟩:=r
  cases (show T="str" from ty)
  exact⟨typeIs_str s z t,λ_ e=>nomatch e⟩
 |int i =>
  obtain⟨t,rfl⟩:=r
  cases (show T="int" from ty)
  exact⟨typeIs_int s i t,λ_ e=>nomatch e⟩
 |ref p =>
  cases r
  rcases ty with ⟨rfl,xs,hq⟩|⟨rfl,o,hk,hc,hd⟩|⟨rfl,hk⟩|⟨rfl,S,n,hk⟩
  ·obtain⟨its,_,pl,_⟩:=I.list hq
   refine⟨pl.isList.typeIs,λa e=>?_⟩
   cases e
   obtain⟨o,n,e,c,hd,_⟩:=pl
   exact⟨o,e,hd⟩
  ·refine⟨⟨o,I.kIn p o hk,hc⟩,λa e=>?_⟩
   cases e
   exact⟨o,I.kIn _ o hk,hd⟩
  ·have z:∃o,s.heap.get? p=some o/\o.ExactDict:=by
    rcases hk with ⟨kvs,hk⟩|⟨kvs,hk⟩
    ·obtain⟨_,_,_,_,o,_,_,e,ex,_⟩:=I.hok p _ hk
     exact⟨o,e,ex⟩
    ·obtain⟨_,_,_,_,o,_,_,e,ex,_⟩:=I.hok p _ hk
     exact⟨o,e,ex⟩
   obtain⟨o,e,ex⟩:=z
   refine⟨⟨o,e,ex.1⟩,λa e2=>?_⟩
   cases e2
   exact⟨o,e,ex.2.1⟩
  ·obtain⟨o,_,_,_,e,ex,_⟩:=I.hok p _ hk
   refine⟨⟨o,e,ex.1⟩,λa e2=>?_⟩
   cases e2
   exact⟨o,e,ex.2.1⟩
 |_=>exact ĵ ty
def tBM(K:Ú)(T:String)(r:V->List V->Hp->VK->Prop)(to:TE)(t:TA):TE:=λσ H Q=>to σ H λx H1=>tyV K T x H1/\t σ H1 λxs H2=>r x xs H2 Q
variable {o e:Expr}{es:List Expr}{to:TE}{t:TA}{name:Str}{apos cpos:Pos}{T id:String}{r:V->List V->Hp->VK->Prop}
def gP(pa:PlainAttrs T)(slot:Slot T name id)(hty:typeOf (.builtin id)=pure (.type "method_descriptor"))(hm:MtR X id r)(ho:PE X o to)(ha:PA X (e::es) t)(hbase:attributeBase o name X.env (eval o X.env)=eval o X.env:=by rfl)(hfew:((backTo cpos (starEach (e::es) X.env)).all (λx=>!x.1)&&(backToKw cpos (keywordEach [] X.env)).all (λx=>x.1.isSome)
  &&decide ((e::es).length+([]:List Keyword).length+(if ([]:List Keyword).isEmpty then 0 else 1)<30))=true:=by rfl)(hline:(apos.endLine == cpos.line)=true:=by rfl)(hs:starEach (e::es) X.env=(false,eval e X.env)::starEach es X.env:=by rfl)(hplain:(backTo cpos (starEach es X.env)).any (·.1)=false:=by rfl) :
  PE X (.Call (.Attribute o name apos) (e::es) [] cpos) (tBM X.K T r to t):=by
 intro pins s σ H Q I h
 refine wpAny_Call_method_late hbase hfew hline rfl (thn (ho pins s σ H _ I h) λv s1 ⟨x,H1,I1,r1,ty,q1⟩=>?_)
 obtain⟨h1,h2⟩:=Pu I1 r1 ty
 refine⟨T,id,pa,slot,hty,h1,h2,?_⟩
 have hA:=ha cpos pins s1 σ H1 _ I1 q1
 rw[hs] at hA ⊢
 refine Calls.callWith_builtin (by show(false || (backTo cpos (starEach es X.env)).any (·.1))=false;rw[hplain] <;> rfl) (Calls.evalArgs_plain ?_)
 exact thn hA λus s2 ⟨vs,H2,I2,r2,q2⟩=>hm pins s2 σ H2 x vs v us Q I2 r1 r2 q2
/- xs.append(e),list.index on a module's tuple .. are MtR facts of 06m -/
end
def MtM(X:Cx)(id:String)(r:V->List V->Hp->VK->Prop):Prop :=
 ∀(pins:List (Addr×Obj)) (s:Shared) (σ:St) (H:Hp) (x:V) (xs:List V) (v:Value) (us:List Value) (Q:VK),Inv X pins σ H s->RelV x v->Vals xs us->r x xs H Q ->
  wpAny (model X.prog X.w) X.A (call (.builtin id) (v::us)) (EP X pins σ Q) X.xe s
def Vals.one:∀{x:V}{us:List Value},Vals [x] us->∃u,us=[u]/\RelV x u
 |_,_,.cons r .nil=>⟨_,rfl,r⟩
def Vals.two:∀{x y:V}{us:List Value},Vals [x,y] us->∃u v,us=[u,v]/\RelV x u/\RelV y v
 |_,_,_,.cons r (.cons q .nil)=>⟨_,_,rfl,r,q⟩
def Vals.eraseIdx:∀{xs:List V}{us:List Value} (i:Nat),Vals xs us->Vals (xs.eraseIdx i) (us.eraseIdx i)
 |_,_,_,.nil=>.nil
 |_,_,0,.cons _ t=>t
 |_,_,i+1,.cons r t=>.cons r (Vals.eraseIdx i t)
def Vals.rep{xs:List V}{us:List Value}(h:Vals xs us):∀k:Nat,Vals (É k xs).flatten (É k us).flatten
 |0=>.nil
 |k+1=>by
  rw[Ą,Ą,ë,ë]
  exact Vals.append h (Vals.rep h k)
def uN{α:Type}:∀(l:List α) (i:Nat),(l.eraseIdx i).length<=l.length
 |[],_=>Ì _
 |_::_,0=>Ĺ _
 |_::r,i+1=>Nat.succ_le_succ (uN r i)
def foldl_rep(its:List Value):∀(k:Nat) (acc:List Value),
  List.foldl (λx1 x2=>x1++x2) acc.toArray (É k its.toArray)=(acc++(É k its).flatten).toArray
 |0,acc=>by simp
 |k+1,acc=>by
  have e:acc.toArray++its.toArray=(acc++its).toArray:=by simp
  have e2:(acc++its)++(É k its).flatten=acc++(É (k+1) its).flatten:=by
   rw[Ą,ë,Ĳ]
  rw[←e2,←foldl_rep its k (acc++its),←e,Ą,List.foldl_cons]
section
variable {X:Cx}{pins:List (Addr×Obj)}{σ:St}{H:Hp}{s:Shared}{l b:Addr}{xs ys zs:List V}
def Inv.Mt{its its':List Value}{n:Nat}{f:Array Value->Array Value}{t':Nat}(I:Inv X pins σ H s)(hH:H l=some (.lst xs))(e:s.heap.get? l=some { cls:=.type "list",data:=.seq its.toArray n })(hf:f its.toArray=its'.toArray)(hv:Vals ys its')(hz:ys.length<=sizeLine) :
  Inv X pins σ (upd H l (.lst ys)) { s with heap:=s.heap.update l (Ý f),toks:=t' }:=by
 have q:=PySem.IsL.update e f
 rw[hf] at q
 refine I.write (x:=l) (e:=l) (by rw[hH];exact trivial) (.inl rfl) (λb' u hb hu=>(ļ s.heap (Ý f) (Ĥ hb)).trans hu) ⟨_,q⟩ ?_
 exact⟨hz,its',_,hv,q⟩
def Inv.Uj{its:List Value}{t':Nat}(I:Inv X pins σ H s)(hv:Vals ys its)(hz:ys.length<=sizeLine) :
  Inv X pins σ (upd H s.heap.objs.size (.lst ys)) { s with heap:=s.heap.push { cls:=.type "list",data:=.seq its.toArray },toks:=t' } :=
 I.laid (λ_ _ q=>Ó _ q) (Ì _) ⟨hz,its,0,hv,ä _ rfl⟩
def Inv.fresh(I:Inv X pins σ H s):H s.heap.objs.size=none:=I.hok.fresh (Ì _)
def Inv.yP(I:Inv X pins σ H s)(hH:H l=some (.lst xs)):xs.length<=sizeLine/\∃(its:List Value) (n:Nat),Vals xs its/\xs.length=its.length/\s.heap.get? l=some { cls:=.type "list",data:=.seq its.toArray n }:=by
 obtain⟨z,its,n,r,e⟩:=I.hok l _ hH
 exact⟨z,its,n,r,r.length,e⟩
def yL{n:Nat}(h:n<=sizeLine):Ż n=false:=by
 unfold Ż
 exact decide_eq_false (by omega)
end
section
variable {X:Cx}
def vM:V->List V->Hp->VK->Prop:=λx vs H Q=>∃l xs y,x=.ref l/\vs=[y]/\H l=some (.lst xs)/\xs.length<sizeLine/\Q .non (upd H l (.lst (xs++[y])))
def gZ:MtM X "list.append" vM:=by
 intro pins s σ H x vs v us Q I rx rv h
 obtain⟨l,xs,y,rfl,rfl,hH,hz,q⟩:=h
 cases rx
 obtain⟨u,rfl,ru⟩:=rv.one
 obtain⟨z,its,n,r,hl,e⟩:=I.yP hH
 refine call_meets F.slot_list_append ⟨_,e,rfl⟩ F.entry_list_append (F.args_list_append_2 _ _) (PySem.list_append l its.toArray n u (by rw[Í];omega)) ⟨e,?_⟩
 refine⟨.non,_,I.Mt (its':=its++[u]) hH e (by simp) (r.append (.cons ru .nil)) ?_,rfl,q⟩
 rw[È,Ü]
 omega
def CJ:V->List V->Hp->VK->Prop:=λx vs H Q=>∃l b xs zs,x=.ref l/\vs=[.ref b]/\H l=some (.lst xs)/\H b=some (.lst zs)/\xs.length+zs.length<=sizeLine/\Q .non (upd H l (.lst (xs++zs)))
def gY:MtM X "list.extend" CJ:=by
 intro pins s σ H x vs v us Q I rx rv h
 obtain⟨l,b,xs,zs,rfl,rfl,hH,hB,hz,q⟩:=h
 cases rx
 obtain⟨u,rfl,ru⟩:=rv.one
 cases ru
 obtain⟨z,its,n,r,hl,e⟩:=I.yP hH
 obtain⟨z2,its2,n2,r2,hl2,e2⟩:=I.yP hB
 have hsz:its.toArray.size+its2.toArray.size<=sizeLine:=by rw[Í,Í];omega
 have hlong:¬(!its.toArray.isEmpty&&Ż (its.toArray.size+its2.toArray.size))=true:=by
  rw[yL hsz,Bool.and_false]
  exact Ò
 refine call_meets F.slot_list_extend ⟨_,e,rfl⟩ F.entry_list_extend (F.args_list_extend_2 _ _)
  (AutoSeq1.list_extend_list_list_0 l its.toArray n b its2.toArray n2 hlong (by rw[Í];omega) (by omega)) ⟨e,e2,?_⟩
 refine⟨.non,_,I.Mt (its':=its++its2) hH e (by simp) (r.append r2) ?_,rfl,q⟩
 rw[È]
 omega
def Tw:R2:=λx y H Q=>∃l b xs zs,x=.ref l/\y=.ref b/\H l=some (.lst xs)/\H b=some (.lst zs)/\xs.length+zs.length<=sizeLine/\∀p,H p=none->Q (.ref p) (upd H p (.lst (xs++zs)))
def Ja:OpR X (binaryOp .Add) Tw:=by
 intro pins s σ H x y v u Q I rx ry h
 obtain⟨l,b,xs,zs,rfl,rfl,hH,hB,hz,q⟩:=h
 cases rx
 cases ry
 obtain⟨z,its,n,r,hl,e⟩:=I.yP hH
 obtain⟨z2,its2,n2,r2,hl2,e2⟩:=I.yP hB
 refine PySem.P.add_list e e2 ?_ (by rw[Í,Í];omega)
 have ea:its.toArray++its2.toArray=(its++its2).toArray:=by simp
 rw[ea]
 exact⟨.ref _,_,I.Uj (t':=s.toks) (r.append r2) (by rw[È];omega),rfl,q _ I.fresh⟩
def Tr:R2:=λx y H Q=>∃l k xs,x=.ref l/\y=.int k/\H l=some (.lst xs)/\-(2 ^ 63)<=k/\k<2 ^ 63/\xs.length * k.toNat<=sizeLine /\
 ∀p,H p=none->Q (.ref p) (upd H p (.lst (É k.toNat xs).flatten))
def len_rep{α:Type}(xs:List α)(k:Nat):(É k xs).flatten.length=k * xs.length:=by
 induction k with
 |zero=>simp
 |succ k ih=>rw[Ą,ë,È,ih,Nat.succ_mul,Nat.add_comm]
def Ir:OpR X (binaryOp .Mult) Tr:=by
 intro pins s σ H x y v u Q I rx ry h
 obtain⟨l,k,xs,rfl,rfl,hH,h1,h2,hz,q⟩:=h
 cases rx
 obtain⟨t,rfl⟩:=ry
 obtain⟨z,its,n,r,hl,e⟩:=I.yP hH
 have hlen:its.toArray.size * k.toNat<=sizeLine:=by rw[Í,←hl];exact hz
 have hcap:¬its.toArray.size * k.toNat > (2 ^ 63 - 1) / 8:=by
  have:(sizeLine:Nat)<=(2 ^ 63 - 1) / 8:=by decide
  omega
 have hfit:¬(!Builtin.List.listFitsIndex k)=true:=by
  rw[fitsIndex_both h1 h2]
  exact Ò
 have hlong:¬Ż (its.toArray.size * k.toNat)=true:=by
  rw[yL hlen]
  exact Ò
 have hnew:List.foldl (λx1 x2=>x1++x2) #[] (É (if its.toArray.isEmpty=true then 0 else k.toNat) its.toArray)=(É k.toNat its).flatten.toArray:=by
  have f0:∀m:Nat,List.foldl (λx1 x2=>x1++x2) #[] (É m its.toArray)=(É m its).flatten.toArray:=λm=>by
   have:=foldl_rep its m []
   rw[List.nil_append] at this
   exact this
  rw[f0]
  cases its with
  |nil=>simp
  |cons a r'=>rw[if_neg (by simp)]
 refine wpAny_binaryOp_repeat_ref (T:="list") (U:="int") (by decide) ⟨_,e,rfl⟩ (λs'=>typeIs_int s' k t) noFill_list_mul F.fills_int_mul F.slot_int_rmul repeat_list F.slot_int_index.lookup
  (call_meets F.slot_int_rmul (typeIs_int s k t) F.entry_int_rmul (F.args_int_rmul_2 _ _) (int___rmul___int_list k t l its.toArray n)
   ⟨e,rfl,⟨_,e,rfl⟩,call_meets F.slot_list_mul ⟨_,e,rfl⟩ F.entry_list_mul (F.args_list_mul_2 _ _) (AutoListH.list___mul___list_int_3 l its.toArray n k t hfit hcap hlong) ⟨e,?_⟩⟩)
 rw[hnew]
 exact⟨.ref _,_,I.Uj (t':=s.toks) (r.rep k.toNat) (by rw[len_rep,Nat.mul_comm];exact hz),rfl,q _ I.fresh⟩
end
section
variable {prog:Program}{w:World}{A:Around}{E:Value->Shared->Prop}{s:Shared}
end
section
variable {X:Cx}
end
end L2
namespace Att
open PySem PySem.W PySem.Calls PyProof.Rows
def qw{P:Params}{h:Heap}:∀(ns:List Int) (vs:List Value),WellAll P h vs (ns.map WData.int)->IntsAre vs ns:=by
 intro ns
 induction ns with
 |nil =>
  intro vs w
  rw[List.map_nil] at w
  cases w
  exact .nil
 |cons n ns ih =>
  intro vs w
  rw[à] at w
  cases w with
  |cons a b =>
   cases a
   exact .cons _ _ (ih _ b)
def Er{l:OpenLaw}{n:Nat}(hn:l.most=some n){P:Params}{h:Heap}{args:List WData}{vals:List Value}(hpre:l.row.toRowW.claim.pre args=true)(hwl:WellAll P h vals args) :
  ∃a vs ns,vals=[ŋ a]/\args=[WData.list (ns.map WData.int)]/\h.get? a=some { cls:=.type "list",data:=.seq vs.toArray }/\IntsAre vs ns/\ns.length<=n:=by
 have hsh:WShape.hasAll [] args [.list .int]=true:=(pre_splitW hpre).1
 have hc:l.pre.holds [] { args:=args }=true:=(pre_splitW hpre).2
 obtain⟨d,r,rfl,h1,h2⟩:=hasAllW_cons hsh
 obtain rfl:=hasAllW_nil h2
 obtain⟨xs,rfl,h3⟩:=hasW_list h1
 obtain⟨ns,rfl⟩:=items_int h3
 have hlen:ns.length<=n:=by
  unfold OpenLaw.pre at hc
  have h4:(WTm.not (.lt (.lit (.int (n:Int))) (.len (.arg 0)))).holds [] { args:=[.list (ns.map .int)] }=true:=by
   have h4:=(holds_andW hc).1
   rw[hn] at h4
   exact h4
  have h5:=condW_of h4 (w_not (w_lt w_lit (w_len_list (w_arg rfl))))
  rw[Á] at h5
  refine Nat.le_of_not_lt λq=>?_
  have q':(n:Int)<((ns.length:Nat):Int):=by omega
  first
   |(rw[decide_eq_true q'] at h5;exact absurd h5 (by decide))
   |(simp at h5;omega)
 cases hwl with
 |cons w1 w2 =>
  cases w2
  cases w1 with
  |list ho hall=>exact⟨_,_,ns,rfl,rfl,ho,qw ns _ hall,hlen⟩
def Eu(l:OpenLaw)(args:List WData):l.row.toRowW.claim.post args (.bool true) args=true :=
 postW_of (r:=l.row.toRowW) (X:=(true == true))
  (show WShape.has [] (.bool true) .bool=true by first|rfl|decide|simp[WShape.has,WShape.arms,WShape.armsAll])
  (show(WTm.eq .res (.lit (.bool true))).value [] { args:=args,res:=some (.bool true),after:=args }=some (.bool (true == true)) from w_eq_bool (w_res rfl) w_lit) rfl
def zJ{l:OpenLaw}{n:Nat}{q:Program}{loose:List Str}{XP:(Str->Option Value)->Heap->Prop}{YP:World->Heap->Prop}{d:DefRec}(hn:l.most=some n)(hdf:d.params.defaults=[])(call:∀(w:World) (s₀ s₁:Shared) (mg mb:Str->Option Value) (fa:Addr) (o:Obj) (pm cd doc:Value) (a:Addr) (vs:List Value) (ns:List Int),
   Ground q loose [] XP w s₀ mg mb s₁.heap->YP w s₁.heap ->
   s₁.heap.get? fa=some o->o.data=.func (docDef d.name d.params d.body d.scope pm cd doc)->s₁.heap.CodeRec cd d.name->mg d.name=some (.ref fa) ->
   s₁.heap.get? a=some { cls:=.type "list",data:=.seq vs.toArray }->IntsAre vs ns->ns.length<=n->s₁.gens=#[] ->
   codeAny (model l.prog w) callerA (.call (.ref fa) ⟨[.ref a],[]⟩) (λr s'=>r=.ok (.ret (.bool true))/\OldK s₁.heap s'.heap/\s'.os=s₁.os/\AllBare s'.gens) s₁) :
  WalkO q loose XP YP l.row.toRowW d [] (λf vs=>PySem.call f vs):=by
 intro w s₀ s₁ mg mb G Y fa o pm cd doc dV kV ho hd hcd hD hmg hg args vals as hpre hlay hrd hwl hlo
 obtain rfl:dV=.none:=Dflts.none hD hdf
 obtain rfl:kV=.none:=Dflts.noKw hD
 obtain⟨a,vs,ns,rfl,rfl,hobj,hints,hlen⟩:=Er hn hpre hwl
 refine enter_call (codeAny_mono (call w s₀ s₁ mg mb fa o pm cd doc a vs ns G Y ho (fd_plain hd) hcd hmg hobj hints hlen hg) λr s' hq=>?_)
 obtain⟨rfl,h2,h3,h4⟩:=hq
 exact⟨.inl ⟨.bool true,.bool true,[],rfl,λ_=>rfl,.bool true,Eu l _,λ_=>⟨List.Pairwise.nil,λ_ hm=>(nomatch hm)⟩⟩,h2,h3,h4⟩
section
variable {prog:Program}{w:World}{A:Around}{E:Value->Shared->Prop}{s:Shared}{K:Frag}
def ledger(h:Heap)(L d:Addr):List (Addr×Obj):=(Þ h.objs.size).filterMap λa=>if a=L\/a=d then none else (h.get? a).map λo=>(a,o)
end
end Att
namespace L2
open PySem PySem.Spec PyProof.Rows
def oN:∀{vs:List Value}{ns:List Int},IntsAre vs ns->Vals (ns.map V.int) vs
 |_,_,.nil=>.nil
 |_,_,.cons n t h=>.cons ⟨t,rfl⟩ (oN h)
def d9(s:Stmt):Arguments:=match s with
 |.FunctionDef _ a _ _ _ _ _ _ _ _=>a
 |_=>{ posonlyargs:=[],args:=[],vararg:=none,kwonlyargs:=[],kw_defaults:=[],kwarg:=none,defaults:=[] }
def bT(s:Stmt):List Stmt:=match s with
 |.FunctionDef _ _ b _ _ _ _ _ _ _=>b
 |_=>[]
def ao(s:Stmt):Scope:=match s with
 |.FunctionDef _ _ _ _ _ _ sc _ _ _=>sc
 |_=>{ kind:=.function,names:=[],isGenerator:=false,isCoroutine:=false }
abbrev CX0:CXT:=λ_ _ _ _ _ _=>False
abbrev E0:XK:=λ_ _ _=>False
def NT{X:Cx}:Passes CX0 X E0:=λ_ _ _ _ _ _ _ h=>h.elim
structure Fun(K:Ú)(x qual:Str)(st:Stmt)(f:Addr)(fd:FuncData):Prop where
 ex:∃(oc:Value) (od:Option Addr) (kV doc pm:Value) (an:Option Addr) (cdv ct:Value) (osl:Array (Option Value)),
  fd=W.fnOf x qual (d9 st) (bT st) (ao st) .none kV doc pm an cdv ct/\K.lookup f=some ⟨oc,od,.func fd,osl⟩/\W.codeIn K cdv qual=true
 kp:W.keepIn K (.ref f)=true
section
variable {P:Program}{w:World}{K:Ú}{mg:Str->Option Value}{base:Heap}
def Fun.ok{x qual:Str}{st:Stmt}{f:Addr}{fd:FuncData}{N ps:List Str}{k:Nat}{sp:Sp}(F:Fun K x qual st f fd)(S:FnScope N ps (ao st))(len:∀vs H Q E,sp vs H Q E->vs.length=ps.length)(hbody:∀(cdv:Value) (A:Around) (outer:List Env) (s:Shared) (H:Hp) (vs:List V) (Q:VK) (E:XK),Room k (A.deeper (envOfC qual (ao st) s.heap.objs.size f cdv))->sp vs H Q E ->
   ∃t,PSs (zf CX0 P w K mg base N qual (ao st) f cdv A outer s H E).nox (bT st) t/\t { nx:=λ_ H'=>Q .non H',rt:=Q } (start N vs) H):FnOk P w K mg base CX0 (k+1) f fd ps sp:=by
 obtain⟨oc,od,kV,doc,pm,an,cdv,ct,osl,rfl,lk,hcd⟩:=F.ex
 refine JT lk hcd S len λA outer s H vs Q E hr hsp=>?_
 obtain⟨t,h,q⟩:=hbody cdv A outer s H vs Q E hr hsp
 exact⟨t,h.nox,q⟩
def Fun.binds{x qual:Str}{st:Stmt}{f:Addr}{fd:FuncData}{ps:List Str}(F:Fun K x qual st f fd)(h:∀(kV doc pm:Value) (an:Option Addr) (cdv ct:Value) (us:List Value),us.length=ps.length->bindArgs (W.fnOf x qual (d9 st) (bT st) (ao st) .none kV doc pm an cdv ct) ⟨us,[]⟩=pure (ps.zip us):=by intro _ _ _ _ _ _ us hl;first|(obtain⟨_,rfl⟩:=Nf.len1 us hl;rfl)|(obtain⟨_,_,rfl⟩:=Nf.len2 us hl;rfl)|(obtain⟨_,_,_,rfl⟩:=Nf.V9 us hl;rfl)):Binds K fd ps []:=by
 obtain⟨oc,od,kV,doc,pm,an,cdv,ct,osl,rfl,lk,hcd⟩:=F.ex
 exact .all (h kV doc pm an cdv ct)
def Rt{x qual:Str}{st:Stmt}{f:Addr}{oc:Value}{od an:Option Addr}{osl:Array (Option Value)}{kV doc pm cdv ct:Value}(l:K.lookup f=some ⟨oc,od,.func (W.fnOf x qual (d9 st) (bT st) (ao st) .none kV doc pm an cdv ct),osl⟩)(c:W.codeIn K cdv qual=true)(k:W.keepIn K (.ref f)=true):Fun K x qual st f (W.fnOf x qual (d9 st) (bT st) (ao st) .none kV doc pm an cdv ct):=⟨⟨oc,od,kV,doc,pm,an,cdv,ct,osl,rfl,l,c⟩,k⟩
end
section
variable {X:Cx}
def pv(i:Nat){x:Str}{pos:Pos}(hN:X.N[i]?=some x:=by rfl)(hv:Vis X.env.scope x:=by first|exact ć rfl|exact Or.inr (ć rfl)|exact Or.inr (Or.inr rfl))(hd:(x == ("__debug__":Str))=false:=by decide)(hcd:(x == ("__classdict__":Str))=false:=by decide):PE X (.Name x pos) (iH i):=Ql hN hv hd hcd
end
def aX{A B:Prop}(h:B):if false=true then A else B:=by
 rw[if_neg Ò]
 exact h
def aM{A B:Prop}(h:A):if true=true then A else B:=by
 rw[if_pos rfl]
 exact h
def fZ{c A B:Prop}[Decidable c](h1:c->A)(h2:¬c->B):if c then A else B:=by
 by_cases h:c
 ·rw[if_pos h]
  exact h1 h
 ·rw[if_neg h]
  exact h2 h
def Same(H H':Hp):Prop:=∀b o,H b=some o->H' b=some o
def Same.refl(H:Hp):Same H H:=λ_ _ h=>h
def Same.trans{H H1 H2:Hp}(a:Same H H1)(b:Same H1 H2):Same H H2:=λc o h=>b c o (a c o h)
structure CB where
 cl:List (Str×Addr)
 C:Addr
 s:Shared
 H:Hp
 ex:List Addr
abbrev Cx.aQ(X:Cx)(own M:List Str)(scope:Scope)(c:CB):Cx where
 prog:=X.prog
 w:=X.w
 K:=X.K
 mg:=X.mg
 base:=X.base
 A:=X.A
 N:=own++M
 s₀:=c.s
 H₀:=c.H
 env:=compEnvC scope c.cl c.C X.env
 outer:=X.stack
 stack:=X.stack
 ex:=c.ex
 fn:=λx=>scope.names.lookup x == some .cell
 calm:=X.calm
 pn:=[]
 sf:=X.sf
 xe:=λ_ _=>False
abbrev Cx.comp(X:Cx)(own:List Str)(scope:Scope)(c:CB):Cx:=X.aQ own X.N scope c
def dh(cells:List (Str×Addr)):List (Str×NameKind)->List (Str×Addr)->List (Str×Addr)
 |[],acc=>acc
 |(n,k)::r,acc=>if k == .free then dh cells r ((n,(cells.lookup n).getD 0)::acc) else dh cells r acc
def iZ{env:Env}:∀(names:List (Str×NameKind)) (acc:List (Str×Addr)),(∀x∈names,x.2=.free->∃c,env.cells.lookup x.1=some c) ->
  (forIn names acc λ(p:Str×NameKind) (r:List (Str×Addr))=>match p with
   |(name,kind)=>if (kind == ü)=true then do let a ←cellOf env name;pure (Ħ ((name,a)::r)) else pure (Ħ r):Sem (List (Str×Addr)))=pure (dh env.cells names acc)
 |[],acc,_=>by simp[dh]
 |(n,k)::r,acc,h=>by
  rw[List.forIn_cons]
  by_cases hk:(k == ü)=true
  ·obtain⟨c,hc⟩:=h (n,k) Æ (by simpa using hk)
   have e:cellOf env n=pure c:=by unfold cellOf;rw[hc]
   have ih:=iZ (env:=env) r ((n,c)::acc) λx hx=>h x (Ã _ hx)
   show((if (k == ü)=true then do let a ←cellOf env n;pure (Ħ ((n,a)::acc)) else pure (Ħ acc)) >>= _:Sem _)=_
   rw[if_pos hk,e]
   unfold dh
   rw[if_pos hk,hc]
   exact ih
  ·have ih:=iZ (env:=env) r acc λx hx=>h x (Ã _ hx)
   show((if (k == ü)=true then do let a ←cellOf env n;pure (Ħ ((n,a)::acc)) else pure (Ħ acc)) >>= _:Sem _)=_
   rw[if_neg hk]
   unfold dh
   rw[if_neg hk]
   exact ih
def BK{scope:Scope}{env:Env}(h:∀x∈scope.names,x.2=.free->∃c,env.cells.lookup x.1=some c):closureFor scope env=pure (dh env.cells scope.names []):=by
 have e:=iZ (env:=env) scope.names [] h
 unfold closureFor
 show(forIn scope.names [] _ >>= λcs=>pure cs:Sem _)=_
 have e2:(forIn scope.names ([]:List (Str×Addr)) λ(p:Str×NameKind) (r:List (Str×Addr))=>match p with
   |(name,kind)=>if (kind == ü)=true then do let a ←cellOf env name;pure (Ħ ((name,a)::r)) else pure (Ħ r):Sem (List (Str×Addr)))=pure (dh env.cells scope.names []):=e
 rw[e2]
 rfl
def ou{cells:List (Str×Addr)}{x:Str}{c:Addr}:∀{names:List (Str×NameKind)}{acc:List (Str×Addr)},(dh cells names acc).lookup x=some c->acc.lookup x=some c\/((x,ü)∈names/\c=(cells.lookup x).getD 0)
 |[],acc,h=>.inl h
 |(n,k)::r,acc,h=>by
  unfold dh at h
  by_cases hk:(k == ü)=true
  ·rw[if_pos hk] at h
   have hk':k=.free:=by simpa using hk
   rcases ou h with q|⟨q1,q2⟩
   ·rw[Ċ] at q
    cases hx:x == n with
    |true =>
     rw[hx] at q
     have e:x=n:=by simpa using hx
     subst e hk'
     exact .inr ⟨Æ,(á q).symm⟩
    |false=>rw[hx] at q;exact .inl q
   ·exact .inr ⟨Ã _ q1,q2⟩
  ·rw[if_neg hk] at h
   rcases ou h with q|⟨q1,q2⟩
   ·exact .inl q
   ·exact .inr ⟨Ã _ q1,q2⟩
def tu{cells:List (Str×Addr)}{x:Str}:∀{names:List (Str×NameKind)}{acc:List (Str×Addr)},(acc.lookup x).isSome=true->((dh cells names acc).lookup x).isSome=true
 |[],_,h=>h
 |(n,k)::r,acc,h=>by
  unfold dh
  split
  ·refine tu ?_
   rw[Ċ]
   cases hx:x == n <;> simp[h]
  ·exact tu h
def jU{cells:List (Str×Addr)}{x:Str}:∀{names:List (Str×NameKind)}{acc:List (Str×Addr)},(x,ü)∈names->((dh cells names acc).lookup x).isSome=true
 |(n,k)::r,acc,h=>by
  unfold dh
  rcases Ñ.mp h with e|h
  ·cases e
   rw[if_pos (by rfl)]
   exact tu (by simp[Ċ])
  ·split
   ·exact jU h
   ·exact jU h
def gJ(env:Env)(scope:Scope)(N:List Str):Bool :=
 (scope.kind == .function)&&scope.names.all λy=>match y.2 with
  |.local=>!(N.contains y.1)&&(scope.names.lookup y.1 == some .local)
  |.cell=>!(N.contains y.1)&&(scope.names.lookup y.1 == some .cell)
  |.free=>(scope.names.lookup y.1 == some .free)&&(env.kindOf y.1 == some .cell || env.kindOf y.1 == some .free)
  |_=>true
def cV{env:Env}:∀{names:List (Str×NameKind)}{x:Str}{q:NameKind},(names.map λ(n,k)=>if (k == ü&&env.scope.kind == .function&&env.kindOf n == some .cell) then (n,Đ) else (n,k)).lookup x=some q ->
  ∃k,(x,k)∈names/\names.lookup x=some k/\(q=k\/(q=.cell/\k=.free))
 |[],_,_,h=>by simp at h
 |(n,k)::r,x,q,h=>by
  have ih:=@cV env r x q
  have h':List.lookup x ((if (k == ü&&env.scope.kind == .function&&env.kindOf n == some .cell)=true then (n,Đ) else (n,k))::(r.map λ(n,k)=>if (k == ü&&env.scope.kind == .function&&env.kindOf n == some .cell) then (n,Đ) else (n,k)))=some q:=h
  by_cases hc:(k == ü&&env.scope.kind == .function&&env.kindOf n == some .cell)=true
  ·rw[if_pos hc,Ċ] at h'
   cases hx:x == n with
   |true =>
    rw[hx] at h'
    have e:x=n:=by simpa using hx
    subst e
    have hk:k=.free:=by simp at hc;exact hc.1.1
    exact⟨k,Æ,by simp[Ċ],.inr ⟨(á h').symm,hk⟩⟩
   |false =>
    rw[hx] at h'
    obtain⟨k',h1,h2,h3⟩:=ih h'
    exact⟨k',Ã _ h1,by rw[Ċ,hx];exact h2,h3⟩
  ·rw[if_neg hc,Ċ] at h'
   cases hx:x == n with
   |true =>
    rw[hx] at h'
    have e:x=n:=by simpa using hx
    subst e
    exact⟨k,Æ,by simp[Ċ],.inl (á h').symm⟩
   |false =>
    rw[hx] at h'
    obtain⟨k',h1,h2,h3⟩:=ih h'
    exact⟨k',Ã _ h1,by rw[Ċ,hx];exact h2,h3⟩
def HOk.track{P:Program}{w:World}{H:Hp}{h:Heap}{a:Addr}{o:HO}(x:HOk P w H h)(hn:H a=none)(new:bY P w (upd H a o) h a o):HOk P w (upd H a o) h:=λb u e=>by
 by_cases hb:b=a
 ·subst hb;rw[au] at e;cases e;exact new
 ·rw[aq hb] at e
  exact(x b u e).stay (λc v _ q=>q) (λc q=>by rw[aq (aB q hn)];exact q) λc xs q=>by rw[aq (aB q hn)];exact q
def FZ{prog:Program}{w:World}{A:Around}{s:Shared}{elt target iter:Expr}{ifs:List Expr}{scope:Scope}{pos:Pos}{it acc:Value}{env:Env}{R:Result->Shared->Prop}(I:Nat->Shared->Prop)(turn:∀n s,I n s->wpAny (model prog w) A (pyNext it) (λr s₁=>match r with
   |none=>R (.ok .next) s₁
   |some v=>wpAny (model prog w) A (letOwnedTupleGo target it v) (λ_ s₀=>wpAny (model prog w) A (assign target env v) (λ_ s₂ =>
     wpAny (model prog w) A (forIn ifs true λc r=>if r=true then do let ok ←isTrue c env (eval c env);pure (Ħ ok) else pure (Ħ r)) (λok s₃ =>
      if ok=true then wpAny (model prog w) A (eval elt env) (λx s₄ =>
       wpAny (model prog w) A (call (.builtin "list.append") [acc,x]) (λ_ s₅=>∃m,m<n/\I m s₅) (λ_ _=>False) s₄) (λ_ _=>False) s₃
      else ∃m,m<n/\I m s₃) (λ_ _=>False) s₂) (λ_ _=>False) s₀) (λ_ _=>False) s₁) (λ_ _=>False) s)(n:Nat)(h:I n s):codeAny (model prog w) A (.compLoop (.ListComp elt [⟨target,iter,ifs,0⟩] scope pos) 0 it acc env) R s:=by
 refine codeAny_loop rfl I (λn s hI=>?_) n h
 show wpAny _ A ((compTurn (.ListComp elt [⟨target,iter,ifs,0⟩] scope pos) 0 it acc env).onRaise (λx=>do noteFrame x env;theTreesLotGoes x)) _ _ s
 refine wpAny_noted ?_
 rw[compTurn_list]
 refine Ä (wpAny_standAt (Ä (ň (turn n s hI) (λr s₁ h₁=>?_) λ_ _ h'=>h'.elim)))
 cases r with
 |none=>exact Ø h₁
 |some v =>
  refine Ä (ň h₁ (λ_ s₀ h₀'=>?_) λ_ _ h'=>h'.elim)
  refine Ä (ň h₀' (λ_ s₂ h₂=>Ä (ň h₂ (λok s₃ h₃=>?_) λ_ _ h'=>h'.elim)) λ_ _ h'=>h'.elim)
  cases ok with
  |false=>exact Ø ⟨rfl,h₃⟩
  |true =>
   exact Ä (Ä (ň h₃ (λx s₄ h₄=>Ä (ň h₄ (λ_ s₅ h₅=>Ø (Ø ⟨rfl,h₅⟩)) λ_ _ h'=>h'.elim)) λ_ _ h'=>h'.elim))
def PTs(X:Cx)(ifs:List Expr)(t:TT):Prop :=
 ∀(pins:List (Addr×Obj)) (s:Shared) (σ:St) (H:Hp) (Q:Bool->Hp->Prop),Inv X pins σ H s->t σ H Q ->
  wpAny (model X.prog X.w) X.A (forIn ifs true λc r=>if r=true then do let ok ←isTrue c X.env (eval c X.env);pure (Ħ ok) else pure (Ħ r)) (TP X pins σ Q) X.xe s
def Lf{X:Cx}:PTs X [] (λ_ H Q=>Q true H):=λ_ _ _ H _ I h=>wpAny_tests_nil ⟨H,I,h⟩
def Le{X:Cx}{c:Expr}{t:TT}(hc:PT X c t):PTs X [c] t:=λpins s σ H Q I h=>wpAny_tests_one (hc pins s σ H Q I h)
def Vo(J:It)(n:Nat)(g:CB->TG)(tt:CB->TT)(te:CB->TE)(σ:St)(Q:VK)(H:Hp):Prop:=∃W:Nat->Nat->List V->Hp->Prop,(∃m,W 0 m [] H)/\∀(c:CB) i m ys H,W i m ys H ->
 (J.stop i H/\∀p,H p=none->Q (.ref p) (upd H p (.lst ys))) ∨
 (J.go i H/\ys.length<sizeLine/\∃N:List V->Hp->Prop,(∀ys' H',N ys' H'->∃m',m'<m/\W (i+1) m' ys' H')/\∀x H',J.yld i H x H'->g c x (É n none++σ) H' λσ2 H2=>tt c σ2 H2 λb H3 =>
  if b=true then te c σ2 H3 λv H4=>N (ys++[v]) H4 else N ys H3)
def tLC(n:Nat)(wi:TI)(g:CB->TG)(tt:CB->TT)(te:CB->TE):TE:=λσ H Q=>wi σ H λJ H1=>Vo J n g tt te σ Q H1
section
variable {X:Cx}{own:List Str}{scope:Scope}{tg iter elt:Expr}{ifs:List Expr}{pos:Pos}{wi:TI}{g:CB->TG}{tt:CB->TT}{te:CB->TE}
def aV(env:Env)(scope:Scope)(N M:List Str):Bool :=
 gJ env scope M&&((N.length == M.length)&&(N.zip M).all λy=>y.1 == y.2 || ((y.2 == ("":Str))&&scope.names.all λz=>!(z.1 == ("":Str))))
def zq{env:Env}{N:List Str}(h:gJ env scope N=true):aV env scope N N=true:=by
 unfold aV
 rw[h,Bool.true_and,beq_self_eq_true,Bool.true_and,ę]
 rintro⟨a,b⟩ hy
 obtain⟨i,hi,e⟩:=List.mem_iff_getElem.mp hy
 rw[List.getElem_zip] at e
 cases e
 simp
variable {M:List Str}
def fu(h:aV X.env scope X.N M=true):scope.kind=.function:=by
 unfold aV gJ at h
 simp only[Û,beq_iff_eq] at h
 exact h.1.1
def bO(h:aV X.env scope X.N M=true):∀y∈scope.names,(y.2=.local->y.1∉M/\scope.names.lookup y.1=some .local)/\(y.2=.cell->y.1∉M/\scope.names.lookup y.1=some .cell)/\(y.2=.free->scope.names.lookup y.1=some .free/\(X.env.kindOf y.1=some .cell\/X.env.kindOf y.1=some .free)):=by
 unfold aV at h
 rw[Û] at h
 have h:=h.1
 unfold gJ at h
 rw[Û,ę] at h
 intro y hy
 have q:=h.2 y hy
 obtain⟨n,k⟩:=y
 cases k with
 |«local»=>simp at q ⊢;exact q
 |cell=>simp at q ⊢;exact q
 |free=>simp at q ⊢;exact q
 |globalExplicit=>simp
 |globalImplicit=>simp
def bf:∀(names:List (Str×NameKind)) (n:Nat) (acc:List (Str×Addr)),cellsFrom n names acc=cellsFrom n names []++acc
 |[],_,_=>rfl
 |(nm,k)::r,n,acc=>by
  show(if (k == Đ)=true then cellsFrom (n+1) r ((nm,n)::acc) else cellsFrom n r acc)=(if (k == Đ)=true then cellsFrom (n+1) r [(nm,n)] else cellsFrom n r [])++acc
  split
  ·rw[bf r (n+1) ((nm,n)::acc),bf r (n+1) [(nm,n)],Ĳ]
   rfl
  ·exact bf r n acc
def fC:∀(names:List (Str×NameKind)) (n:Nat) (x:Str) (c:Addr),(x,c)∈cellsFrom n names []->(x,Đ)∈names/\n<=c
 |[],_,_,_,h=>nomatch h
 |(nm,k)::r,n,x,c,h=>by
  have h:(x,c)∈(if (k == Đ)=true then cellsFrom (n+1) r [(nm,n)] else cellsFrom n r []):=h
  split at h
  ·rename_i hk
   rw[bf] at h
   rcases å.mp h with z|z
   ·obtain⟨h1,h2⟩:=fC r (n+1) x c z
    exact⟨Ã _ h1,by omega⟩
   ·have z:(x,c)=(nm,n):=by simpa using z
    cases z
    have hk:k=.cell:=by simpa using hk
    subst hk
    exact⟨Æ,Ì _⟩
  ·obtain⟨h1,h2⟩:=fC r n x c h
   exact⟨Ã _ h1,h2⟩
def pO:∀(names:List (Str×NameKind)) (n:Nat) (x y:Str) (c:Addr),(x,c)∈cellsFrom n names []->(y,c)∈cellsFrom n names []->x=y
 |[],_,_,_,_,h,_=>nomatch h
 |(nm,k)::r,n,x,y,c,h,h'=>by
  have h:(x,c)∈(if (k == Đ)=true then cellsFrom (n+1) r [(nm,n)] else cellsFrom n r []):=h
  have h':(y,c)∈(if (k == Đ)=true then cellsFrom (n+1) r [(nm,n)] else cellsFrom n r []):=h'
  by_cases hk:(k == Đ)=true
  ·rw[if_pos hk,bf] at h h'
   rcases å.mp h with z|z <;> rcases å.mp h' with z'|z'
   ·exact pO r (n+1) x y c z z'
   ·have:=(fC r (n+1) x c z).2
    have z':(y,c)=(nm,n):=by simpa using z'
    cases z'
    exact absurd this (Nat.not_succ_le_self _)
   ·have:=(fC r (n+1) y c z').2
    have z:(x,c)=(nm,n):=by simpa using z
    cases z
    exact absurd this (Nat.not_succ_le_self _)
   ·have z:(x,c)=(nm,n):=by simpa using z
    have z':(y,c)=(nm,n):=by simpa using z'
    cases z
    cases z'
    rfl
  ·rw[if_neg hk] at h h'
   exact pO r n x y c h h'
def j4:∀(names:List (Str×NameKind)) (h:Heap) (b:Addr) (o:Obj),h.get? b=some o->(pushCells h names).get? b=some o
 |[],_,_,_,e=>e
 |(nm,k)::r,h,b,o,e=>by
  show(if (k == Đ)=true then pushCells (h.push { cls:=ĕ "cell",data:=Data.cell none }) r else pushCells h r).get? b=some o
  split
  ·exact j4 r _ b o (Ó _ e)
  ·exact j4 r h b o e
def oV:∀(names:List (Str×NameKind)) (h:Heap) (x:Str) (c:Addr),(x,c)∈cellsFrom h.objs.size names []->(pushCells h names).IsCell c none
 |[],_,_,_,e=>nomatch e
 |(nm,k)::r,h,x,c,e=>by
  have e:(x,c)∈(if (k == Đ)=true then cellsFrom (h.objs.size+1) r [(nm,h.objs.size)] else cellsFrom h.objs.size r []):=e
  show(if (k == Đ)=true then pushCells (h.push { cls:=ĕ "cell",data:=Data.cell none }) r else pushCells h r).IsCell c none
  by_cases hk:(k == Đ)=true
  ·rw[if_pos hk,bf] at e
   rw[if_pos hk]
   rcases å.mp e with z|z
   ·exact oV r _ x c (by rw[Ť];exact z)
   ·have z:(x,c)=(nm,h.objs.size):=by simpa using z
    cases z
    exact⟨_,j4 r _ _ _ (ä _ rfl),rfl⟩
  ·rw[if_neg hk] at e ⊢
   exact oV r h x c e
def Av{M:Model}{A:Around}{E:Value->Shared->Prop}{s:Shared}{scope:Scope}{globals:Addr}{closure:List (Str×Addr)}{qual:Str}{func:Option Addr}{code:Value}{around:Option Env}{builtins:Addr}{Q:Env->Shared->Prop}(h:Q (newEnv scope s.heap.objs.size globals (cellsFrom (s.heap.objs.size+1) scope.names closure) qual func code around builtins) { s with heap:=pushCells (s.heap.push { cls:=ĕ (if around.isSome=true then "dict" else "frame"),data:=Data.dict #[] }) scope.names }) :
  wpAny M A (newFunctionEnv scope globals closure [] qual func code around builtins) Q E s:=by
 unfold newFunctionEnv
 refine Ä (wpAny_alloc ?_)
 refine Ä (wpAny_layCells _ (λ_ _ _=>rfl) _ _ _ _ ?_)
 rw[Ť]
 exact Ä (Ø (Ø h))
def RW{n:Nat}{names:List (Str×NameKind)}{cl:List (Str×Addr)}{x:Str}{c:Addr}(h:(cellsFrom n names cl).lookup x=some c):(x,c)∈cellsFrom n names []\/cl.lookup x=some c:=by
 rw[bf,List.lookup_append] at h
 cases e:(cellsFrom n names []).lookup x with
 |none=>rw[e] at h;exact .inr h
 |some d =>
  rw[e] at h
  cases h
  exact .inl (ă e)
def Ku{n:Nat}{names:List (Str×NameKind)}{cl:List (Str×Addr)}{x:Str}(h:∀c,(x,c)∈cellsFrom n names []->False):(cellsFrom n names cl).lookup x=cl.lookup x:=by
 rw[bf,List.lookup_append]
 cases e:(cellsFrom n names []).lookup x with
 |none=>rfl
 |some d=>exact(h d (ă e)).elim
def yX(h:aV X.env scope X.N M=true){n:Nat}{x:Str}(hx:(x,ü)∈scope.names):∀c,(x,c)∈cellsFrom n scope.names []->False:=λc z=>by
 have h1:=((bO h _ hx).2.2 rfl).1
 have h2:=((bO h _ (fC _ _ _ _ z).1).2.1 rfl).2
 rw[h1] at h2
 cases h2
def jR(h:aV X.env scope X.N M=true):X.N.length=M.length:=by
 unfold aV at h
 rw[Û,Û] at h
 exact eq_of_beq h.2.1
def uX{i:Nat}{x:Str}{k:NameKind}(h:aV X.env scope X.N M=true)(hx:M[i]?=some x)(_:x∈M)(hn:(x,k)∈scope.names):X.N[i]?=some x:=by
 have hl:=jR h
 unfold aV at h
 rw[Û,Û,ę] at h
 have hi:i<M.length:=(Ê.mp hx).1
 have hx':M[i]=x:=(Ê.mp hx).2
 have hi':i<X.N.length:=by omega
 have q:=h.2.2 (X.N[i],M[i]) (by
  refine List.mem_iff_getElem.mpr ⟨i,by rw[List.length_zip];omega,?_⟩
  rw[List.getElem_zip])
 rw[Bool.or_eq_true] at q
 rcases q with q|q
 ·have q:X.N[i]=M[i]:=eq_of_beq q
  rw[Ç hi',q,hx']
 ·rw[Û,ę] at q
  have e:M[i]=("":Str):=eq_of_beq q.1
  have z:=q.2 (x,k) hn
  rw[←hx',e] at z
  simp at z
def BJ{pins:List (Addr×Obj)}{σ:St}{H:Hp}{s:Shared}{fp:List Addr}{h₁:Heap}{tk:Nat}(hk:aV X.env scope X.N M=true)(I:Inv X pins σ H s)(hf:∀b∈fp,tG X pins H b)(hfo:∀b∈fp,∃o,s.heap.get? b=some o)(hns:h₁.Ns (s.heap.objs.size+1) λ_=>none)(old:∀b o,s.heap.get? b=some o->h₁.get? b=some o)(hD:h₁.get? s.heap.objs.size=some { cls:=.type "list",data:=.seq #[] 0 })(hnc:∀x c,(x,c)∈cellsFrom (s.heap.objs.size+2) scope.names []->h₁.IsCell c none) :
  Inv (X.aQ own M scope ⟨cellsFrom (s.heap.objs.size+2) scope.names (dh X.env.cells scope.names []),s.heap.objs.size+1,s,H,fp⟩) [(s.heap.objs.size,{ cls:=.type "list",data:=.seq #[] 0 })] (É own.length none++σ) H { s with heap:=h₁,toks:=tk }:=by
 have hkk:=fu hk
 have hka:=bO hk
 have hhas:∀x,(x,ü)∈scope.names->∃c,X.env.cells.lookup x=some c:=λx hx=>I.ok.has x ((hka _ hx).2.2 rfl).2
 have hcl:∀x c,(dh X.env.cells scope.names []).lookup x=some c->X.env.cells.lookup x=some c/\(x,ü)∈scope.names:=λx c e=>by
  rcases ou e with q|⟨q1,q2⟩
  ·simp at q
  ·obtain⟨c',e'⟩:=hhas x q1
   rw[e'] at q2
   exact⟨by rw[e',q2];rfl,q1⟩
 have hcc:∀x c,(cellsFrom (s.heap.objs.size+2) scope.names (dh X.env.cells scope.names [])).lookup x=some c->(X.env.cells.lookup x=some c/\(x,ü)∈scope.names/\c<s.heap.objs.size)\/((x,c)∈cellsFrom (s.heap.objs.size+2) scope.names []/\(x,Đ)∈scope.names/\s.heap.objs.size+2<=c):=λx c e=>by
  rcases RW e with z|z
  ·exact .inr ⟨z,fC _ _ _ _ z⟩
  ·obtain⟨h1,h2⟩:=hcl x c z
   obtain⟨v,o,ho,_⟩:=I.cell x c h1
   exact .inl ⟨h1,h2,Ï ho⟩
 have hvis:∀x,(relabel scope X.env).names.lookup x=some .cell\/(relabel scope X.env).names.lookup x=some .free->(x,ü)∈scope.names\/(x,Đ)∈scope.names:=λx hx=>by
  have key:∀q,(relabel scope X.env).names.lookup x=some q->q=.cell\/q=.free->(x,ü)∈scope.names\/(x,Đ)∈scope.names:=λq hq hq'=>by
   obtain⟨k,h1,h2,h3⟩:=cV (env:=X.env) (names:=scope.names) hq
   rcases h3 with h3|⟨_,h3⟩
   ·subst h3
    rcases hq' with z|z
    ·rw[z] at h1;exact .inr h1
    ·rw[z] at h1;exact .inl h1
   ·rw[h3] at h1;exact .inl h1
  rcases hx with hx|hx
  ·exact key _ hx (.inl rfl)
  ·exact key _ hx (.inr rfl)
 have hlt:∀b o,s.heap.get? b=some o->b<s.heap.objs.size:=λb o e=>Ï e
 refine⟨⟨I.ok.mod,hkk,I.ok.glob,I.ok.blt,Ĺ _,λx y c h1 h2=>?inj,λx hx=>?_,λx c z e=>?cab,I.ok.hd,I.ok.frames,.inl rfl,λb hb=>⟨?_,λx c e=>?exf⟩,I.bs,
   þ I.ok.bsz I.sz,λb o e hb=>?_,λb hb hs=>?_,I.stack,I.Cj,λq hq=>⟨(I.ok.sof q hq).1,I.base.frzs _ _ _ (I.ok.sof q hq).2.1,(I.ok.sof q hq).2.2⟩⟩,rfl,I.bare,Un.kept old,⟨_,hns,λi x v h1 h2 h3=>?_⟩,λx c e=>?_,?_,λx c e=>?frc,λp hp=>?_,I.hok.kept old,?_⟩
 case inj =>
  rcases hcc x c h1 with ⟨a1,_,a3⟩|⟨a1,_,a3⟩ <;> rcases hcc y c h2 with ⟨b1,_,b3⟩|⟨b1,_,b3⟩
  ·exact I.ok.inj x y c a1 b1
  ·exact absurd (æ a3 (þ (Nat.le_add_right _ 2) b3)) (č _)
  ·exact absurd (æ b3 (þ (Nat.le_add_right _ 2) a3)) (č _)
  ·exact pO _ _ _ _ _ a1 b1
 case cab =>
  show s.heap.objs.size<=c
  rcases hcc x c e with ⟨_,a2,_⟩|⟨_,_,a3⟩
  ·have h1:=((hka _ a2).2.2 rfl).1
   have z:(scope.names.lookup x == some Đ)=true:=z
   rw[h1] at z
   exact absurd z (by decide)
  ·omega
 case exf =>
  rcases hcc x c e with ⟨a1,_,_⟩|⟨_,_,a3⟩
  ·exact(hf b hb).2.2.2.2.1 x c a1
  ·obtain⟨o,e⟩:=hfo b hb
   have:=hlt b o e
   intro z
   subst z
   exact absurd (æ this (þ (Nat.le_add_right _ 2) a3)) (č _)
 case frc =>
  rcases hcc x c e with ⟨a1,_,_⟩|⟨_,_,a3⟩
  ·exact I.freeC x c a1
  ·exact I.hok.fresh (by omega)
 ·have hx':(relabel scope X.env).names.lookup x=some .cell\/(relabel scope X.env).names.lookup x=some .free:=hx
  refine Option.isSome_iff_exists.mp (W.cellsFrom_some _ _ _ ?_)
  rcases hvis x hx' with z|z
  ·exact .inr (jU z)
  ·exact .inl ((hka _ z).2.1 rfl).2
 ·obtain⟨o,e⟩:=hfo b hb
  exact â (ċ (hlt b o e))
 ·have hb':b∈fp:=hb
  rcases(hf b hb').2.2.2.1 with z|z
  ·exact I.ok.noex b o e z
  ·exact absurd (æ (Ï (I.ok.bs b o e).1) z) (č _)
 ·have hb':b∈fp:=hb
  rcases Ñ.mp (I.qM b hs) with z|z
  ·exact(hf b hb').2.1 z
  ·exact(hf b hb').2.2.1 z
 ·have hi:own.length<=i:=by
   by_cases hi:i<own.length
   ·rw[ú (by simpa using hi),Ŏ] at h2
    split at h2 <;> cases h2
   ·omega
  have h1':M[i - own.length]?=some x:=by
   have q:(own++M)[i]?=some x:=h1
   rwa [é hi] at q
  have h2':σ[i - own.length]?=some (some v):=by
   rw[é (by simpa using hi)] at h2
   simpa using h2
  have h3':Vis (relabel scope X.env) x:=h3
  have hfr:(x,ü)∈scope.names:=by
   rcases h3' with z|z
   ·obtain⟨k,q1,q2,q3⟩:=cV (env:=X.env) (names:=scope.names) z
    rcases q3 with q3|⟨q3,_⟩
    ·subst q3
     exact absurd (Î h1') ((hka _ q1).1 rfl).1
    ·cases q3
   ·rcases hvis x z with y|y
    ·exact y
    ·exact absurd (Î h1') ((hka _ y).2.1 rfl).1
  have hkx:=((hka _ hfr).2.2 rfl).2
  obtain⟨m,hm,hl⟩:=I.loc
  obtain⟨u,ru,lu⟩:=hl _ x v (uX hk h1' (Î h1') hfr) h2' (by rcases hkx with z|z;exact .inr (.inl z);exact .inr (.inr z))
  refine⟨u,ru,.inr ⟨?_,?_⟩⟩
  ·rcases h3' with z|z|z
   ·obtain⟨k,q1,q2,q3⟩:=cV (env:=X.env) (names:=scope.names) z
    rcases q3 with q3|⟨q3,_⟩
    ·subst q3
     exact absurd (Î h1') ((hka _ q1).1 rfl).1
    ·cases q3
   ·exact .inl z
   ·exact .inr z
  ·rcases lu with ⟨z,_⟩|⟨_,c,e,ic⟩
   ·rcases hkx with q|q
    ·rw[q] at z;cases z
    ·rw[q] at z;cases z
   ·obtain⟨c',e'⟩:=Option.isSome_iff_exists.mp (jU (cells:=X.env.cells) (acc:=[]) hfr)
    have e2:=(hcl x c' e').1
    rw[e] at e2
    cases e2
    obtain⟨o,ho,hd⟩:=ic
    exact⟨c,(Ku (yX hk hfr)).trans e',o,old _ _ ho,hd⟩
 ·rcases hcc x c e with ⟨z,_,_⟩|⟨z,_,_⟩
  ·obtain⟨v,o,ho,hd⟩:=I.cell x c z
   exact⟨v,o,old _ _ ho,hd⟩
  ·exact⟨none,hnc x c z⟩
 ·exact I.hok.fresh (Ĺ _)
 ·have hp':p=(s.heap.objs.size,{ cls:=.type "list",data:=.seq #[] 0 }):=by simpa using hp
  subst hp'
  refine⟨hD,I.hok.fresh (Ì _),â (Ũ _),λz=>?_,λv z=>nomatch z⟩
  obtain⟨_,o,ho,_⟩:=I.stack.mem z
  exact absurd (Ï ho) (č _)
 ·show(É own.length none++σ).length=(own++M).length
  rw[È,È,ĥ,I.len,jR hk]
def Bx{pins pn:List (Addr×Obj)}{σ σ':St}{H H':Hp}{s s':Shared}{fp:List Addr}{cl:List (Str×Addr)}{ys:List V}{us:List Value}{n:Nat}(I:Inv X pins σ H s)(hf:∀b∈fp,tG X pins H b)(J:Inv (X.aQ own M scope ⟨cl,s.heap.objs.size+1,s,H,fp⟩) pn σ' H' s')(hp:(s.heap.objs.size,({ cls:=.type "list",data:=.seq us.toArray n }:Obj))∈pn)(hv:Vals ys us)(hz:ys.length<=sizeLine) :
  Inv X pins σ (upd H' s.heap.objs.size (.lst ys)) s'/\H' s.heap.objs.size=none:=by
 obtain⟨hD,hDn,_⟩:=J.pin _ (ì _ hp)
 refine⟨I.call' J.os ⟨λb o e n hb hx=>J.base.keep b o e n hb hx,λb o e n hb hx=>J.base.slot b o e n hb hx,λb o e n hx=>?_,λb o e hx=>J.base.there b o e hx,λb xs e=>?_,λb o u e=>?_,λb ps e=>?_⟩ ?_ J.bare ?_,hDn⟩
 ·rw[aq (â (Ï e))]
  exact J.base.free b o e n hx
 ·have q:=J.base.tups b xs e
  rw[aq (aB q hDn)]
  exact q
 ·have q:=J.base.frzs b o u e
  rw[aq (aB q hDn)]
  exact q
 ·obtain⟨more,q⟩:=J.base.tbls b ps e
  exact⟨more,by rw[aq (aB q hDn)];exact q⟩
 ·exact J.hok.track hDn ⟨hz,us,n,hv,hD⟩
 ·intro b hb
  exact⟨(hf b hb).2.2.2.1,(hf b hb).2.1,(hf b hb).2.2.2.2.1,(hf b hb).2.2.2.2.2⟩
def sZ{pins pn:List (Addr×Obj)}{σ σ':St}{H H':Hp}{s s':Shared}{fp:List Addr}{cl:List (Str×Addr)}(hk:aV X.env scope X.N M=true)(I:Inv X pins σ H s)(hf:∀b∈fp,tG X pins H b)(hcl:∀x,(x,ü)∈scope.names->∃c,cl.lookup x=some c/\X.env.cells.lookup x=some c)(J:Inv (X.aQ own M scope ⟨cl,s.heap.objs.size+1,s,H,fp⟩) pn σ' H' s'):Inv (X.aQ own M scope ⟨cl,s.heap.objs.size+1,s,H,fp⟩) pn (É own.length none++σ) H' s':=by
 have hka:=bO hk
 refine⟨J.ok,J.os,J.bare,J.base,?_,J.cell,J.free,J.freeC,J.pin,J.hok,?_⟩
 ·obtain⟨mC,hmC,_⟩:=J.loc
  refine⟨mC,hmC,λi x v h1 h2 h3=>?_⟩
  have hi:own.length<=i:=by
   by_cases hi:i<own.length
   ·rw[ú (by simpa using hi),Ŏ] at h2
    split at h2 <;> cases h2
   ·omega
  have h1':M[i - own.length]?=some x:=by
   have q:(own++M)[i]?=some x:=h1
   rwa [é hi] at q
  have h2':σ[i - own.length]?=some (some v):=by
   rw[é (by simpa using hi)] at h2
   simpa using h2
  have h3':Vis (relabel scope X.env) x:=h3
  have nloc:¬(relabel scope X.env).names.lookup x=some .local:=λz=>by
   obtain⟨k,q1,q2,q3⟩:=cV (env:=X.env) (names:=scope.names) z
   rcases q3 with q3|⟨q3,_⟩
   ·subst q3
    exact absurd (Î h1') ((hka _ q1).1 rfl).1
   ·cases q3
  have hkk:(relabel scope X.env).names.lookup x=some .cell\/(relabel scope X.env).names.lookup x=some .free:=by
   rcases h3' with z|z
   ·exact absurd z nloc
   ·exact z
  have hfr:(x,ü)∈scope.names:=by
   have key:∀q,(relabel scope X.env).names.lookup x=some q->q=.cell\/q=.free->(x,ü)∈scope.names:=λq hq hq'=>by
    obtain⟨k,h1,h2,h3⟩:=cV (env:=X.env) (names:=scope.names) hq
    rcases h3 with h3|⟨_,h3⟩
    ·subst h3
     rcases hq' with z|z
     ·rw[z] at h1;exact absurd (Î h1') ((hka _ h1).2.1 rfl).1
     ·rw[z] at h1;exact h1
    ·rw[h3] at h1;exact h1
   rcases hkk with hx|hx
   ·exact key _ hx (.inl rfl)
   ·exact key _ hx (.inr rfl)
  have hkx:=((hka _ hfr).2.2 rfl).2
  obtain⟨m,hm,hl⟩:=I.loc
  obtain⟨u,ru,lu⟩:=hl _ x v (uX hk h1' (Î h1') hfr) h2' (by rcases hkx with z|z;exact .inr (.inl z);exact .inr (.inr z))
  refine⟨u,ru,.inr ⟨hkk,?_⟩⟩
  rcases lu with ⟨z,_⟩|⟨_,c,e,ic⟩
  ·rcases hkx with q|q
   ·rw[q] at z;cases z
   ·rw[q] at z;cases z
  ·obtain⟨c',e',e2⟩:=hcl x hfr
   rw[e] at e2
   cases e2
   obtain⟨o,ho,hd⟩:=ic
   obtain⟨sl,q⟩:=J.base.any ho (I.freeC x c e) λz=>(hf c z).2.2.2.2.1 x c e rfl
   exact⟨c,e',_,q,hd⟩
 ·show(É own.length none++σ).length=(own++M).length
  rw[È,È,ĥ,I.len,jR hk]
def uU{pins:List (Addr×Obj)}{σ:St}{H:Hp}{s:Shared}{it:Addr}{fp:List Addr}{tn:Nat->Heap->Prop}{J:It}{W:Nat->Nat->List V->Hp->Prop}{E:Value->Shared->Prop}{RR:Value->Addr->Result->Shared->Prop}{Cm:Cx->Prop}(hc:∀c,Cm (X.aQ own M scope c))(hk:aV X.env scope X.N M=true)(hg:∀c,PG (X.aQ own M scope c) tg (g c))(ht:∀c,PTs (X.aQ own M scope c) ifs (tt c))(he:∀c,PE (X.aQ own M scope c) elt (te c))(I:Inv X pins σ H s)(T:TurnG Cm X.prog X.w X.K tg J fp it tn)(st:tn 0 s.heap)(hf:∀b∈fp,tG X pins H b){m0:Nat}(w0:W 0 m0 [] H){D:List V->Hp->Prop}(turn:∀(c:CB) i m ys H,W i m ys H->(J.stop i H/\D ys H) ∨
   (J.go i H/\ys.length<sizeLine/\∃N:List V->Hp->Prop,(∀ys' H',N ys' H'->∃m',m'<m/\W (i+1) m' ys' H')/\∀x H',J.yld i H x H'->g c x (É own.length none++σ) H' λσ2 H2=>tt c σ2 H2 λb H3 =>
    if b=true then te c σ2 H3 λv H4=>N (ys++[v]) H4 else N ys H3))(fin:∀s' m' ys H',(s'.heap.Ns (s.heap.objs.size+1) m')->H' (s.heap.objs.size+1)=none->H' s.heap.objs.size=none->Inv X pins σ (upd H' s.heap.objs.size (.lst ys)) s'->D ys H'->RR (.ref s.heap.objs.size) (s.heap.objs.size+1) (.ok .next) s') :
  wpAny (model X.prog X.w) X.A (newList []) (λacc s₃=>wpAny (model X.prog X.w) X.A (newFunctionEnv scope X.env.globals (dh X.env.cells scope.names []) [] X.env.qual none .none (some X.env)) (λcenv s₄ =>
   codeAny (model X.prog X.w) X.A (.compStart (.ListComp elt [⟨tg,iter,ifs,0⟩] scope pos) 0 (.ref it) acc { cenv with scope:=relabel scope X.env }) (RR acc cenv.locals) s₄) E s₃) E s:=by
 have hkk:=fu hk
 have hka:=bO hk
 refine wpAny_newObj_type (Av ?_)
 dsimp only
 have hC:(s.heap.push { cls:=.type "list",dict:=none,data:=.seq ([]:List Value).toArray }).objs.size=s.heap.objs.size+1:=Ť ..
 rw[hC]
 generalize hH2:s.heap.push { cls:=.type "list",dict:=none,data:=.seq ([]:List Value).toArray }=H2 at hC ⊢
 generalize hH3:H2.push { cls:=ĕ (if (some X.env:Option Env).isSome=true then "dict" else "frame"),data:=Data.dict #[] }=H3
 generalize hh1:pushCells H3 scope.names=h₁
 have hC3:H3.objs.size=s.heap.objs.size+2:=by rw[←hH3,Ť,hC]
 have old3:∀b o,H3.get? b=some o->h₁.get? b=some o:=λb o e=>hh1 ▸ j4 _ _ _ _ e
 have old2:∀b o,H2.get? b=some o->h₁.get? b=some o:=λb o e=>old3 b o (hH3 ▸ Ó _ e)
 have old:∀b o,s.heap.get? b=some o->h₁.get? b=some o:=λb o e=>old2 b o (hH2 ▸ Ó _ e)
 have hacc:h₁.get? s.heap.objs.size=some { cls:=.type "list",data:=.seq #[] 0 }:=old2 _ _ (hH2 ▸ ä _ rfl)
 have hns:h₁.Ns (s.heap.objs.size+1) λ_=>none:=by
  have z:=Heap.Ns.new H2 (ĕ (if (some X.env:Option Env).isSome=true then "dict" else "frame"))
  rw[hC,hH3] at z
  exact z.keeps old3
 have hnc:∀x c,(x,c)∈cellsFrom (s.heap.objs.size+2) scope.names []->h₁.IsCell c none:=λx c e=>by
  rw[←hC3] at e
  exact hh1 ▸ oV _ _ _ _ e
 have hfo:∀b∈fp,∃o,s.heap.get? b=some o:=λb hb=>let ⟨o,e,_⟩:=T.obj 0 _ st b hb;⟨o,e⟩
 have st₁:tn 0 h₁:=T.keep 0 _ _ st λb _ o e=>old b o e
 have I₁:=BJ (own:=own) (tk:=s.toks) hk I hf hfo hns old hacc hnc
 have loop:∀s₃:Shared,s₃={ s with heap:=h₁,toks:=s.toks } ->
   codeAny (model X.prog X.w) X.A (.compLoop (.ListComp elt [⟨tg,iter,ifs,0⟩] scope pos) 0 (.ref it) (.ref s.heap.objs.size) (compEnvC scope (cellsFrom (s.heap.objs.size+2) scope.names (dh X.env.cells scope.names [])) (s.heap.objs.size+1) X.env))
    (RR (.ref s.heap.objs.size) (s.heap.objs.size+1)) s₃:=by
  rintro s₃ rfl
  have neD:∀b∈fp,b≠s.heap.objs.size:=λb hb=>by
   obtain⟨o,e⟩:=hfo b hb
   exact â (Ï e)
  have stat:∀{H':Hp}{o:Obj},(∀b∈fp,H' b=none)->∀b∈fp,tG (X.aQ own M scope ⟨cellsFrom (s.heap.objs.size+2) scope.names (dh X.env.cells scope.names []),s.heap.objs.size+1,s,H,fp⟩) [(s.heap.objs.size,o)] H' b:=λ{H' o} hn b hb =>
   ⟨hn b hb,(I₁.ok.exf b hb).1,I₁.ok.exfs b hb,.inl hb,(I₁.ok.exf b hb).2,λp hp=>by
    have hp':p=(s.heap.objs.size,o):=by simpa using hp
    subst hp'
    exact Ĥ (neD b hb)⟩
  refine FZ (λk s'=>∃i ys us n H',Inv (X.aQ own M scope ⟨cellsFrom (s.heap.objs.size+2) scope.names (dh X.env.cells scope.names []),s.heap.objs.size+1,s,H,fp⟩) [(s.heap.objs.size,{ cls:=.type "list",data:=.seq (us:List Value).toArray n })] (É own.length none++σ) H' s' /\
    Vals ys us/\ys.length<=sizeLine/\tn i s'.heap/\(∀b∈fp,H' b=none)/\W i k ys H') ?_ m0 ⟨0,[],[],0,H,I₁,.nil,ÿ _,st₁,λb hb=>(hf b hb).1,w0⟩
  rintro k s3 ⟨i,ys,us,n,H3,I3,hv,hz,st3,fr3,w3⟩
  rcases turn ⟨cellsFrom (s.heap.objs.size+2) scope.names (dh X.env.cells scope.names []),s.heap.objs.size+1,s,H,fp⟩ i k ys H3 w3 with ⟨stop,d⟩|⟨go,hlt,N,hN,step⟩
  ·refine thn (T.done (X.aQ own M scope ⟨cellsFrom (s.heap.objs.size+2) scope.names (dh X.env.cells scope.names []),s.heap.objs.size+1,s,H,fp⟩) rfl rfl rfl (hc _) i _ s3 _ H3 _ I3 (stat fr3) st3 stop) λr s4 ⟨hr,I4⟩=>?_
   subst hr
   obtain⟨m',hm',_⟩:=I4.loc
   obtain⟨J4,hDn⟩:=Bx I hf I4 (Ô.mpr rfl) hv hz
   exact fin s4 m' ys H3 hm' I4.free hDn J4 d
  ·refine thn (T.item (X.aQ own M scope ⟨cellsFrom (s.heap.objs.size+2) scope.names (dh X.env.cells scope.names []),s.heap.objs.size+1,s,H,fp⟩) rfl rfl rfl (hc _) i _ s3 _ H3 _ I3 (stat fr3) st3 go) λr s4 ⟨u,hr,h4⟩=>?_
   subst hr
   refine thn h4 λ_ s5 ⟨x,H5,I5,r5,y5,st5,fr5⟩=>?_
   have I5':=I5.pinned (stat fr5) (T.obj _ _ st5)
   refine thn (hg _ _ s5 _ H5 x u _ I5' r5 (step x H5 y5)) λ_ s6 ⟨σ6,H6,I6,q6⟩=>?_
   refine thn (ht _ _ s6 σ6 H6 _ I6 q6) λb s7 ⟨H7,I7,q7⟩=>?_
   -- the turn's end: the iterator's records stand,the names are forgotten
   have clH:∀x,(x,ü)∈scope.names->∃c,(cellsFrom (s.heap.objs.size+2) scope.names (dh X.env.cells scope.names [])).lookup x=some c/\X.env.cells.lookup x=some c:=λx hx=>by
    obtain⟨c,e⟩:=I.ok.has x ((hka _ hx).2.2 rfl).2
    obtain⟨c',e'⟩:=Option.isSome_iff_exists.mp (jU (cells:=X.env.cells) (acc:=[]) hx)
    rcases ou e' with q|⟨_,q⟩
    ·simp at q
    ·rw[e] at q
     exact⟨c',(Ku (yX hk hx)).trans e',by rw[e,q];rfl⟩
   have keepT:∀{H':Hp}{σ':St}{s':Shared}{pn:List (Addr×Obj)},(∀p∈jz fp s5.heap,p∈pn)->Inv (X.aQ own M scope ⟨cellsFrom (s.heap.objs.size+2) scope.names (dh X.env.cells scope.names []),s.heap.objs.size+1,s,H,fp⟩) pn σ' H' s'->tn (i+1) s'.heap/\∀b∈fp,H' b=none:=λ{H' σ' s' pn} hs I' =>
    ⟨T.keep _ _ _ st5 λb hb o e=>(I'.pin (b,o) (ì _ (hs _ (iU hb e)))).1,λb hb=>by
     obtain⟨o,e,_⟩:=T.obj _ _ st5 b hb
     exact(I'.pin (b,o) (ì _ (hs _ (iU hb e)))).2.1⟩
   cases b with
   |false =>
    rw[if_neg Ò]
    rw[if_neg Ò] at q7
    obtain⟨m',hm',w7⟩:=hN _ _ q7
    obtain⟨t7,f7⟩:=keepT (λp hp=>ì _ hp) I7
    exact⟨m',hm',i+1,ys,us,n,H7,sZ hk I hf clH I7.mj,hv,hz,t7,f7,w7⟩
   |true =>
    rw[if_pos rfl]
    rw[if_pos rfl] at q7
    refine thn (he _ _ s7 σ6 H7 _ I7 q7) λu8 s8 ⟨v8,H8,I8,r8,q8⟩=>?_
    obtain⟨m',hm',w8⟩:=hN _ _ q8
    obtain⟨t8,f8⟩:=keepT (λp hp=>ì _ hp) I8
    obtain⟨hD8,nD8,lD8,fD8,_⟩:=I8.pin (s.heap.objs.size,{ cls:=.type "list",data:=.seq us.toArray n }) (ì _ (ī _ (Ô.mpr rfl)))
    refine append_at (hsz:=by rw[Í,←hv.length];exact Nat.le_of_lt hlt) hD8 λh9 hs9 hD9=>?_
    have J8:Inv (X.aQ own M scope ⟨cellsFrom (s.heap.objs.size+2) scope.names (dh X.env.cells scope.names []),s.heap.objs.size+1,s,H,fp⟩) (jz fp s5.heap) σ6 H8 s8:=I8.qy λp hp=>I8.pin p (ì _ (ì _ hp))
    have J9:Inv (X.aQ own M scope ⟨cellsFrom (s.heap.objs.size+2) scope.names (dh X.env.cells scope.names []),s.heap.objs.size+1,s,H,fp⟩) (jz fp s5.heap) σ6 H8 { s8 with heap:=h9 }:=J8.turned (t':=s8.toks) (it:=s.heap.objs.size) (λb o hb e=>(hs9.2 b hb).trans e) nD8 lD8 (.inr (Ì _))
     (λx c e z=>by
      obtain⟨v,o,ho,hd⟩:=J8.cell x c e
      rw[z,hD8] at ho
      cases ho
      cases hd)
     (λp hp=>by
      have hp':p∈jz fp s5.heap:=by simpa using hp
      exact neD _ (uH hp').1)
    obtain⟨t9,f9⟩:=keepT (λp hp=>hp) J9
    have e9:h9.get? s.heap.objs.size=some { cls:=.type "list",data:=.seq (us++[u8]).toArray (n+1) }:=by
     rw[hD9,List.push_toArray]
    have J9':Inv (X.aQ own M scope ⟨cellsFrom (s.heap.objs.size+2) scope.names (dh X.env.cells scope.names []),s.heap.objs.size+1,s,H,fp⟩) [(s.heap.objs.size,{ cls:=.type "list",data:=.seq (us++[u8]).toArray (n+1) })] σ6 H8 { s8 with heap:=h9 }:=J9.qy λp hp=>by
     have hp':p=(s.heap.objs.size,{ cls:=.type "list",data:=.seq (us++[u8]).toArray (n+1) }):=by simpa using hp
     subst hp'
     exact⟨e9,nD8,lD8,fD8,λv z=>nomatch z⟩
    exact⟨m',hm',i+1,ys++[v8],us++[u8],n+1,H8,sZ hk I hf clH J9',hv.append (.cons r8 .nil),by rw[È,Ü];exact hlt,t9,f9,w8⟩
 exact codeAny_compStart_list (loop _ rfl) (T.self _ 0 _ _ _ st₁ (loop _ rfl))
def uW{pins:List (Addr×Obj)}{σ:St}{H:Hp}{s:Shared}(hk:aV X.env scope X.N M=true)(I:Inv X pins σ H s):closureFor scope X.env=pure (dh X.env.cells scope.names []) :=
 BK λx hx hf=>I.ok.has x.1 ((bO hk x hx).2.2 hf).2
def uV{pins:List (Addr×Obj)}{σ:St}{H:Hp}{s s':Shared}{C:Addr}{h':Heap}{m:Str->Option Value}(I:Inv X pins σ H s')(hs:X.s₀.heap.objs.size<=C)(hC:C≠X.env.locals)(hcl:∀x c,X.env.cells.lookup x=some c->c≠C)(hp:∀p∈X.pn++pins,p.1≠C)(hn:H C=none)(hb:Heap.SameBut C s'.heap h'):Inv X pins σ H { s' with heap:=h' }:=I.turned (t':=s'.toks) (λb o hb' e=>(hb.2 b hb').trans e) hn hC (.inr hs) hcl hp
def HD(own M:List Str)(hc:X.calm=true)(hi:PI X tg iter wi)(hg:∀c,PG (X.aQ own M scope c) tg (g c))(ht:∀c,PTs (X.aQ own M scope c) ifs (tt c))(he:∀c,PE (X.aQ own M scope c) elt (te c))(hk:aV X.env scope X.N M=true:=by rfl)(hs:∀x,foldedSetIterable iter X.env x=pure x:=by intro _;rfl) :
  PE X (.ListComp elt [⟨tg,iter,ifs,0⟩] scope pos) (tLC own.length wi g tt te):=by
 intro pins s σ H Q I h
 rw[eval_ListComp]
 have hka:=bO hk
 refine wpAny_comprehension_free (use:=none) rfl hs (uW hk I) (fu hk) (λx hx hl=>((hka x hx).1 hl).2) (thn (hi pins s σ H _ I h) λv s1 h1=>thn h1 λitv s2 h2=>?_)
 obtain⟨it,fp,tn,J,H2,e,I2,T,st2,f2,W,⟨m0,w0⟩,turn⟩:=h2
 subst e
 refine uU (RR:=λacc C=>compPost (model X.prog X.w) X.A X.xe none (EP X pins σ Q) acc C) (D:=λys H=>∀p,H p=none->Q (.ref p) (upd H p (.lst ys))) (λ_=>hc) hk hg ht he I2 T st2 f2 w0 turn ?_
 intro s' m' ys H' hns hCn hDn J' d
 have lt2:∀{b:Addr}{o:Obj},s2.heap.get? b=some o->b≠s2.heap.objs.size+1:=λe=>â (ċ (Ï e))
 refine⟨m',hns,λh' hb=>⟨.ref s2.heap.objs.size,_,uV (m:=m') (s:=s2) J' (þ I2.sz (Ĺ _)) (Ĥ (â (ċ I2.lt))) (λx c e=>?_) (λp hp=>?_) ?_ hb,rfl,d _ hDn⟩⟩
 ·obtain⟨v,o,ho,_⟩:=I2.cell x c e
  exact lt2 ho
 ·exact lt2 (I2.pin p hp).1
 ·rw[aq (Nat.ne_of_gt (Ũ _))]
  exact hCn
def Lg{Cm:Cx->Prop}(own M:List Str){i:Nat}{y:Str}{py spos:Pos}(hc:∀c,Cm (X.aQ own M scope c))(hN:X.N.Nodup)(hiN:X.N[i]?=some y)(hx:Loc X.env.scope y)(hi:PIG Cm X tg iter wi)(hg:∀c,PG (X.aQ own M scope c) tg (g c))(ht:∀c,PTs (X.aQ own M scope c) ifs (tt c))(he:∀c,PE (X.aQ own M scope c) elt (te c))(hsw:swapsWith (.ListComp elt [⟨tg,iter,ifs,0⟩] scope pos) (some (.Name y py)) spos.line X.env=pure true:=by rfl)(hk:aV X.env scope X.N M=true:=by rfl)(hs:∀x,foldedSetIterable iter X.env x=pure x:=by intro _;rfl)(hf:X.fn y=true\/X.env.scope.names.lookup y=some .local:=by first|exact .inl rfl|exact .inr rfl|assumption) :
  PS X (.Assign [.Name y py] (.ListComp elt [⟨tg,iter,ifs,0⟩] scope pos) spos) (qL (tLC own.length wi g tt te) (jM i)):=by
 intro pins s σ H D I h
 rw[exec_Assign_Name_used _ _ _ _ hsw]
 have hka:=bO hk
 refine Ä (wpAny_standAt (Ä ?_))
 show wpAny _ X.A (do let _ ←comprehension (.ListComp elt [⟨tg,iter,ifs,0⟩] scope pos) scope X.env _ (newList []) false (eval iter X.env) (some (assign (.Name y py) X.env))) _ _ s
 refine Ä (ň (wpAny_comprehension_free (use:=some (assign (.Name y py) X.env)) (Q:=λ_ s'=>SP X pins D .next s') rfl hs (uW hk I) (fu hk) (λx hx hl=>((hka x hx).1 hl).2)
  (thn (hi pins s σ H _ I h) λv s1 h1=>thn h1 λitv s2 h2=>?_)) (λ_ s' hq=>Ø (Ø hq)) λ_ _ e=>e)
 obtain⟨it,fp,tn,J,H2,e,I2,T,st2,f2,W,⟨m0,w0⟩,turn⟩:=h2
 subst e
 refine uU (RR:=λacc C=>compPost (model X.prog X.w) X.A X.xe (some (assign (.Name y py) X.env)) (λ_ s'=>SP X pins D .next s') acc C) (D:=λys H=>∀p,H p=none->jM i (.ref p) σ (upd H p (.lst ys)) D.nx) hc hk hg ht he I2 T st2 f2 w0 turn ?_
 intro s' m' ys H' hns hCn hDn J' d
 have lt2:∀{b:Addr}{o:Obj},s2.heap.get? b=some o->b≠s2.heap.objs.size+1:=λe=>â (ċ (Ï e))
 show wpAny _ X.A (assign (.Name y py) X.env (.ref s2.heap.objs.size)) _ _ _
 refine wpAny_assign_Name (uq (v:=.ref s2.heap.objs.size) J' (λj h=>yM hN h hiN) hiN hx rfl (λs'' J'' ⟨a,hsb,ha⟩=>?_) hf)
 have hLne:X.env.locals≠s2.heap.objs.size+1:=â (ċ I2.lt)
 have hCa:s2.heap.objs.size+1≠a:=by
  rcases ha with ha|ha
  ·rw[ha];exact Ĥ hLne
  ·obtain⟨v,o,ho,_⟩:=I2.cell _ _ ha
   exact Ĥ (lt2 ho)
 refine⟨m',hns.sameBut hsb hCa,λh' hb=>⟨_,_,uV (m:=m') (s:=s2) J'' (þ I2.sz (Ĺ _)) (Ĥ hLne) (λx c e=>?_) (λp hp=>?_) ?_ hb,d _ hDn⟩⟩
 ·obtain⟨v,o,ho,_⟩:=I2.cell x c e
  exact lt2 ho
 ·exact lt2 (I2.pin p hp).1
 ·rw[aq (Nat.ne_of_gt (Ũ _))]
  exact hCn
def Ht(own M:List Str){i:Nat}{y:Str}{py spos:Pos}(hc:X.calm=true)(hN:X.N.Nodup)(hiN:X.N[i]?=some y)(hx:Loc X.env.scope y)(hi:PI X tg iter wi)(hg:∀c,PG (X.aQ own M scope c) tg (g c))(ht:∀c,PTs (X.aQ own M scope c) ifs (tt c))(he:∀c,PE (X.aQ own M scope c) elt (te c))(hsw:swapsWith (.ListComp elt [⟨tg,iter,ifs,0⟩] scope pos) (some (.Name y py)) spos.line X.env=pure true:=by rfl)(hk:aV X.env scope X.N M=true:=by rfl)(hs:∀x,foldedSetIterable iter X.env x=pure x:=by intro _;rfl)(hf:X.fn y=true\/X.env.scope.names.lookup y=some .local:=by first|exact .inl rfl|exact .inr rfl|assumption) :
  PS X (.Assign [.Name y py] (.ListComp elt [⟨tg,iter,ifs,0⟩] scope pos) spos) (qL (tLC own.length wi g tt te) (jM i)):=Lg own M (λ_=>hc) hN hiN hx hi hg ht he hsw hk hs hf
def TV(own:List Str)(hc:X.calm=true)(hi:PI X tg iter wi)(hg:∀c,PG (X.comp own scope c) tg (g c))(ht:∀c,PTs (X.comp own scope c) ifs (tt c))(he:∀c,PE (X.comp own scope c) elt (te c))(hk:gJ X.env scope X.N=true:=by rfl)(hs:∀x,foldedSetIterable iter X.env x=pure x:=by intro _;rfl) :
  PE X (.ListComp elt [⟨tg,iter,ifs,0⟩] scope pos) (tLC own.length wi g tt te):=HD own X.N hc hi hg ht he (zq hk) hs
def NK(own:List Str){i:Nat}{y:Str}{py spos:Pos}(hc:X.calm=true)(hN:X.N.Nodup)(hiN:X.N[i]?=some y)(hx:Loc X.env.scope y)(hi:PI X tg iter wi)(hg:∀c,PG (X.comp own scope c) tg (g c))(ht:∀c,PTs (X.comp own scope c) ifs (tt c))(he:∀c,PE (X.comp own scope c) elt (te c))(hsw:swapsWith (.ListComp elt [⟨tg,iter,ifs,0⟩] scope pos) (some (.Name y py)) spos.line X.env=pure true:=by rfl)(hk:gJ X.env scope X.N=true:=by rfl)(hs:∀x,foldedSetIterable iter X.env x=pure x:=by intro _;rfl)(hf:X.fn y=true\/X.env.scope.names.lookup y=some .local:=by first|exact .inl rfl|exact .inr rfl|assumption) :
  PS X (.Assign [.Name y py] (.ListComp elt [⟨tg,iter,ifs,0⟩] scope pos) spos) (qL (tLC own.length wi g tt te) (jM i)):=Ht own X.N hc hN hiN hx hi hg ht he hsw (zq hk) hs hf
end
section
variable {X:Cx}{tg:Expr}{K:Ú}{g:CB->TG}{tt:CB->TT}{te:CB->TE}{σ:St}{H:Hp}{Q:VK}{n:Nat}
def Wc(K:Ú)(tl:TE):TI:=λσ H R=>tl σ H λx H1=>∃a,x=.ref a/\(((∃xs,SqL K H1 a xs)/\R (Itl K a) H1)\/((∃xs,SqT K H1 a xs)/\R (Itt K a) H1))
def Hw{l:Expr}{tl:TE}(hl:PE X l tl):PI X tg l (Wc X.K tl):=by
 intro pins s σ H R I h
 refine thn (hl pins s σ H _ I h) λv s1 ⟨x,H1,I1,r1,q1⟩=>?_
 obtain⟨a,e,q1⟩:=q1
 subst e
 cases r1
 rcases q1 with ⟨⟨xs,hq⟩,q⟩|⟨⟨xs,hq⟩,q⟩
 ·obtain⟨its,rv,p,hz⟩:=I1.list hq
  refine wpAny_pyIter_list p.isList ?_
  refine⟨s1.heap.objs.size,[s1.heap.objs.size],_,_,H1,rfl,I1.kept (t':=s1.toks) λb o e=>Ó _ e,Ek a _,⟨_,ä _ rfl,rfl,rfl⟩,λb hb=>?_,q⟩
  have e:b=s1.heap.objs.size:=by simpa using hb
  subst e
  exact I1.Ru (Ì _) (I1.hok.fresh (Ì _))
 ·obtain⟨its,rv,p,hz⟩:=I1.tuple hq
  refine wpAny_pyIter_tuple (show s1.heap.IsTuple a its.toArray from p) ?_
  refine⟨s1.heap.objs.size,[s1.heap.objs.size],_,_,H1,rfl,I1.kept (t':=s1.toks) λb o e=>Ó _ e,zN a _,⟨_,ä _ rfl,rfl,rfl⟩,λb hb=>?_,q⟩
  have e:b=s1.heap.objs.size:=by simpa using hb
  subst e
  exact I1.Ru (Ì _) (I1.hok.fresh (Ì _))
end
end L2
namespace NfSort
open PySem PySem.W PyProof.Rows
def kwp{α:Type}(n:Nat)(key:Nat->Int):KasT α->(α->Prop)->Prop
 |.ret a,Q=>Q a
 |.ask i j k,Q=>i<n/\j<n/\kwp n key (k (decide (key i<key j))) Q
def bF{α:Type}{n:Nat}{key:Nat->Int}{Q Q':α->Prop}(h:∀a,Q a->Q' a):∀{t:KasT α},kwp n key t Q->kwp n key t Q'
 |.ret a,q=>h a q
 |.ask _ _ k,q=>⟨q.1,q.2.1,bF h q.2.2⟩
def fV{α β:Type}{n:Nat}{key:Nat->Int}{f:α->KasT β}{Q:β->Prop}:∀{t:KasT α},kwp n key t (λa=>kwp n key (f a) Q)->kwp n key (t.bind f) Q
 |.ret a,q=>q
 |.ask _ _ k,q=>⟨q.1,q.2.1,fV q.2.2⟩
def qz{α:Type}{n:Nat}{key:Nat->Int}{cmp:Nat->Nat->(Bool->Shared->Prop)->Shared->Prop}{s:Shared}{G:α->Shared->Prop}(hc:∀i j C,i<n->j<n->C (decide (key i<key j)) s->cmp i j C s) :
  ∀{t:KasT α},kwp n key t (λa=>G a s)->t.kasWp cmp G s
 |.ret _,q=>q
 |.ask i j k,q=>hc i j _ q.1 q.2.1 (qz hc q.2.2)
section
variable {n:Nat}{key:Nat->Int}{p:Array Nat}
def Pm(n:Nat)(p:Array Nat):Prop:=p.Perm (Þ n).toArray
def kk(key:Nat->Int)(p:Array Nat)(i:Nat):Int:=key (p.getD i 0)
def Pm.size(h:Pm n p):p.size=n:=by
 have:=Array.Perm.size_eq h
 simpa using this
def getD_eq(p:Array Nat)(i:Nat):p.getD i 0=(p[i]?).getD 0:=by
 by_cases h:i<p.size <;> simp[Array.getD,h]
def Pm.lt(h:Pm n p){i:Nat}(hi:i<n):p.getD i 0<n:=by
 have hs:=h.size
 have hi':i<p.size:=by omega
 have hm:p[i]∈p.toList:=by
  have:=Array.getElem_mem hi'
  simpa using this
 have hp:p.toList.Perm (Þ n):=by
  have:=Array.perm_iff_toList_perm.mp h
  simpa using this
 have e:p.getD i 0=p[i]:=by simp[Array.getD,hi']
 rw[e]
 exact Ī.mp (hp.mem_iff.mp hm)
def Pm.rev(h:Pm n p)(i j:Nat):Pm n (kas_rev p i j):=Array.Perm.trans (mirror_perm _ _ _ _) h
def Pm.bub(h:Pm n p)(i j:Nat):Pm n (bubble p i j):=Array.Perm.trans (bubble_perm _ _ _) h
def wO(h:Pm n p){i j:Nat}(hj:j<=n)(t:Nat):kk key (kas_rev p i j) t=if i<=t/\t<j then kk key p (i+j - 1 - t) else kk key p t:=by
 unfold kk kas_rev
 rw[getD_eq,getElem?_mirror_all (by rw[h.size];exact hj)]
 split
 ·rw[getD_eq]
 ·rw[getD_eq]
def Rb(h:Pm n p){k l:Nat}(hk:k<n)(hl:l<=k)(t:Nat):kk key (bubble p k (k - l)) t=if t=l then kk key p k else if l<t/\t<=k then kk key p (t - 1) else kk key p t:=by
 unfold kk
 rw[getD_eq,getElem?_bubble (by rw[h.size];exact hk) _ (by omega)]
 have e:k - (k - l)=l:=by omega
 rw[e]
 split
 ·rw[getD_eq]
 ·split
  ·rw[getD_eq]
  ·rw[getD_eq]
def Up(key:Nat->Int)(p:Array Nat)(m:Nat):Prop:=∀i j,i<=j->j<m->kk key p i<=kk key p j
def Dn(key:Nat->Int)(p:Array Nat)(m:Nat):Prop:=∀i j,i<=j->j<m->kk key p j<=kk key p i
def Rn(key:Nat->Int)(p:Array Nat)(m q:Nat):Prop:=q+1<=m/\∀t,m<=t+q+1->t<m->kk key p t=kk key p (m - 1)
def Up.more{a:Nat}(h:Up key p a)(h1:1<=a)(hx:kk key p (a - 1)<=kk key p a):Up key p (a+1):=λi j hij hj=>by
 by_cases hja:j<a
 ·exact h i j hij hja
 ·obtain rfl:j=a:=by omega
  by_cases hi:i=j
  ·subst hi;exact ā _
  ·exact Int.le_trans (h i (j - 1) (by omega) (by omega)) hx
def Dn.more{a:Nat}(h:Dn key p a)(h1:1<=a)(hx:kk key p a<=kk key p (a - 1)):Dn key p (a+1):=λi j hij hj=>by
 by_cases hja:j<a
 ·exact h i j hij hja
 ·obtain rfl:j=a:=by omega
  by_cases hi:i=j
  ·subst hi;exact ā _
  ·exact Int.le_trans hx (h i (j - 1) (by omega) (by omega))
def BP(hp:Pm n p):∀(f a:Nat),1<=a->a+f<=n->Up key p a->kwp n key (kas_asc p f a) (λm=>a<=m/\m<=a+f/\Up key p m/\(m<a+f->kk key p m<kk key p (m - 1)))
 |0,a,h1,hf,hu=>⟨Ì _,Ì _,hu,λh=>absurd h (by omega)⟩
 |f+1,a,h1,hf,hu=>by
  refine⟨hp.lt (by omega),hp.lt (by omega),?_⟩
  by_cases hc:key (p.getD a 0)<key (p.getD (a - 1) 0)
  ·(rw[decide_eq_true hc];dsimp only;rw[if_pos rfl])
   exact⟨Ì _,by omega,hu,λ_=>hc⟩
  ·(rw[decide_eq_false hc];dsimp only;rw[if_neg Ò])
   refine bF (λm ⟨a1,a2,a3,a4⟩=>⟨by omega,by omega,a3,λh=>a4 (by omega)⟩) (BP hp f (a+1) (by omega) (by omega) (hu.more h1 (Int.not_lt.mp hc)))
def Cw(hp:Pm n p){a q:Nat}(ha:a<=n)(hr:Rn key p a q)(t:Nat):kk key (kas_rev p (a - (q+1)) a) t=kk key p t:=by
 rw[wO hp ha]
 split
 ·rename_i h
  rw[hr.2 t (by omega) h.2]
  exact hr.2 _ (by have:=hr.1;omega) (by omega)
 ·rfl
def Dn.eq{p':Array Nat}{m:Nat}(h:Dn key p m)(e:∀t,kk key p' t=kk key p t):Dn key p' m:=λi j a b=>by rw[e,e];exact h i j a b
def DW:∀(f:Nat) (p:Array Nat) (a q:Nat),Pm n p->1<=a->a+f<=n->Dn key p a->Rn key p a q ->
  kwp n key (kas_desc f p a q) (λr=>Pm n r.1/\a<=r.2.1/\r.2.1<=a+f/\Dn key r.1 r.2.1/\Rn key r.1 r.2.1 r.2.2)
 |0,p,a,q,hp,h1,hf,hd,hr=>⟨hp,Ì _,Ì _,hd,hr⟩
 |f+1,p,a,q,hp,h1,hf,hd,hr=>by
  refine⟨hp.lt (by omega),hp.lt (by omega),?_⟩
  have fin:∀{p':Array Nat}{q':Nat},Pm n p'->Dn key p' (a+1)->Rn key p' (a+1) q'->kwp n key (kas_desc f p' (a+1) q') (λr=>Pm n r.1/\a<=r.2.1/\r.2.1<=a+(f+1)/\Dn key r.1 r.2.1/\Rn key r.1 r.2.1 r.2.2):=λx y z =>
   bF (λr ⟨a1,a2,a3,a4,a5⟩=>⟨a1,by omega,by omega,a4,a5⟩) (DW f _ (a+1) _ x (by omega) (by omega) y z)
  have rn0:∀p':Array Nat,Rn key p' (a+1) 0:=λp'=>⟨by omega,λt h1 h2=>by
   have e:t=a+1 - 1:=by omega
   rw[e]⟩
  by_cases hc:key (p.getD a 0)<key (p.getD (a - 1) 0)
  ·(rw[decide_eq_true hc];dsimp only;rw[if_pos rfl])
   have hc':kk key p a<kk key p (a - 1):=hc
   by_cases hq:q > 0
   ·rw[if_pos hq]
    have e:=Cw (key:=key) hp (by omega) hr
    exact fin (hp.rev _ _) ((hd.more h1 (Int.le_of_lt hc')).eq e) (rn0 _)
   ·rw[if_neg hq]
    exact fin hp (hd.more h1 (Int.le_of_lt hc')) (rn0 _)
  ·(rw[decide_eq_false hc];dsimp only;rw[if_neg Ò])
   refine⟨hp.lt (by omega),hp.lt (by omega),?_⟩
   by_cases hc2:key (p.getD (a - 1) 0)<key (p.getD a 0)
   ·(rw[decide_eq_true hc2];dsimp only;rw[if_pos rfl])
    exact⟨hp,Ì _,(by show a<=a+(f+1);omega),hd,hr⟩
   ·(rw[decide_eq_false hc2];dsimp only;rw[if_neg Ò])
    have e:kk key p a=kk key p (a - 1):=Int.le_antisymm (Int.not_lt.mp hc2) (Int.not_lt.mp hc)
    refine fin hp (hd.more h1 (Int.le_of_eq e)) ⟨by have:=hr.1;omega,λt t1 t2=>?_⟩
    show _=kk key p a
    by_cases ht:t=a
    ·rw[ht]
    ·rw[e]
     exact hr.2 t (by omega) (by omega)
def xY{a:Nat}(hp:Pm n p)(h1:1<=a)(ha:a<=n)(hd:Dn key p a):kwp n key (kas_tail3 a n p) (λr=>Pm n r.2/\1<=r.1/\r.1<=n/\Up key r.2 r.1):=by
 unfold kas_tail3
 have hu:Up key (kas_rev p 0 a) a:=λi j hij hj=>by
  rw[wO hp ha,wO hp ha,if_pos ⟨by omega,by omega⟩,if_pos ⟨by omega,hj⟩]
  exact hd _ _ (by omega) (by omega)
 refine fV (bF (λm ⟨a1,a2,a3,_⟩=>?_) (BP (hp.rev 0 a) (n - a) a h1 (by omega) hu))
 exact⟨hp.rev 0 a,by omega,by omega,a3⟩
def ql{a:Nat}(hp:Pm n p)(ha:a+1<=n)(hd:Dn key p (a+1)):kwp n key (kas_descPart a n p) (λr=>Pm n r.2/\1<=r.1/\r.1<=n/\Up key r.2 r.1):=by
 unfold kas_descPart
 refine fV (bF (λr ⟨a1,a2,a3,a4,a5⟩=>?_) (DW (n - (a+1)) p (a+1) 0 hp (by omega) (by omega) hd ⟨by omega,λt h1 h2=>by
  have e:t=a+1 - 1:=by omega
  rw[e]⟩))
 split
 ·exact xY (a1.rev _ _) (by omega) (by omega) (a4.eq (Cw a1 (by omega) a5))
 ·exact xY a1 (by omega) (by omega) a4
def Kr(hp:Pm n p)(h1:1<=n):kwp n key (kas_count n p) (λr=>Pm n r.2/\1<=r.1/\r.1<=n/\Up key r.2 r.1):=by
 unfold kas_count
 have u1:Up key p 1:=λi j hij hj=>by
  have e:i=j:=by omega
  rw[e];exact ā _
 refine fV (bF (λm ⟨a1,a2,a3,a4⟩=>?_) (BP hp (n - 1) 1 (Ì _) (by omega) u1))
 by_cases hm:m=n
 ·rw[if_pos (by simpa using hm)]
  exact⟨hp,by omega,by omega,a3⟩
 ·rw[if_neg (by simpa using hm)]
  have hlt:=a4 (by omega)
  by_cases hm1:m > 1
  ·rw[if_pos hm1]
   refine⟨hp.lt (by omega),hp.lt (by omega),?_⟩
   by_cases hc:key (p.getD 0 0)<key (p.getD (m - 1) 0)
   ·(rw[decide_eq_true hc];dsimp only;rw[if_pos rfl])
    exact⟨hp,by omega,by omega,a3⟩
   ·(rw[decide_eq_false hc];dsimp only;rw[if_neg Ò])
    have hall:∀t,t<m->kk key p t=kk key p 0:=λt ht=>by
     have e1:=a3 0 t (by omega) ht
     have e2:=a3 t (m - 1) (by omega) (by omega)
     have e3:kk key p (m - 1)<=kk key p 0:=Int.not_lt.mp hc
     omega
    have e:∀t,kk key (kas_rev p 0 m) t=kk key p t:=λt=>by
     rw[wO hp (by omega)]
     split
     ·rename_i h
      rw[hall t h.2,hall _ (by omega)]
     ·rfl
    refine ql (hp.rev 0 m) (by omega) (Dn.eq (p:=p) (Dn.more (λi j hij hj=>?_) (by omega) (Int.le_of_lt hlt)) e)
    rw[hall i (by omega),hall j hj]
    exact ā _
  ·rw[if_neg hm1]
   obtain rfl:m=1:=by omega
   refine ql hp (by omega) (Dn.more (λi j hij hj=>?_) (by omega) (Int.le_of_lt hlt))
   have e:i=j:=by omega
   rw[e];exact ā _
def qY{k:Nat}(hp:Pm n p)(hk:k<n)(hu:Up key p k):∀(f l r:Nat),l<=r->r<=k->r<=l+f->(∀t,t<l->kk key p t<=kk key p k)->(∀t,r<=t->t<k->kk key p k<kk key p t) ->
  kwp n key (kas_place p k f l r) (λl'=>l'<=k/\(∀t,t<l'->kk key p t<=kk key p k)/\(∀t,l'<=t->t<k->kk key p k<kk key p t))
 |0,l,r,h1,h2,h3,h4,h5=>⟨by omega,h4,λt a b=>h5 t (by omega) b⟩
 |f+1,l,r,h1,h2,h3,h4,h5=>by
  unfold kas_place
  by_cases hlr:l ≥ r
  ·rw[if_pos hlr]
   exact⟨by omega,h4,λt a b=>h5 t (by omega) b⟩
  ·rw[if_neg hlr]
   have hm:(l+r) / 2<r:=by omega
   refine⟨hp.lt hk,hp.lt (by omega),?_⟩
   by_cases hc:key (p.getD k 0)<key (p.getD ((l+r) / 2) 0)
   ·(rw[decide_eq_true hc];dsimp only;rw[if_pos rfl])
    have hc':kk key p k<kk key p ((l+r) / 2):=hc
    exact qY hp hk hu f l _ (by omega) (by omega) (by omega) h4 λt a b=>Int.lt_of_lt_of_le hc' (hu _ t a b)
   ·(rw[decide_eq_false hc];dsimp only;rw[if_neg Ò])
    have hc':kk key p ((l+r) / 2)<=kk key p k:=Int.not_lt.mp hc
    exact qY hp hk hu f _ r (by omega) (by omega) (by omega) (λt a=>Int.le_trans (hu t _ (by omega) (by omega)) hc') h5
def Kz:∀(f:Nat) (p:Array Nat) (k:Nat),Pm n p->k+f<=n->Up key p k->kwp n key (kas_bin f p k) (λp'=>Pm n p'/\Up key p' (k+f))
 |0,p,k,hp,hk,hu=>⟨hp,hu⟩
 |f+1,p,k,hp,hk,hu=>by
  unfold kas_bin
  refine fV (bF (λl ⟨a1,a2,a3⟩=>?_) (qY hp (by omega) hu k 0 k (ÿ _) (Ì _) (by omega) (λt h=>absurd h (by omega)) (λt h1 h2=>absurd h1 (by omega))))
  have e:=Rb (key:=key) hp (k:=k) (by omega) a1
  have hu':Up key (bubble p k (k - l)) (k+1):=λi j hij hj=>by
   rw[e,e]
   by_cases hi:i=l
   ·rw[if_pos hi]
    by_cases hj':j=l
    ·rw[if_pos hj'];exact ā _
    ·rw[if_neg hj',if_pos ⟨by omega,by omega⟩]
     exact Int.le_of_lt (a3 _ (by omega) (by omega))
   ·rw[if_neg hi]
    by_cases hi2:l<i/\i<=k
    ·rw[if_pos hi2,if_neg (by omega),if_pos ⟨by omega,by omega⟩]
     exact hu _ _ (by omega) (by omega)
    ·rw[if_neg hi2]
     by_cases hj':j=l
     ·rw[if_pos hj']
      exact a2 i (by omega)
     ·rw[if_neg hj']
      by_cases hj2:l<j/\j<=k
      ·rw[if_pos hj2]
       exact hu _ _ (by omega) (by omega)
      ·rw[if_neg hj2]
       exact hu _ _ hij (by omega)
  refine bF (λp' ⟨b1,b2⟩=>⟨b1,?_⟩) (Kz f _ (k+1) (hp.bub _ _) (by omega) hu')
  have e2:k+(f+1)=k+1+f:=by omega
  rw[e2];exact b2
def Cp(h1:1<=n):kwp n key (kas_sort n) (λp=>Pm n p/\Up key p n):=by
 unfold kas_sort
 refine fV (bF (λr ⟨a1,a2,a3,a4⟩=>?_) (Kr (p:=(Þ n).toArray) (Array.Perm.refl _) h1))
 have e:max r.1 1=r.1:=by omega
 rw[e]
 split
 ·refine bF (λp' ⟨b1,b2⟩=>⟨b1,?_⟩) (Kz (n - r.1) r.2 r.1 a1 (by omega) a4)
  have e2:r.1+(n - r.1)=n:=by omega
  rw[e2] at b2;exact b2
 ·have e2:r.1=n:=by omega
  rw[e2] at a4
  exact⟨a1,a4⟩
end
end NfSort
namespace L2
open PySem PySem.Spec PyProof.Rows
section
variable {prog:Program}{w:World}{A:Around}{E:Value->Shared->Prop}{s:Shared}
end
section
variable {X:Cx}{pos:Pos}
def M7(K:Ú)(n:Nat)(t:TGs):TG:=λv σ H Q=>∃a xs,v=.ref a/\SqL K H a xs/\xs.length=n/\t xs σ H Q
end
section
variable {X:Cx}
def xM:bI X (.builtin "isinstance") (λxs H Q=>∃x c t b,xs=[x,.ty c]/\TyOf X.K H x t/\W.kitOne X.K t (.type c)=some b/\Q (.bl b) H):=by
 intro pins s σ H xs us Q I r h
 obtain⟨x,c,t,b,rfl,ty,e,q⟩:=h
 obtain⟨u,u2,rfl,rx,rc⟩:=vals2 r
 cases rc
 exact Fx I rx ty e λtk=>⟨.bl b,H,I.tok _,rfl,q⟩
def Iz:OpR X (compareOp .Is) (λx y H Q=>∃a b,x=.bl a/\y=.bl b/\Q (.bl (decide (a=b))) H):=by
 intro pins s σ H x y v u Q I rx ry h
 obtain⟨a,b,rfl,rfl,q⟩:=h
 cases rx
 cases ry
 refine Ø ?_
 refine⟨.bl (decide (a=b)),H,I,?_,q⟩
 cases a <;> cases b <;> rfl
def Cd:∀{bs:List Bool}{us:List Value},Vals (bs.map V.bl) us->us=bs.map Value.bool
 |[],_,h=>by cases h;rfl
 |b::bs,_,h=>by
  cases h with
  |cons r t =>
   cases r
   rw[Cd t]
   rfl
def all_range(bs:List Bool):(Þ bs.length).all (λi=>bs.getD i true)=bs.all id:=by
 rw[ġ]
 simp only[ę,Ī]
 constructor
 ·intro h x hx
  obtain⟨i,hi,e⟩:=List.mem_iff_getElem.mp hx
  have q:=h i hi
  simp[hi] at q
  rw[←e];exact q
 ·intro h i hi
  have q:=h bs[i] (ģ hi)
  simpa[hi] using q
def Gi(hc:X.calm=true):bI X (.builtin "all") (λxs H Q=>∃(p:Addr) (bs:List Bool),xs=[.ref p]/\SqL X.K H p (bs.map V.bl)/\Q (.bl (bs.all id)) H):=by
 intro pins s σ H xs us Q I r h
 obtain⟨p,bs,rfl,hp,q⟩:=h
 obtain⟨u,rfl,rx⟩:=vals1 r
 cases rx
 obtain⟨its,rv,pl,hz⟩:=I.list hp
 have e:=Cd rv
 subst e
 have hlt:p≠s.heap.objs.size:=by obtain⟨o,ho,_⟩:=pl.isList;exact â (Ï ho)
 refine call_all_walk (wpAny_pyIter_list pl.isList ?_)
 refine⟨_,_,_,_,_,_,λi=>bs.getD i true,rfl,Walks.list (A:=X.A.in1) (I.ok.hd hc) _ p hlt _,⟨⟨_,ä _ rfl,rfl,rfl⟩,pl.isList.push _⟩,?_,λh' tk hk=>?_⟩
 ·intro i v s Q E hP hQ
  have hP':(bs.map Value.bool)[i]?=some v:=by simpa using hP
  rw[ß] at hP'
  cases hb:bs[i]? with
  |none=>rw[hb] at hP';cases hP'
  |some b =>
   rw[hb] at hP'
   cases hP'
   refine Ĩ ?_
   have e:bs.getD i true=b:=by rw[Ð,hb];rfl
   have hQ':Q (bs.getD i true) s:=hQ
   rw[e] at hQ'
   exact hQ'
 ·have e:(Þ (bs.map Value.bool).toArray.size).all (λi=>bs.getD i true)=bs.all id:=by
   rw[Í,Á]
   exact all_range bs
  rw[e]
  refine⟨.bl (bs.all id),H,I.kept λb o eb=>hk b o ?_ (Ó _ eb),rfl,q⟩
  intro hm
  have:b=s.heap.objs.size:=by simpa using hm
  exact absurd (Ï eb) (by rw[this];exact č _)
def Gd(hc:X.calm=true):bI X (.builtin "min") (λxs H Q=>∃p a b,xs=[.ref p]/\SqT X.K H p [.int a,.int b]/\Q (.int (if b<a then b else a)) H):=by
 intro pins s σ H xs us Q I r h
 obtain⟨p,a,b,rfl,hp,q⟩:=h
 obtain⟨u,rfl,rx⟩:=vals1 r
 cases rx
 obtain⟨its,rv,pl,hz⟩:=I.tuple hp
 obtain⟨v1,v2,rfl,⟨t1,rfl⟩,⟨t2,rfl⟩⟩:=vals2 rv
 have pl':s.heap.IsTuple p (intItems #[(a,t1),(b,t2)]):=by
  have z:s.heap.IsTuple p #[Ō a t1,Ō b t2]:=pl
  simpa[intItems] using z
 have hlt:p<s.heap.objs.size:=by obtain⟨o,ho,_⟩:=pl;exact Ï ho
 refine call_min_walk (wpAny_pyIter_tuple pl' ?_)
 refine⟨_,[s.heap.objs.size,p],[s.heap.objs.size],_,_,_,_,rfl,Walks.tuple (A:=X.A.in1) (I.ok.hd hc) _ p (â hlt) (intItems #[(a,t1),(b,t2)]),⟨⟨_,ä _ rfl,rfl,rfl⟩,pl'.push _⟩,λc hc=>?_,by simp[intItems],
  CmpOf.ints_lt (numAt #[(a,t1),(b,t2)]) (λ_ _=>intItems_at),λv h' tk hP hk=>?_⟩
 ·show c<(s.heap.push _).objs.size
  rw[Ť]
  rcases Ñ.mp hc with rfl|hc
  ·exact Ũ _
  ·have:c=p:=by simpa using hc
   rw[this];exact ċ hlt
 ·have hv:v=if b<a then Ō b t2 else Ō a t1:=by
   have hP':(intItems #[(a,t1),(b,t2)])[argBest (λi j=>decide (numAt #[(a,t1),(b,t2)] i<numAt #[(a,t1),(b,t2)] j)) 1]?=some v:=by
    have hsz2:(intItems #[(a,t1),(b,t2)]).size - 1=1:=by simp[intItems]
    rw[←hsz2];exact hP
   by_cases hba:b<a
   ·have e:argBest (λi j=>decide (numAt #[(a,t1),(b,t2)] i<numAt #[(a,t1),(b,t2)] j)) 1=1:=by simp[argBest,numAt,hba]
    rw[e] at hP'
    simpa[intItems,hba] using hP'.symm
   ·have e:argBest (λi j=>decide (numAt #[(a,t1),(b,t2)] i<numAt #[(a,t1),(b,t2)] j)) 1=0:=by simp[argBest,numAt,hba]
    rw[e] at hP'
    simpa[intItems,hba] using hP'.symm
  subst hv
  refine⟨.int (if b<a then b else a),H,I.kept λb o eb=>hk b o ?_ (Ó _ eb),?_,q⟩
  ·intro hm
   have:b=s.heap.objs.size:=by simpa using hm
   exact absurd (Ï eb) (by rw[this];exact č _)
  ·by_cases hba:b<a
   ·rw[if_pos hba,if_pos hba];exact⟨_,rfl⟩
   ·rw[if_neg hba,if_neg hba];exact⟨_,rfl⟩
def Rj{prog:Program}{w:World}{A:Around}{E:Value->Shared->Prop}{s:Shared}{l:Addr}{n:Nat}{x:Int}{t:Tok}{u:Value}{Q:Value->Shared->Prop}{its:List Value}(ho:s.heap.get? l=some { cls:=.type "list",data:=.seq its.toArray n })(hfit:¬(!Builtin.List.listFitsIndex x)=true)(hsz:its.toArray.size<=sizeLine)(h:Q .none { s with heap:=s.heap.update l (Ý λxs=>(xs.extract 0 (if x<0 then (x+(xs.size:Int)).toNat else min x.toNat xs.size)).push u++xs.extract (if x<0 then (x+(xs.size:Int)).toNat else min x.toNat xs.size)),toks:=s.toks }) :
  wpAny (model prog w) A (call (.builtin "list.insert") [.ref l,.int x t,u]) Q E s:=by
 generalize its.toArray=ia at ho hsz
 exact call_meets PySem.F.slot_list_insert ⟨_,ho,rfl⟩ PySem.F.entry_list_insert (PySem.F.args_list_insert_3 _ _ _) (PySem.AutoSeq1.list_insert_list_int_val_1 l ia n x t u hfit hsz) ⟨ho,h⟩
def vL:V->List V->Hp->VK->Prop:=λx vs H Q=>∃l xs k y,x=.ref l/\vs=[.int (k:Nat),y]/\H l=some (.lst xs)/\k<=xs.length/\xs.length<sizeLine/\Q .non (upd H l (.lst (xs.take k++y::xs.drop k)))
def uJ:MtM X "list.insert" vL:=by
 intro pins s σ H x vs v us Q I rx rv h
 obtain⟨l,xs,k,y,rfl,rfl,hH,hk,hz,q⟩:=h
 cases rx
 obtain⟨u1,u,rfl,⟨t,rfl⟩,ru⟩:=rv.two
 obtain⟨z,its,n,r,hl,e⟩:=I.yP hH
 have h24:(sizeLine:Nat)=16777216:=ô
 have hfit:¬(!Builtin.List.listFitsIndex (k:Int))=true:=by
  have q1:decide (-(2 ^ 63:Int)<=(k:Int))=true:=decide_eq_true (by omega)
  have q2:decide ((k:Int)<2 ^ 63)=true:=decide_eq_true (by omega)
  unfold Builtin.List.listFitsIndex
  rw[q1,q2]
  exact Ò
 have hsz:its.toArray.size<=sizeLine:=by
  have e1:its.toArray.size=xs.length:=(Í ..).trans hl.symm
  rw[e1]
  exact z
 have hx0:¬((k:Int)<0):=by omega
 have hxk:(k:Int).toNat=k:=ï k
 generalize hx:(k:Int)=x at hfit hx0 hxk
 refine Rj (its:=its) e hfit hsz ?_
 refine⟨.non,_,I.Mt (its':=its.take k++u::its.drop k) hH e ?_ ?_ ?_,rfl,q⟩
 ·have hm:min k its.length=k:=by omega
  have e2:=W.kl_ins_eq its k u
  simp only[hx0,if_false,hxk,Í,hm]
  exact e2
 ·exact(r.take k).append (.cons ru (r.drop k))
 ·rw[È,ã,Ģ,Ā]
  omega
end
abbrev Tie:=Int×Int
def Pr(H:Hp)(v:V)(t:Tie):Prop:=∃p,v=.ref p/\H p=some (.tup [.int t.1,.int t.2])
abbrev Prs(H:Hp):List V->List Tie->Prop:=Paired (Pr H)
def aJ(t:Tie):Int:=64 * t.1+t.2
def lZ(t:Tie):Prop:=0<=t.2/\t.2<64
def code_inj{a b:Tie}(ha:lZ a)(hb:lZ b)(h:aJ a=aJ b):a=b:=by
 obtain⟨a1,a2⟩:=a
 obtain⟨b1,b2⟩:=b
 unfold lZ aJ at *
 simp only at *
 have e:a1=b1:=by omega
 have e2:a2=b2:=by omega
 rw[e,e2]
def jW(h:Heap)(u:Value)(t:Tie):Prop:=∃a o t1 t2 n,u=.ref a/\h.get? a=some o/\o.cls=.type "tuple"/\o.data=.seq #[.int t.1 t1,.int t.2 t2] n
def jW.keep{h h':Heap}{u:Value}{t:Tie}(x:jW h u t)(k:∀a o,h.get? a=some o->o.cls=.type "tuple"->h'.get? a=some o):jW h' u t:=by
 obtain⟨a,o,t1,t2,n,e,ho,hc,hd⟩:=x
 exact⟨a,o,t1,t2,n,e,k a o ho hc,hc,hd⟩
def Qk{α β:Type}{F:α->β->Prop}{l₁:List α}{l₂:List β}(h:Paired F l₁ l₂):∀{i:Nat}{b:β},l₂[i]?=some b->∃a,l₁[i]?=some a/\F a b:=by
 induction h with
 |nil=>intro i x e;simp at e
 |cons r t ih =>
  intro i x e
  cases i with
  |zero=>simp at e;subst e;exact⟨_,rfl,r⟩
  |succ i =>
   obtain⟨c,e1,f⟩:=ih (by simpa using e)
   exact⟨c,by simpa using e1,f⟩
def yw{α β:Type}{F:α->β->Prop}{l₁:List α}{l₂:List β}(h:Paired F l₁ l₂)(da:α)(db:β):∀(p:List Nat),(∀i∈p,i<l₂.length)->Paired F (p.map λi=>l₁.getD i da) (p.map λi=>l₂.getD i db)
 |[],_=>.nil
 |i::p,hp=>by
  have hi:i<l₂.length:=hp i Æ
  obtain⟨a,e,f⟩:=Qk h (i:=i) (b:=l₂[i]) (by simp[hi])
  refine .cons ?_ (yw h da db p λj hj=>hp j (Ã _ hj))
  have e1:l₁.getD i da=a:=by rw[Ð,e];rfl
  have e2:l₂.getD i db=l₂[i]:=by simp[hi]
  show F (l₁.getD i da) (l₂.getD i db)
  rw[e1,e2]
  exact f
def Qc{α:Type}:∀us:List α,ķ (λx=>x.snd) (us.zip us)=us
 |[]=>rfl
 |u::us=>by rw[List.zip_cons_cons,à,Qc us]
def dF{α:Type}(l:List α)(d:α):(Þ l.length).map (λi=>l.getD i d)=l:=by
 apply List.ext_getElem
 ·simp
 ·intro i h1 h2
  simp at h1 ⊢
  simp[h1]
section
variable {X:Cx}{pins:List (Addr×Obj)}{σ:St}{H:Hp}{s:Shared}
def Inv.pairs(I:Inv X pins σ H s):∀{vs:List V}{ts:List Tie}{us:List Value},Prs H vs ts->Vals vs us->Paired (jW s.heap) us ts
 |_,_,_,.nil,r=>by cases r;exact .nil
 |_,_,_,.cons p q,r=>by
  cases r with
  |cons r rr =>
   refine .cons ?_ (I.pairs q rr)
   obtain⟨a,rfl,e⟩:=p
   cases r
   obtain⟨_,its,rv,⟨o,ho,hc,n,hd⟩⟩:=I.hok a _ e
   obtain⟨v1,v2,rfl,⟨t1,rfl⟩,⟨t2,rfl⟩⟩:=vals2 rv
   exact⟨a,o,t1,t2,n,rfl,ho,hc,hd⟩
end
section
variable {prog:Program}{w:World}{A:Around}{E:Value->Shared->Prop}{s:Shared}
def Js{x y:Value}{a b:Tie}{Q:Bool->Shared->Prop}(hx:jW s.heap x a)(hy:jW s.heap y b)(na:lZ a)(nb:lZ b)(h:Q (decide (aJ a<aJ b)) s):wpAny (model prog w) A (keyLt' (tuples' true) x y) Q E s:=by
 obtain⟨p,o,t1,t2,n,rfl,ho,hc,hd⟩:=hx
 obtain⟨p',o',t1',t2',n',rfl,ho',hc',hd'⟩:=hy
 obtain⟨a1,a2⟩:=a
 obtain⟨b1,b2⟩:=b
 unfold lZ at na nb
 simp only at na nb
 refine W.kat_lt ho hd ho' hd' ?_
 refine W.kat_cons (wpAny_eqBool_int ?_)
 by_cases e1:a1=b1
 ·subst e1
  rw[beq_self_eq_true]
  refine W.kat_yes (W.kat_cons (wpAny_eqBool_int ?_))
  by_cases e2:a2=b2
  ·subst e2
   rw[beq_self_eq_true]
   refine W.kat_yes (W.kat_nil ?_)
   have e:decide (aJ (a1,a2)<aJ (a1,a2))=false:=decide_eq_false (Int.lt_irrefl _)
   rw[e] at h
   exact h
  ·rw[beq_eq_false_iff_ne.mpr e2]
   refine W.kat_no (W.kat_one _ _ (lt_int ?_))
   have e:decide (aJ (a1,a2)<aJ (a1,b2))=decide (a2<b2):=by
    apply decide_eq_decide.mpr
    unfold aJ
    omega
   rw[e] at h
   exact h
 ·rw[beq_eq_false_iff_ne.mpr e1]
  refine W.kat_no (oneLt_int ?_)
  have e:decide (aJ (a1,a2)<aJ (b1,b2))=decide (a1<b1):=by
   apply decide_eq_decide.mpr
   unfold aJ
   simp only
   constructor
   ·intro h;omega
   ·intro h;omega
  rw[e] at h
  exact h
def JG:∀{us:List Value}{ts:List Tie},Paired (jW s.heap) us ts->∃fs,W.KatTups s.heap us fs/\fs.length=us.length/\∀v∈fs,∃i t,v=Ō i t
 |_,_,.nil=>⟨[],.nil,rfl,λ_ h=>nomatch h⟩
 |_,_,.cons p q=>by
  obtain⟨a,o,t1,t2,n,rfl,ho,hc,hd⟩:=p
  obtain⟨fs,k,hl,hv⟩:=JG q
  refine⟨_::fs,.cons ho hc hd (f:=Ō _ t1) rfl k,by simp[hl],λv hv'=>?_⟩
  rcases Ñ.mp hv' with rfl|h
  ·exact⟨_,_,rfl⟩
  ·exact hv v h
def R8{n:Nat}{key:Nat->Int}{p:Array Nat}(hp:NfSort.Pm n p)(h1:1<=n)(hs:NfSort.Up key p n):NfSort.kwp n key (W.kas_count n p) (λr=>r.1=n/\r.2=p):=by
 unfold W.kas_count
 have go:∀(f a:Nat),1<=a->a+f=n->NfSort.kwp n key (W.kas_asc p f a) (λm=>m=n):=by
  intro f
  induction f with
  |zero=>intro a _ h;exact h
  |succ f ih =>
   intro a ha h
   refine⟨hp.lt (by omega),hp.lt (by omega),?_⟩
   have hc:¬key (p.getD a 0)<key (p.getD (a - 1) 0):=Int.not_lt.mpr (hs (a - 1) a (by omega) (by omega))
   rw[decide_eq_false hc]
   exact ih (a+1) (by omega) (by omega)
 refine NfSort.fV (NfSort.bF (λm e=>?_) (go (n - 1) 1 (Ì _) (by omega)))
 rw[if_pos (by simpa using e)]
 exact⟨e,rfl⟩
open PySem.W in
def K8{prog:Program}{w:World}{A:Around}{E:Value->Shared->Prop}{κ:SortKind}{it:Array Keyed}{n:Nat}{Q:Unit->SortSt->Shared->Prop}{G:Array Nat->Shared->Prop}{s:Shared}(h2:2<=n)(hmr:minRun' n n 0<=n)(hG:∀p' st' s',p'.size=n->arrOf st'=p'.map (kas_item it)->failedOf st'=none->G p' s'->Q () st' s')(h:(kas_count n (ņ (Þ n))).kasWp (kas_cmp prog w A κ it) (λr s'=>r.1=n/\G r.2 s') s) :
  kasC (model prog w) A E sortRuns' Q (kas_st κ it (ņ (Þ n))) s:=by
 obtain⟨r,rfl⟩:∃r,n=r+2:=⟨n - 2,by omega⟩
 have hrs:(ņ (Þ (r+2))).size=r+2:=by simp
 rw[sortRuns'_eq]
 refine kasC_bind (kasC_get ?_)
 dsimp only
 have hsz:(arrOf (kas_st κ it (ņ (Þ (r+2))))).size=r+2:=by
  show((ņ (Þ (r+2))).map (kas_item it)).size=_
  rw[Array.size_map,hrs]
 simp only[hsz]
 refine kasC_bind (kasC_range ?_)
 show kasC _ _ _ (forIn (0::1::List.range' 2 r) _ _) _ _ _
 refine kasC_cons ?_
 dsimp only
 rw[if_neg (by omega)]
 simp only[Nat.sub_zero,Nat.zero_add]
 refine kasC_bind (kas_count_ (by omega) (by rw[hrs];exact Ì _) (λm p' s' hm1 hm2 hp hg=>?_) h)
 have hps:p'.size=r+2:=hp.trans hrs
 obtain⟨e,hg⟩:=hg
 have e':m=r+2:=e
 subst e'
 dsimp only
 rw[if_neg (by omega)]
 refine kasC_bind (kasC_get ?_)
 rw[show(pendingOf (kas_st κ it p')).back?=none from rfl]
 dsimp only
 refine kasC_bind (kasC_modify (kasC_pure ?_))
 show kasC _ _ _ (forIn (1::List.range' 2 r) _ _) _ _ _
 refine kasC_cons ?_
 dsimp only
 rw[if_pos (Ì _)]
 refine kasC_pure ?_
 dsimp only
 refine kasC_bind (kasC_range ?_)
 show kasC _ _ _ (forIn (0::1::List.range' 2 r) _ _) _ _ _
 refine kasC_cons ?_
 refine kasC_bind (kasC_get ?_)
 rw[if_pos (show(pendingOf (setPending (kas_st κ it p') ((pendingOf (kas_st κ it p')).push (0,r+2,0)))).size<=1 from Ì 1)]
 refine kasC_pure ?_
 dsimp only
 exact kasC_pure (hG p' _ _ hps rfl rfl hg)
def Srt(ts:List Tie):Prop:=ts.length<64\/ts.length=300/\∀i j,i<=j->j<ts.length->aJ (ts.getD i (0,0))<=aJ (ts.getD j (0,0))
def Srt.lt{ts:List Tie}:Srt ts->ts.length<512
 |.inl h=>by omega
 |.inr h=>by omega
def Ep{a:Addr}{us:List Value}{ts:List Tie}{n:Nat}{P:PySem.Fin->Shared->Prop}(ho:s.heap.get? a=some (seqObj "list" us.toArray n))(hp:Paired (jW s.heap) us ts)(hn:∀t∈ts,lZ t)(h64:Srt ts)(h:∀p:List Nat,p.Perm (Þ us.length)->(∀i j,i<=j->j<us.length->aJ (ts.getD (p.getD i 0) (0,0))<=aJ (ts.getD (p.getD j 0) (0,0))) ->
   P (.done (.ret .none)) { s with heap:=sortedHeap s.heap a us (p.map λi=>us.getD i ė).toArray }) :
  wpAny (model prog w) A (Builtin.«list.sort» ⟨[.ref a],[]⟩) P E s:=by
 have hlen:=hp.length
 have hbig:=h64.lt
 have h24:=ô
 rw[list_sort_plain]
 have ha:a<s.heap.objs.size:=Ï ho
 refine Ä (listItems_at ho rfl ?_)
 refine Ä (listUpdate_at ho rfl ?_ (by rw[Í,ô];omega) (ÿ _))
 obtain⟨e1,ho1⟩:∃e1,(s.heap.update a (Ý λ_=>(#[]:Array Value))).get? a=some (seqObj "list" #[] e1):=⟨_,get?_update_seq ho (λ_=>#[])⟩
 refine Ä (seqEpoch_at ho1 rfl ?_)
 refine Ä (wpAny_newTuple ?_ (by show us.length<=_;rw[ô];omega))
 refine Ä (wpAny_newList ?_ (ÿ _))
 refine Ė ?_
 have ho6:(((s.heap.update a (Ý λ_=>(#[]:Array Value))).push (seqObj "tuple" us.toArray 0)).push (seqObj "list" #[] 0)).get? a=some (seqObj "list" #[] e1):=by
  rw[ě _ _ _ (by rw[size_push',Ę];exact â (ċ ha)),ě _ _ _ (by rw[Ę];exact â ha)]
  exact ho1
 have kept:∀b o,s.heap.get? b=some o->o.cls=.type "tuple"->(((s.heap.update a (Ý λ_=>(#[]:Array Value))).push (seqObj "tuple" us.toArray 0)).push (seqObj "list" #[] 0)).get? b=some o:=λb o q hc=>by
  have hlt:b<s.heap.objs.size:=Ï q
  have hne:b≠a:=λz=>by
   rw[z,ho] at q
   cases q
   have z2:(ĕ "list")=ĕ "tuple":=hc
   injection z2 with z3
   exact absurd z3 (by decide)
  rw[ě _ _ _ (by rw[size_push',Ę];exact â (ċ hlt)),ě _ _ _ (by rw[Ę];exact â hlt),Heap.get?_update_ne _ _ _ _ hne]
  exact q
 show wpAny (model prog w) A _ P E { s with heap:=((s.heap.update a (Ý λ_=>(#[]:Array Value))).push (seqObj "tuple" us.toArray 0)).push (seqObj "list" #[] 0) }
 dsimp only
 have hsz:us.toArray.size=us.length:=by simp
 have hp6:Paired (jW (((s.heap.update a (Ý λ_=>(#[]:Array Value))).push (seqObj "tuple" us.toArray 0)).push (seqObj "list" #[] 0))) us ts:=Paired.Fp hp λu t x=>x.keep kept
 by_cases h2:us.toArray.size<2
 ·rw[if_pos h2,if_pos h2]
  refine Ä (Ø ?_)
  rw[StateT.run_pure]
  refine Ä (Ø ?_)
  dsimp only
  have eout:(arrOf (SortSt.mk' general' (us.toArray.zip us.toArray) #[] 7 none)).map (·.2)=((Þ us.length).map λi=>us.getD i ė).toArray:=by
   rw[dF]
   show(us.toArray.zip us.toArray).map (·.2)=us.toArray
   apply Array.toList_inj.mp
   simp
   exact Qc us
  rw[eout]
  refine Ä (seqEpoch_at ho6 rfl ?_)
  refine Ä (listUpdate_at ho6 rfl ?_ (ÿ _) (by rw[Í,Á,ō,ô];omega))
  simp only[bne_self_eq_false,Ĭ,if_false]
  refine Ø (h _ (List.Perm.refl _) λi j hij hj=>?_)
  have:i=j:=by omega
  subst this
  exact ā _
 ·rw[if_neg h2,if_neg h2]
  have h2':2<=us.length:=by omega
  obtain⟨fs,hk,hfl,hfi⟩:=JG (s:={ s with heap:=((s.heap.update a (Ý λ_=>(#[]:Array Value))).push (seqObj "tuple" us.toArray 0)).push (seqObj "list" #[] 0) }) hp6
  refine Ä (W.kat_kind (T:=.type "int") hk (by omega) (λv hv=>by obtain⟨i,t,rfl⟩:=hfi v hv;exact W.Looks.of_pure rfl) rfl ?_)
  have hcmp:∀i j C,i<us.length->j<us.length->C (decide (aJ (ts.getD i (0,0))<aJ (ts.getD j (0,0)))) { s with heap:=((s.heap.update a (Ý λ_=>(#[]:Array Value))).push (seqObj "tuple" us.toArray 0)).push (seqObj "list" #[] 0) } ->
    W.kas_cmp prog w A (tuples' true) (us.toArray.zip us.toArray) i j C { s with heap:=((s.heap.update a (Ý λ_=>(#[]:Array Value))).push (seqObj "tuple" us.toArray 0)).push (seqObj "list" #[] 0) }:=λi j C hi hj hC=>by
   unfold W.kas_cmp
   rw[W.kat_item rfl,W.kat_item rfl]
   have key:∀k,k<us.length->jW (((s.heap.update a (Ý λ_=>(#[]:Array Value))).push (seqObj "tuple" us.toArray 0)).push (seqObj "list" #[] 0)) (us.getD k ė) (ts.getD k (0,0))/\lZ (ts.getD k (0,0)):=λk hk=>by
    have hk':k<ts.length:=by omega
    have ek:ts.getD k (0,0)=ts[k]:=by simp[hk']
    obtain⟨u,eu,pu⟩:=Qk hp6 (i:=k) (b:=ts[k]) (by simp[hk'])
    have eu':us.getD k ė=u:=by rw[Ð,eu];rfl
    rw[ek,eu']
    exact⟨pu,hn _ (ģ hk')⟩
   exact Js (key i hi).1 (key j hj).1 (key i hi).2 (key j hj).2 hC
  have G:W.kasC (model prog w) A E sortRuns' (λ_ st' s'=>∃p:Array Nat,s'={ s with heap:=((s.heap.update a (Ý λ_=>(#[]:Array Value))).push (seqObj "tuple" us.toArray 0)).push (seqObj "list" #[] 0) }/\arrOf st'=p.map (W.kas_item (us.toArray.zip us.toArray))/\failedOf st'=none/\NfSort.Pm us.length p/\NfSort.Up (λi=>aJ (ts.getD i (0,0))) p us.length) (W.kas_st (tuples' true) (us.toArray.zip us.toArray) (ņ (Þ us.length))) { s with heap:=((s.heap.update a (Ý λ_=>(#[]:Array Value))).push (seqObj "tuple" us.toArray 0)).push (seqObj "list" #[] 0) }:=by
   rcases h64 with h64|⟨h64,hs⟩
   ·exact W.kas_runs (G:=λp s'=>s'={ s with heap:=((s.heap.update a (Ý λ_=>(#[]:Array Value))).push (seqObj "tuple" us.toArray 0)).push (seqObj "list" #[] 0) }/\NfSort.Pm us.length p/\NfSort.Up (λi=>aJ (ts.getD i (0,0))) p us.length) h2' (by omega) (λp' st' s' a1 a2 a3 a4=>⟨p',a4.1,a2,a3,a4.2⟩)
     (NfSort.qz hcmp (NfSort.bF (λp hp=>⟨rfl,hp⟩) (NfSort.Cp (by omega))))
   ·have hu:NfSort.Up (λi=>aJ (ts.getD i (0,0))) (ņ (Þ us.length)) us.length:=λi j hij hj=>by
     unfold NfSort.kk
     have eg:∀k,k<us.length->(ņ (Þ us.length)).getD k 0=k:=λk hk=>by simp[Array.getD,hk]
     rw[eg i (by omega),eg j hj]
     exact hs i j hij (by omega)
    exact K8 (G:=λp s'=>s'={ s with heap:=((s.heap.update a (Ý λ_=>(#[]:Array Value))).push (seqObj "tuple" us.toArray 0)).push (seqObj "list" #[] 0) }/\NfSort.Pm us.length p/\NfSort.Up (λi=>aJ (ts.getD i (0,0))) p us.length) h2' (by rw[hlen,h64];decide +kernel) (λp' st' s' a1 a2 a3 a4=>⟨p',a4.1,a2,a3,a4.2⟩)
     (NfSort.qz (G:=λr s'=>r.1=us.length/\s'={ s with heap:=((s.heap.update a (Ý λ_=>(#[]:Array Value))).push (seqObj "tuple" us.toArray 0)).push (seqObj "list" #[] 0) }/\NfSort.Pm us.length r.2/\NfSort.Up (λi=>aJ (ts.getD i (0,0))) r.2 us.length) hcmp (NfSort.bF (λr ⟨e1,e2⟩=>⟨e1,rfl,by rw[e2];exact⟨Array.Perm.refl _,hu⟩⟩) (R8 (Array.Perm.refl _) (by omega) hu)))
  have est:SortSt.mk' (tuples' true) (us.toArray.zip us.toArray) #[] 7 none=W.kas_st (tuples' true) (us.toArray.zip us.toArray) (ņ (Þ us.length)):=by
   have e:=W.kas_range (us.toArray.zip us.toArray)
   rw[show(us.toArray.zip us.toArray).size=us.length by simp] at e
   show SortSt.mk' (tuples' true) (us.toArray.zip us.toArray) #[] 7 none=SortSt.mk' (tuples' true) ((ņ (Þ us.length)).map (W.kas_item (us.toArray.zip us.toArray))) #[] 7 none
   rw[e]
  have eT:tuples' (ĕ "int" != ĕ "tuple")=tuples' true:=rfl
  rw[eT,est]
  refine Ä (ň G ?_ λ_ _ e=>e)
  rintro⟨⟨⟩,st'⟩ s' ⟨p,rfl,har,hf,hpm,hup⟩
  dsimp only
  have hout:=W.kat_snds (ks:=us) (vs:=us) rfl har
  rw[hout]
  have hsz2:p.size=us.length:=hpm.size
  refine Ä (seqEpoch_at ho6 rfl ?_)
  refine Ä (listUpdate_at ho6 rfl ?_ (ÿ _) (by rw[Í,Á,ľ,hsz2,ô];omega))
  rw[hf]
  simp only[bne_self_eq_false,Ĭ,if_false]
  refine Ø (h p.toList ?_ λi j hij hj=>?_)
  ·have:=Array.perm_iff_toList_perm.mp hpm
   simpa using this
  ·have q:=hup i j hij hj
   unfold NfSort.kk at q
   have eg:∀k,p.toList.getD k 0=p.getD k 0:=λk=>by
    rw[NfSort.getD_eq,Ð]
    simp
   rw[eg,eg]
   exact q
def jT{l:Addr}{vs:List Value}{Q:List Value->Shared->Prop}(hl:IsTup s.heap l vs.toArray)(h:Q vs { s with heap:=(s.heap.push (seqObj "list" #[] 0)).update s.heap.objs.size (Ý (·++vs.toArray)) })(hsz:vs.length<=sizeLine) :
  wpAny (model prog w) A (collect (.ref l)) Q E s:=by
 obtain⟨o,ho,hc,n,hd⟩:=id hl
 unfold collect
 refine Ä (wpAny_runValue (ő entry_proto_collect' ?_))
 show wpAny _ _ (do again (.builtin "list.__iadd__" ⟨[←newList [],.ref l],[]⟩)) _ _ s
 refine Ä (wpAny_newList (Ø ⟨Code.quiet_builtin _ (by decide +kernel),ő entry_list_iadd' ?_⟩))
 show wpAny _ _ (ŧ (.ref s.heap.objs.size) (.ref l) (.ref s.heap.objs.size)) _ _ { s with heap:=s.heap.push (seqObj "list" #[] 0) }
 unfold ŧ
 have ho':(s.heap.push (seqObj "list" #[] 0)).get? l=some o:=Ó _ ho
 refine Ä (wpAny_typeOf (T:="tuple") ⟨o,ho',hc⟩ ?_)
 have ht:(ĕ "tuple" == ĕ "tuple")=true:=by rfl
 rw[if_pos (by rw[ht];simp)]
 refine Ä (listItems_at ho' hd ?_)
 refine Ä (listItems_at (xs:=#[]) (n:=0) (ä _ rfl) rfl ?_)
 rw[if_neg (by simp)]
 refine Ä (listUpdate_at (xs:=#[]) (n:=0) (ä _ rfl) rfl ?_ (ÿ _) (by show(#[]++vs.toArray).size<=sizeLine+1;simp only[Array.size_append,Í,List.length_nil];omega))
 refine Ø ?_
 show wpAny (model prog w) A (do
   let o ←load s.heap.objs.size
   match o.data with
   |.seq xs _=>pure xs.toList
   |_=>unsupported "internal:collect") Q E { s with heap:=(s.heap.push (seqObj "list" #[] 0)).update s.heap.objs.size (Ý (·++vs.toArray)) }
 refine Ä (wpAny_load (get?_update_seq (ä _ rfl) _) ?_)
 show wpAny _ _ (pure ((#[]:Array Value)++vs.toArray).toList) Q E _
 rw[show((#[]:Array Value)++vs.toArray).toList=vs by simp]
 exact Ø h
def vB{l:Addr}{us:List Value}{ts:List Tie}{Q:Value->Shared->Prop}(hl:s.heap.IsList l us.toArray\/IsTup s.heap l us.toArray)(hp:Paired (jW s.heap) us ts)(hn:∀t∈ts,lZ t)(h64:Srt ts)(h:∀p:List Nat,p.Perm (Þ us.length)->(∀i j,i<=j->j<us.length->aJ (ts.getD (p.getD i 0) (0,0))<=aJ (ts.getD (p.getD j 0) (0,0))) ->
   Q (.ref (s.heap.objs.size+1)) { s with heap:=sortedAll s.heap us (p.map λi=>us.getD i ė).toArray }) :
  wpAny (model prog w) A (call (.builtin "sorted") [.ref l]) Q E s:=by
 have h24:=ô
 have hlen:=hp.length
 have hbig:=h64.lt
 refine Calls.call_function_entry kind_sorted plain_sorted entry_sorted (args_sorted1 _) ?_
 unfold Builtin.«sorted»
 refine Ä (m:=checkCount "sorted" 1 1 _) (Ø ?_)
 have hsz:((s.heap.push (seqObj "list" #[] 0)).update s.heap.objs.size (Ý (·++us.toArray))).objs.size=s.heap.objs.size+1:=by
  rw[Ę,size_push']
 have hoL:(((s.heap.push (seqObj "list" #[] 0)).update s.heap.objs.size (Ý (·++us.toArray))).push (seqObj "list" us.toArray 0)).get? (s.heap.objs.size+1)=some (seqObj "list" us.toArray 0):=by
  rw[←hsz];exact ä _ rfl
 have keep:∀b o,s.heap.get? b=some o->(((s.heap.push (seqObj "list" #[] 0)).update s.heap.objs.size (Ý (·++us.toArray))).push (seqObj "list" us.toArray 0)).get? b=some o:=λb o q=>by
  have hlt:b<s.heap.objs.size:=Ï q
  rw[ě _ _ _ (by rw[hsz];exact â (ċ hlt)),Heap.get?_update_ne _ _ _ _ (â hlt),ě _ _ _ (â hlt)]
  exact q
 have go:∀{Q':List Value->Shared->Prop},Q' us { s with heap:=(s.heap.push (seqObj "list" #[] 0)).update s.heap.objs.size (Ý (·++us.toArray)) }->wpAny (model prog w) A.in1 (collect (.ref l)) Q' (λe s'=>E e s') s:=λ{Q'} hq=>by
  rcases hl with hl|hl
  ·exact collect_list hl hq (by omega)
  ·exact jT hl hq (by omega)
 refine Ä (go ?_)
 refine Ä (wpAny_newList ?_ (by omega))
 show wpAny _ _ _ _ _ { s with heap:=((s.heap.push (seqObj "list" #[] 0)).update s.heap.objs.size (Ý (·++us.toArray))).push (seqObj "list" us.toArray 0) }
 rw[hsz]
 refine Ä (Ė (wpAny_call_entry slot_list_sort ⟨_,hoL,rfl⟩ entry_list_sort (Ep hoL (Paired.Fp hp λu t x=>x.keep λa o e _=>keep a o e) hn h64 λp a1 a2=>⟨_,rfl,?_⟩) (args_list_sort _)))
 exact Ø ⟨_,rfl,h p a1 a2⟩
end
section
variable {X:Cx}
def yc{ts:List Tie}{p:List Nat}(hp:p.Perm (Þ ts.length))(h:∀i j,i<=j->j<ts.length->aJ (ts.getD (p.getD i 0) (0,0))<=aJ (ts.getD (p.getD j 0) (0,0))) :
  (p.map λi=>ts.getD i (0,0)).Perm ts/\(p.map λi=>ts.getD i (0,0)).Pairwise (λa b=>aJ a<=aJ b):=by
 refine⟨?_,?_⟩
 ·have q:=hp.map λi=>ts.getD i (0,0)
  rw[dF] at q
  exact q
 ·have hl:p.length=ts.length:=by simpa using hp.length_eq
  rw[Ŕ]
  intro i j hi hj hij
  rw[Á] at hi hj
  have q:=h i j (by omega) (by omega)
  have ei:p.getD i 0=p[i]:=by simp[hi]
  have ej:p.getD j 0=p[j]:=by simp[hj]
  rw[ei,ej] at q
  simpa using q
def oA:bI X (.builtin "sorted") (λxs H Q=>∃(p:Addr) (vs:List V) (ts:List Tie),xs=[.ref p]/\(SqL X.K H p vs\/SqT X.K H p vs)/\Prs H vs ts/\(∀t∈ts,lZ t)/\Srt ts /\
  ∀l ws us,H l=none->Prs H ws us->us.Perm ts->us.Pairwise (λa b=>aJ a<=aJ b)->Q (.ref l) (upd H l (.lst ws))):=by
 intro pins s σ H xs us Q I r h
 obtain⟨p,vs,ts,rfl,hp,hpr,hn,h64,q⟩:=h
 obtain⟨u,rfl,rx⟩:=vals1 r
 cases rx
 have h24:=ô
 have fin:∀its:List Value,Vals vs its->(s.heap.IsList p its.toArray\/IsTup s.heap p its.toArray)->wpAny (model X.prog X.w) X.A (call (.builtin "sorted") [.ref p]) (EP X pins σ Q) X.xe s:=λits rv hl=>by
  have hpv:=I.pairs hpr rv
  have hlen:=hpr.length
  have hlen2:=rv.length
  have hbig:=h64.lt
  refine vB hl hpv hn h64 λpp hpp hord=>?_
  have eits:its.length=ts.length:=by omega
  rw[eits] at hpp hord
  obtain⟨hperm,hpw⟩:=yc hpp hord
  have hlt:∀i∈pp,i<ts.length:=λi hi=>Ī.mp (hpp.mem_iff.mp hi)
  have hw:=yw hpr V.non (0,0) pp hlt
  have hvv:Vals (pp.map λi=>vs.getD i V.non) (pp.map λi=>its.getD i ė):=yw rv V.non ė pp λi hi=>by have:=hlt i hi;omega
  obtain⟨e,he⟩:=sortedAll_at s.heap its (pp.map λi=>its.getD i ė).toArray
  refine⟨.ref (s.heap.objs.size+1),upd H (s.heap.objs.size+1) (.lst (pp.map λi=>vs.getD i V.non)),I.laid (t':=s.toks) (λb o eb=>sortedAll_old eb) (Ĺ _) ?_,rfl,q _ _ _ (I.hok.fresh (Ĺ _)) hw hperm hpw⟩
  refine⟨?_,_,e,hvv,he⟩
  have hl3:pp.length=ts.length:=by simpa using hpp.length_eq
  rw[Á]
  omega
 rcases hp with hp|hp
 ·obtain⟨its,rv,pl,hz⟩:=I.list hp
  exact fin its rv (.inl pl.isList)
 ·obtain⟨its,rv,pl,hz⟩:=I.tuple hp
  exact fin its rv (.inr pl)
def pD(t:Tie):PyData:=.tuple [.int t.1,.int t.2]
def Bf:∀ts:List Tie,Ĉ (ts.map pD)=true
 |[]=>rfl
 |t::ts=>by
  show(PyData.canLay0 (pD t)&&Ĉ (ts.map pD))=true
  rw[Bf ts]
  rfl
def sW:∀ts:List Tie,Ġ (ts.map pD)<=1
 |[]=>ÿ _
 |t::ts=>by
  show max (PyData.depth (pD t)) (Ġ (ts.map pD))<=1
  have h1:=sW ts
  have h2:PyData.depth (pD t)=1:=rfl
  omega
def Ka:∀ts us:List Tie,ŭ (ts.map pD) (us.map pD)=decide (ts=us)
 |[],[]=>rfl
 |[],_::_=>rfl
 |_::_,[]=>rfl
 |t::ts,u::us=>by
  show(í (pD t) (pD u)&&ŭ (ts.map pD) (us.map pD))=_
  rw[Ka ts us]
  have e:í (pD t) (pD u)=decide (t=u):=by
   show((t.1 == u.1)&&((t.2 == u.2)&&true))=_
   rw[Bool.and_true,ġ]
   simp[Prod.ext_iff]
  rw[e,ġ]
  simp
inductive DatV(K:Ú)(H:Hp):V->PyData->Prop
 |lst {a:Addr}{vs:List V}{ts:List Tie}:SqL K H a vs->Prs H vs ts->DatV K H (.ref a) (.list (ts.map pD))
 |tup {a:Addr}{vs:List V}{ts:List Tie}:SqT K H a vs->Prs H vs ts->DatV K H (.ref a) (.tuple (ts.map pD))
 |web {a b:Addr}{n:Int}{vs:List V}{ts:List Tie}:SqT K H a [.int n,.ref b]->SqT K H b vs->Prs H vs ts->DatV K H (.ref a) (.tuple [.int n,.tuple (ts.map pD)])
def DP(ts us:List Tie):í (.list (ts.map pD)) (.list (us.map pD))=decide (ts=us):=Ka ts us
end
end L2
namespace L2
open PySem PySem.Spec PyProof.Rows HT
section
variable {prog:Program}{w:World}{A:Around}{E:Value->Shared->Prop}{s:Shared}
end
section
variable {X:Cx}{e:Expr}{te:TE}{p1 p2 p3 pos:Pos}
end
end L2
namespace PySem
open Sem (wp)
open AutoSeq1 (wpAny_loadPart')
section
variable {prog:Program}{w:World}{A:Around}{E:Value->Shared->Prop}{s:Shared}
end
end PySem
namespace L2
open PySem PySem.Spec PyProof.Rows
section
variable {κ:Type} [DecidableEq κ]
end
section
variable {P:Program}{w:World}{H:Hp}{h:Heap}{a:Addr}
end
section
variable {X:Cx}{pins:List (Addr×Obj)}{σ:St}{H:Hp}{s:Shared}{a:Addr}{y v:V}{u r:Value}{o:Option V}{A:Around}{E:Value->Shared->Prop}
end
section
variable {X:Cx}{pins:List (Addr×Obj)}{σ:St}{H:Hp}{s:Shared}{a:Addr}{kvs:List (Key×V)}{k:Key}{u:Value}{A:Around}{E:Value->Shared->Prop}
end
section
variable {X:Cx}{o i e value:Expr}{pos pos' tpos:Pos}{td ty tv:TE}
end
section
variable {X:Cx}{pos:Pos}
end
structure M1(X:Cx)(o:Expr)(m:Str)(apos:Pos)(e:Expr)(cpos:Pos):Prop where
 base:attributeBase o m X.env (eval o X.env)=eval o X.env
 few:((backTo cpos (starEach [e] X.env)).all (λx=>!x.1)&&(backToKw cpos (keywordEach [] X.env)).all (λx=>x.1.isSome)
 &&decide (([e]:List Expr).length+([]:List Keyword).length+(if ([]:List Keyword).isEmpty then 0 else 1)<30))=true
 line:(apos.endLine == cpos.line)=true
 trees:backTo cpos (starEach [e] X.env)=[(false,eval e X.env)]
structure M2(X:Cx)(o:Expr)(m:Str)(apos:Pos)(e f:Expr)(cpos:Pos):Prop where
 base:attributeBase o m X.env (eval o X.env)=eval o X.env
 few:((backTo cpos (starEach [e,f] X.env)).all (λx=>!x.1)&&(backToKw cpos (keywordEach [] X.env)).all (λx=>x.1.isSome)
 &&decide (([e,f]:List Expr).length+([]:List Keyword).length+(if ([]:List Keyword).isEmpty then 0 else 1)<30))=true
 line:(apos.endLine == cpos.line)=true
 trees:backTo cpos (starEach [e,f] X.env)=[(false,eval e X.env),(false,eval f X.env)]
section
variable {X:Cx}{pins:List (Addr×Obj)}{σ:St}{H:Hp}{s:Shared}{a:Addr}{y d:V}{u r:Value}{o:Option V}{A:Around}{E:Value->Shared->Prop}
end
section
variable {X:Cx}{o e f:Expr}{apos cpos:Pos}{td ty tx:TE}
end
section
variable {X:Cx}{pins:List (Addr×Obj)}{σ:St}{H:Hp}{s:Shared}{a:Addr}{kvs:List (Key×V)}{A:Around}{E:Value->Shared->Prop}
end
section
variable {X:Cx}{pins:List (Addr×Obj)}{σ:St}{H:Hp}{s:Shared}{a:Addr}{y:V}{u:Value}{A:Around}{E:Value->Shared->Prop}
end
section
variable {prog:Program}{w:World}{A:Around}{E:Value->Shared->Prop}{s:Shared}
end
section
variable {X:Cx}
def xJ:bI X (.builtin "sorted") (λxs H Q=>∃(p:Addr) (ns:List Int),xs=[.ref p]/\SqL X.K H p (ns.map V.int)/\ns.length<64 /\
  ∀(l:Addr) (out:List Int),H l=none->out.Perm ns->out.Pairwise (·<=·)->Q (.ref l) (upd H l (.lst (out.map V.int)))):=by
 intro pins s σ H xs us Q I r h
 obtain⟨p,ns,rfl,hp,h64,q⟩:=h
 obtain⟨u,rfl,rx⟩:=vals1 r
 cases rx
 obtain⟨its,rv,pl,hz⟩:=I.list hp
 have hI:IntsAre its ns:=intsAre_of rv
 have hl:=rv.length
 rw[Á] at hl
 refine sorted_ints (vs:=its) (ns:=ns) pl.isList hI (by omega) λout ns' a1 a2 a3=>?_
 obtain⟨e,he⟩:=sortedAll_at s.heap its out
 have hv:=oN a1
 have hlo:=hv.length
 rw[Á] at hlo
 have hpl:=a2.length_eq
 have h24:=ô
 refine⟨.ref (s.heap.objs.size+1),upd H (s.heap.objs.size+1) (.lst (ns'.map V.int)),I.laid (t':=s.toks) (λb o eb=>sortedAll_old eb) (Ĺ _) ⟨?_,out.toList,e,hv,by simpa using he⟩,rfl,q _ _ (I.hok.fresh (Ĺ _)) a2 a3⟩
 rw[Á]
 omega
end
section
variable {X:Cx}
def iD(l:List Int):PyData:=.list (l.map Â)
inductive DatL(K:Ú)(H:Hp):V->PyData->Prop
 |flt {a:Addr}{l:List Int}:SqL K H a (l.map V.int)->DatL K H (.ref a) (iD l)
 |lists {a:Addr}{as:List Addr}{ls:List (List Int)}:SqL K H a (as.map V.ref)->Paired (λ(a:Addr) (l:List Int)=>SqL K H a (l.map V.int)) as ls->DatL K H (.ref a) (.list (ls.map iD))
end
end L2
namespace PySem
open PyProof.Rows
def Wk(h:Heap)(e:Addr):Prop:=∃oe vs,h.get? e=some oe/\oe.data=.fields vs/\vs[2]?=some .none
section
variable {M:Model}{A:Around}{E:Value->Shared->Prop}{s:Shared}{base:Heap}{env:Env}{outer:List Env}{L e:Addr}{Q:Unit->Shared->Prop}
end
end PySem
namespace L2
open PySem PySem.Spec PyProof.Rows
def Wm(base:Heap)(l:List Env)(e:Addr)(cls a0:Value)(h:Heap):Prop:=base.StaysIn h/\base.get? e=none/\h.FunFrames base l/\h.TracedW base e cls a0/\Wk h e
def CX1(P:Program)(w:World):CXT:=λouter H s E e s'=>∃(a:Addr) (cls a0:Value) (H1:Hp) (hb:Heap),e=.ref a/\s'.os=s.os/\AllBare s'.gens/\Un (frs outer) [] H H1 s.heap s'.heap/\HOk P w H1 hb/\Wm hb outer a cls a0 s'.heap /\
 (∀b o,s.heap.get? b=some o->H b=none->b∉frs outer->hb.get? b=some o)/\(∀b o,s.heap.get? b=some o->b∉frs outer->∃o',hb.get? b=some o')/\E cls none H1
structure Lets(X:Cx)(E:XK):Prop where
 xe:∀e s',wpAny (model X.prog X.w) X.A (leaving X.env e) (λ_ s''=>CX1 X.prog X.w X.outer X.H₀ X.s₀ E e s'') (λe' s''=>CX1 X.prog X.w X.outer X.H₀ X.s₀ E e' s'') s'->X.xe e s'
 stk:X.stack=X.env::X.outer
 fr:X.env.frame=some X.env.locals
 ex:X.ex=[]
section
variable {X:Cx}{pins:List (Addr×Obj)}{σ:St}{H H1:Hp}{s:Shared}{E:XK}
end
structure ExcCls(K:Ú)(C:Addr)(newId:String)(bmB:List Value):Prop where
 ex:∃(nm q:Str) (N:Addr) (bs bm:List Value) (hdct:Bool) (sn:List Str) (sub:List Value) (ab:Bool) (col:Option Bool) (dd:Option Addr) (k0 k1 k2 k3 k5:Option Value),
  K.lookup C=some (excClassObj nm q C N bs bm hdct sn sub ab col dd k0 k1 k2 k3 k5 newId)/\W.tailIn K bmB bm=true/\W.nsOkIn K N=true/\W.nsIn K N "__init__"=some none/\bm.contains (.type "BaseException")=true
section
variable {X:Cx}{E:XK}{x:Str}{C:Addr}{newId Bn initId:String}{bmB:List Value}{e:Expr}{es:List Expr}{t:TA}{np cpos pos:Pos}
end
section
variable {X:Cx}{pins:List (Addr×Obj)}{σ:St}{H:Hp}{s:Shared}{ev:Value}
def Vp(a:Addr)(cls:Value):Heap->Prop:=λh=>∃oe vs,h.get? a=some oe/\oe.cls=cls/\oe.data=.fields vs
def Wh(a:Addr)(cls:Value):HO:=.ext (Vp a cls)
def Inv.track{a:Addr}{o:HO}(I:Inv X pins σ H s)(hn:H a=none)(h0:∀ob,X.s₀.heap.get? a≠some ob)(hL:a≠X.env.locals)(hC:∀x c,X.env.cells.lookup x=some c->c≠a)(hp:∀p∈X.pn++pins,p.1≠a)(new:bY X.prog X.w (upd H a o) s.heap a o):Inv X pins σ (upd H a o) s:=by
 refine⟨I.ok,I.os,I.bare,⟨I.base.keep,I.base.slot,λb ob e n hx=>?_,I.base.there,λb xs e=>?_,λb ob u e=>?_,λb ps e=>?_⟩,I.loc,I.cell,?_,λx c e=>?_,λp q=>?_,I.hok.track hn new,I.len⟩
 ·rw[aq (show b≠a from λz=>h0 ob (by rw[←z];exact e))]
  exact I.base.free b ob e n hx
 ·have q:=I.base.tups b xs e
  rw[aq (aB q hn)]
  exact q
 ·have q:=I.base.frzs b ob u e
  rw[aq (aB q hn)]
  exact q
 ·obtain⟨m,q⟩:=I.base.tbls b ps e
  exact⟨m,by rw[aq (aB q hn)];exact q⟩
 ·rw[aq (Ĥ hL)]
  exact I.free
 ·rw[aq (hC x c e)]
  exact I.freeC x c e
 ·obtain⟨q1,q2,q3⟩:=I.pin p q
  exact⟨q1,by rw[aq (hp p q)];exact q2,q3⟩
end
section
variable {X:Cx}{k:Nat}{f CF:Addr}{fd:FuncData}{ps:List Str}{sp:Sp}{E:XK}{x hx n:Str}{p np cpos epos hpos pos:Pos}{e:Expr}{es:List Expr}{t:TA}{b₀:Stmt}{suite:List Stmt}{ts:TS}{j:Nat}
end
end L2
namespace L2
open PySem PySem.W PySem.Spec PyProof.Rows
structure ExcK(K:Ú)(C:Addr):Prop where
 ex:∃(nm q:Str) (N AF:Addr) (bs bmB:List Value) (hdct:Bool) (sn:List Str) (sub:List Value) (ab:Bool) (col:Option Bool) (dd ddF:Option Addr) (k0 k1 k2 k3 k5:Option Value) (newId B:String) (c0:Value) (cd:ClassData) (slF:Array (Option Value)),
  K.lookup C=some (excClassObj nm q C N bs (.ref AF::bmB) hdct sn sub ab col dd k0 k1 k2 k3 k5 newId)/\K.lookup AF=some ⟨c0,ddF,.cls cd,slF⟩/\nsOkIn K cd.ns=true/\(∀n∈quietNames,nsIn K cd.ns n=some none)/\ExcAttrBase B bmB
 ga:findIn K (.ref C) "__getattribute__"=some (some (.builtin "BaseException.__getattribute__"))
 hook:findIn K (.ref C) "__getattr__"=some none
 cls:findIn K (.ref C) "__class__"=some (some (.builtin "object.__class__"))
 mro:mroIn K C (.type "object")=some true
section
variable {prog:Program}{w:World}{K:Ú}{a C:Addr}{A:Around}{E:Value->Shared->Prop}{s:Shared}
end
section
variable {X:Cx}
def Nz:R2:=λx y H Q=>∃a b xs ys,x=.ref a/\y=.ref b/\H a=some (.tup xs)/\H b=some (.tup ys)/\xs.length+ys.length<=sizeLine/\∀c H',(∀d u,H d=some u->H' d=some u)->H' c=some (.tup (xs++ys))->Q (.ref c) H'
def Lw:OpR X (binaryOp .Add) Nz:=by
 intro pins s σ H x y v u Q I rx ry h
 obtain⟨a,b,xs,ys,rfl,rfl,ha,hb,hz,q⟩:=h
 cases rx
 cases ry
 obtain⟨its,r1,p1,_⟩:=I.tuple (SqT.of ha)
 obtain⟨its2,r2,p2,_⟩:=I.tuple (SqT.of hb)
 by_cases hx:xs=[]
 ·subst hx
  cases r1
  obtain⟨m,F⟩:=I.fr
  refine add_tuples (vs:=[]) F Jo p1 p2 (λ_=>⟨.ref b,H,I,rfl,q b H (λ_ _ z=>z) (by simpa using hb)⟩) (λz=>absurd rfl z) (λz=>absurd rfl z) (by rw[←r2.length];simpa using hz)
 ·refine Ls pins s σ H (.ref a) (.ref b) (.ref a) (.ref b) Q I rfl rfl ⟨a,b,xs,ys,rfl,rfl,SqT.of ha,SqT.of hb,hx,hz,λe=>?_,λ_ p hp=>?_⟩
  ·subst e
   exact q a H (λ_ _ z=>z) (by rw[ð];exact ha)
  ·exact q p _ (λd u z=>by rw[aq (aB z hp)];exact z) au
end
section
variable {K:Ú}{C c:Addr}{dd:Option Addr}{cd:ClassData}{sl:Array (Option Value)}
end
end L2
namespace Dl
open PySem L2 PyProof.Rows
abbrev D:=PyData
def kD:Key->D
 |.inl i=>.int i
 |.inr x=>.str x
mutual
inductive Rp(ok:Addr->Prop)(H:Hp):V->D->Prop
 |non:Rp ok H .non .none
 |bl (b:Bool):Rp ok H (.bl b) (.bool b)
 |int (i:Int):Rp ok H (.int i) (.int i)
 |str (x:Str):Rp ok H (.str x) (.str x)
 |lst {a:Addr}{vs:List V}{ds:List D} (o:ok a) (h:H a=some (.lst vs)) (r:Rps ok H vs ds):Rp ok H (.ref a) (.list ds)
 |tup {a:Addr}{vs:List V}{ds:List D} (h:H a=some (.tup vs)) (r:Rps ok H vs ds):Rp ok H (.ref a) (.tuple ds)
 |dct {a:Addr}{kvs:List (Key×V)}{ds:List (D×D)} (o:ok a) (h:H a=some (.dK kvs)) (r:Rkv ok H kvs ds):Rp ok H (.ref a) (.dict ds)
inductive Rps(ok:Addr->Prop)(H:Hp):List V->List D->Prop
 |nil:Rps ok H [] []
 |cons {v:V}{d:D}{vs:List V}{ds:List D} (h:Rp ok H v d) (t:Rps ok H vs ds):Rps ok H (v::vs) (d::ds)
inductive Rkv(ok:Addr->Prop)(H:Hp):List (Key×V)->List (D×D)->Prop
 |nil:Rkv ok H [] []
 |cons {k:Key}{v:V}{d:D}{vs:List (Key×V)}{ds:List (D×D)} (h:Rp ok H v d) (t:Rkv ok H vs ds):Rkv ok H ((k,v)::vs) ((kD k,d)::ds)
end
section
variable {ok ok':Addr->Prop}{H H':Hp}
mutual
def Rp.mono(f:∀a,ok a->ok' a)(g:∀a o,ok a->H a=some o->H' a=some o)(t:∀a xs,H a=some (.tup xs)->H' a=some (.tup xs)):∀{v:V}{d:D},Rp ok H v d->Rp ok' H' v d
 |_,_,.non=>.non
 |_,_,.bl b=>.bl b
 |_,_,.int i=>.int i
 |_,_,.str x=>.str x
 |_,_,.lst o h r=>.lst (f _ o) (g _ _ o h) (Rps.mono f g t r)
 |_,_,.tup h r=>.tup (t _ _ h) (Rps.mono f g t r)
 |_,_,.dct o h r=>.dct (f _ o) (g _ _ o h) (Rkv.mono f g t r)
def Rps.mono(f:∀a,ok a->ok' a)(g:∀a o,ok a->H a=some o->H' a=some o)(t:∀a xs,H a=some (.tup xs)->H' a=some (.tup xs)):∀{v:List V}{d:List D},Rps ok H v d->Rps ok' H' v d
 |_,_,.nil=>.nil
 |_,_,.cons h r=>.cons (Rp.mono f g t h) (Rps.mono f g t r)
def Rkv.mono(f:∀a,ok a->ok' a)(g:∀a o,ok a->H a=some o->H' a=some o)(t:∀a xs,H a=some (.tup xs)->H' a=some (.tup xs)):∀{v:List (Key×V)}{d:List (D×D)},Rkv ok H v d->Rkv ok' H' v d
 |_,_,.nil=>.nil
 |_,_,.cons h r=>.cons (Rp.mono f g t h) (Rkv.mono f g t r)
end
def Rps.length:∀{vs:List V}{ds:List D},Rps ok H vs ds->vs.length=ds.length
 |_,_,.nil=>rfl
 |_,_,.cons _ t=>by rw[ã,ã,Rps.length t]
def Rps.getD:∀{vs:List V}{ds:List D}{i:Nat}{d:D},Rps ok H vs ds->ds[i]?=some d->∃v,vs[i]?=some v/\Rp ok H v d
 |_,_,i,v,.nil,e=>by simp at e
 |_,_,0,v,.cons h t,e=>by simp at e;subst e;exact⟨_,rfl,h⟩
 |_,_,i+1,v,.cons h t,e=>by
  obtain⟨d,a,b⟩:=Rps.getD (i:=i) (d:=v) t (by simpa using e)
  exact⟨d,by simpa using a,b⟩
def Rps.app:∀{vs ws:List V}{ds es:List D},Rps ok H vs ds->Rps ok H ws es->Rps ok H (vs++ws) (ds++es)
 |_,_,_,_,.nil,s=>s
 |_,_,_,_,.cons h t,s=>.cons h (Rps.app t s)
def Rps.snoc{vs:List V}{ds:List D}{v:V}{d:D}(h:Rps ok H vs ds)(r:Rp ok H v d):Rps ok H (vs++[v]) (ds++[d]):=h.app (.cons r .nil)
def Rps.set{v:V}{d:D}(r:Rp ok H v d):∀{vs:List V}{ds:List D} (i:Nat),Rps ok H vs ds->Rps ok H (vs.set i v) (ds.set i d)
 |_,_,_,.nil=>.nil
 |_,_,0,.cons _ t=>.cons r t
 |_,_,i+1,.cons q t=>.cons q (Rps.set r i t)
def Rps.take:∀{vs:List V}{ds:List D} (n:Nat),Rps ok H vs ds->Rps ok H (vs.take n) (ds.take n)
 |_,_,0,_=>by simp;exact .nil
 |_,_,_+1,.nil=>by simp;exact .nil
 |_,_,n+1,.cons r t=>.cons r (Rps.take n t)
def Rps.drop:∀{vs:List V}{ds:List D} (n:Nat),Rps ok H vs ds->Rps ok H (vs.drop n) (ds.drop n)
 |_,_,0,r=>r
 |_,_,_+1,.nil=>by simp;exact .nil
 |_,_,n+1,.cons _ t=>Rps.drop n t
def Rps.ofMap{α:Type}{f:α->V}{g:α->D}(h:∀x,Rp ok H (f x) (g x)):∀l:List α,Rps ok H (l.map f) (l.map g)
 |[]=>.nil
 |x::l=>.cons (h x) (Rps.ofMap h l)
def Rp.int'{v:V}{i:Int}(r:Rp ok H v (.int i)):v=.int i:=by cases r;rfl
def Rp.bl'{v:V}{i:Bool}(r:Rp ok H v (.bool i)):v=.bl i:=by cases r;rfl
def Rp.str'{v:V}{i:Str}(r:Rp ok H v (.str i)):v=.str i:=by cases r;rfl
def Rp.bR{v:V}{ds:List D}(r:Rp ok H v (.list ds)):∃a vs,v=.ref a/\ok a/\H a=some (.lst vs)/\Rps ok H vs ds:=by
 cases r with
 |lst o h r=>exact⟨_,_,rfl,o,h,r⟩
def Rp.eO{v:V}{ds:List D}(r:Rp ok H v (.tuple ds)):∃a vs,v=.ref a/\H a=some (.tup vs)/\Rps ok H vs ds:=by
 cases r with
 |tup h r=>exact⟨_,_,rfl,h,r⟩
def Rps.ints:∀{vs:List V}{ns:List Int},Rps ok H vs (ns.map Â)->vs=ns.map V.int
 |[],[],_=>rfl
 |_,n::ns,.cons h t=>by
  have e:=h.int'
  subst e
  rw[Rps.ints t]
  rfl
def Rps.two{vs:List V}{d e:D}(r:Rps ok H vs [d,e]):∃v w,vs=[v,w]/\Rp ok H v d/\Rp ok H w e:=by
 cases r with
 |cons h t =>
  cases t with
  |cons h2 t2 =>
   cases t2
   exact⟨_,_,rfl,h,h2⟩
end
mutual
def gb:D->Bool
 |.none=>true
 |.bool _=>true
 |.int _=>true
 |.str _=>true
 |.list _=>false
 |.tuple ds=>dH ds
 |.dict _=>false
def dH:List D->Bool
 |[]=>true
 |d::ds=>gb d&&dH ds
end
section
variable {ok:Addr->Prop}{H:Hp}
mutual
def Rp.imm:∀{v:V}{d:D},Rp ok H v d->gb d=true->Rp (λ_=>False) H v d
 |_,_,.non,_=>.non
 |_,_,.bl b,_=>.bl b
 |_,_,.int i,_=>.int i
 |_,_,.str x,_=>.str x
 |_,_,.tup h r,e=>.tup h (Rps.imm r e)
def Rps.imm:∀{v:List V}{d:List D},Rps ok H v d->dH d=true->Rps (λ_=>False) H v d
 |_,_,.nil,_=>.nil
 |_,_,.cons h r,e=>.cons (Rp.imm h (by simp only[dH,Û] at e;exact e.1)) (Rps.imm r (by simp only[dH,Û] at e;exact e.2))
end
end
def Fxd(o:HO):Prop:=∃x φ,o=.frz x (.ext φ)
structure Pn where
 fp:Addr->Prop
 PI:Hp->Prop
 pv:V
 mono:∀H H',PI H->(∀b o,(fp b\/Fxd o)->H b=some o->H' b=some o)->PI H'
 is:∀H b,PI H->fp b->∃o,H b=some o/\(∀xs,o≠.tup xs)/\¬Fxd o
class Gr where
 G:Pn->Hp->Prop
instance (priority:=low) grT:Gr:=⟨λ_ _=>True⟩
def dR:Pn:=⟨λ_=>False,λ_=>True,.non,λ_ _ _ _=>trivial,λ_ _ _ h=>h.elim⟩
def Kp(p:Pn)(H H':Hp):Prop:=∀b o,H b=some o->¬p.fp b->H' b=some o
def Kp.refl{p:Pn}{H:Hp}:Kp p H H:=λ_ _ h _=>h
def Kp.trans{p:Pn}{H H1 H2:Hp}(a:Kp p H H1)(b:Kp p H1 H2):Kp p H H2:=λc o h n=>b c o (a c o h n) n
def Kp.of{p:Pn}{H H':Hp}(s:Same H H'):Kp p H H':=λb o h _=>s b o h
inductive Sl where
 |any
 |im (d:D)
 |sh (d:D)
 |sn (d:D)
 |dw (r:Nat) (d:D)
 |pen (C:Pn->Prop)
 |rw (r:Nat) (L:List (List D))
 |tw (r:Nat) (L:List (List D))
 |scr (v:V) (b:Bool)
 |sp (r:Nat) (b:Bool) (ds:List D)
inductive Kd where
 |imm|new|reg (r:Nat)|n0|snw|shr|wk
 deriving DecidableEq
def Kd.le:Kd->Kd->Bool
 |.imm,_=>true
 |.new,.new=>true
 |.new,.n0=>true
 |.new,.snw=>true
 |.new,.shr=>true
 |.new,.wk=>true
 |.reg r,.reg q=>r == q
 |.reg _,.n0=>true
 |.reg _,.wk=>true
 |.snw,.snw=>true
 |.snw,.n0=>true
 |.snw,.shr=>true
 |.snw,.wk=>true
 |.n0,.n0=>true
 |.n0,.wk=>true
 |.shr,.shr=>true
 |.shr,.wk=>true
 |.wk,.wk=>true
 |_,_=>false
def Kd.join(a b:Kd):Kd:=if a.le b then b else if b.le a then a else if a.le .n0&&b.le .n0 then .n0 else if a.le .shr&&b.le .shr then .shr else .wk
def norm(k:Kd)(d:D):Kd:=match k with
 |.imm=>.imm
 |k=>if gb d then .imm else k
def dD{k:Kd}{d:D}(h:gb d=true):norm k d=.imm:=by
 cases k <;> first
  |rfl
  |exact if_pos h
def fQ{k:Kd}{d:D}(h:¬gb d=true):norm k d=k:=by
 cases k <;> first
  |rfl
  |exact if_neg h
def okK(p:Pn)(H0:Hp)(own:Addr->Option Nat)(Hb:Hp):Kd->Addr->Prop
 |.imm=>λ_=>False
 |.new=>λa=>Hb a=none
 |.reg r=>λa=>own a=some r
 |.n0=>λa=>H0 a=none/\¬p.fp a
 |.snw=>λa=>H0 a=none/\¬p.fp a/\own a=none
 |.shr=>λa=>¬p.fp a/\own a=none
 |.wk=>λa=>¬p.fp a
structure At(p:Pn)(H0:Hp)(own:Addr->Option Nat)(Hb H:Hp):Prop where
 k0:∀b o,H0 b=some o->¬p.fp b->Hb b=some o
 kp:Kp p Hb H
 penb:p.PI Hb
 pen:p.PI H
 ow:∀a r,own a=some r->H0 a=none/\¬p.fp a/\Hb a≠none
section
variable {p:Pn}{H0 Hb H H':Hp}{own:Addr->Option Nat}
def At.nfp(A:At p H0 own Hb H){a:Addr}(h:H a=none):¬p.fp a:=λz=>by
 obtain⟨o,e,_⟩:=p.is H a A.pen z
 rw[h] at e
 cases e
def At.free(A:At p H0 own Hb H){a:Addr}(h:H a=none):Hb a=none:=by
 have hn:=A.nfp h
 cases e:Hb a with
 |none=>rfl
 |some o=>rw[A.kp a o e hn] at h;cases h
def At.nfb(A:At p H0 own Hb H){a:Addr}(h:Hb a=none):¬p.fp a:=λz=>by
 obtain⟨o,e,_⟩:=p.is Hb a A.penb z
 rw[h] at e
 cases e
def At.Io(A:At p H0 own Hb H){a:Addr}(h:Hb a=none):own a=none:=by
 cases e:own a with
 |none=>rfl
 |some r=>exact absurd h (A.ow a r e).2.2
def At.h0(A:At p H0 own Hb H){a:Addr}(h:Hb a=none):H0 a=none:=by
 cases e:H0 a with
 |none=>rfl
 |some o=>rw[A.k0 a o e (A.nfb h)] at h;cases h
def cj(A:At p H0 own Hb H){j k:Kd}(h:j.le k=true){a:Addr}(o:okK p H0 own Hb j a):okK p H0 own Hb k a:=by
 cases j with
 |imm=>exact ĵ o
 |new =>
  cases k with
  |imm=>cases h
  |new=>exact o
  |reg r=>cases h
  |n0=>exact⟨A.h0 o,A.nfb o⟩
  |snw=>exact⟨A.h0 o,A.nfb o,A.Io o⟩
  |shr=>exact⟨A.nfb o,A.Io o⟩
  |wk=>exact A.nfb o
 |reg r =>
  cases k with
  |reg q =>
   have e:r=q:=by simpa[Kd.le] using h
   subst e
   exact o
  |n0=>exact⟨(A.ow a r o).1,(A.ow a r o).2.1⟩
  |wk=>exact(A.ow a r o).2.1
  |_=>cases h
 |n0 =>
  cases k with
  |n0=>exact o
  |wk=>exact o.2
  |_=>cases h
 |snw =>
  cases k with
  |snw=>exact o
  |n0=>exact⟨o.1,o.2.1⟩
  |shr=>exact o.2
  |wk=>exact o.2.1
  |_=>cases h
 |shr =>
  cases k with
  |shr=>exact o
  |wk=>exact o.1
  |_=>cases h
 |wk =>
  cases k with
  |wk=>exact o
  |_=>cases h
def j8(A:At p H0 own Hb H){k:Kd}{a:Addr}(o:okK p H0 own Hb k a):¬p.fp a:=by
 have:k.le .wk=true:=by cases k <;> rfl
 exact cj A this o
def mR(A:At p H0 own Hb H){j k:Kd}(h:j.le k=true){v:V}{d:D}{H2:Hp}(r:Rp (okK p H0 own Hb j) H2 v d):Rp (okK p H0 own Hb k) H2 v d :=
 r.mono (λa o=>cj A h o) (λ_ _ _ e=>e) λ_ _ e=>e
def eZ(a b:Kd):a.le (a.join b)=true/\b.le (a.join b)=true:=by
 unfold Kd.join
 by_cases h:a.le b=true
 ·rw[if_pos h];exact⟨h,by cases b <;> simp[Kd.le]⟩
 ·rw[if_neg h]
  by_cases h2:b.le a=true
  ·rw[if_pos h2];exact⟨by cases a <;> simp[Kd.le],h2⟩
  ·rw[if_neg h2]
   by_cases h3:(a.le .n0&&b.le .n0)=true
   ·rw[if_pos h3];exact Û _ _ ▸ h3
   ·rw[if_neg h3]
    by_cases h4:(a.le .shr&&b.le .shr)=true
    ·rw[if_pos h4];exact Û _ _ ▸ h4
    ·rw[if_neg h4];exact⟨by cases a <;> rfl,by cases b <;> rfl⟩
def aY{k:Kd}{v:V}{d:D}{H2:Hp}(r:Rp (okK p H0 own Hb k) H2 v d):Rp (okK p H0 own Hb (norm k d)) H2 v d:=by
 by_cases h:gb d=true
 ·rw[dD h];exact r.imm h
 ·rw[fQ h];exact r
def gG(A:At p H0 own Hb H)(k:Kp p H H'):∀a xs,H a=some (.tup xs)->H' a=some (.tup xs):=λa xs h=>k a _ h λz=>by
 obtain⟨o,e,n⟩:=p.is H a A.pen z
 rw[h] at e
 exact n.1 xs (á e).symm
def mU(A:At p H0 own Hb H)(k:Kp p H H'){j:Kd}{v:V}{d:D}(r:Rp (okK p H0 own Hb j) H v d):Rp (okK p H0 own Hb j) H' v d :=
 r.mono (λ_ o=>o) (λa o h e=>k a o e (j8 A h)) (gG A k)
def bZ(A:At p H0 own Hb H)(k:Kp p H H'){j:Kd}{v:List V}{d:List D}(r:Rps (okK p H0 own Hb j) H v d):Rps (okK p H0 own Hb j) H' v d :=
 r.mono (λ_ o=>o) (λa o h e=>k a o e (j8 A h)) (gG A k)
def At.go(A:At p H0 own Hb H)(k:Kp p H H')(i:p.PI H'):At p H0 own Hb H':=⟨A.k0,A.kp.trans k,A.penb,i,A.ow⟩
def At.base{H1:Hp}(A:At p H0 own Hb H)(B:At p H0 own H H1):At p H0 own Hb H1:=⟨A.k0,A.kp.trans B.kp,A.penb,B.pen,A.ow⟩
def Jf(A:At p H0 own Hb H){k:Kd}{a:Addr}(o:okK p H0 own H k a):okK p H0 own Hb k a:=by
 cases k <;> first
  |exact o
  |exact A.free o
def mW(A:At p H0 own Hb H){k:Kd}{v:V}{d:D}{H2:Hp}(r:Rp (okK p H0 own H k) H2 v d):Rp (okK p H0 own Hb k) H2 v d :=
 r.mono (λa o=>Jf A o) (λ_ _ _ e=>e) λ_ _ e=>e
def At.new(A:At p H0 own Hb H){a:Addr}(h:H a=none)(o:HO):Kp p H (upd H a o)/\p.PI (upd H a o)/\okK p H0 own Hb .new a :=
 have s:Same H (upd H a o):=λb u q=>by rw[aq (aB q h)];exact q
 ⟨Kp.of s,p.mono H _ A.pen λb u _ q=>s b u q,A.free h⟩
end
structure RowsH(own:Addr->Option Nat)(r:Nat)(H:Hp)(st:Addr)(as:List Addr)(L:List (List D)):Prop where
 top:H st=some (.lst (as.map V.ref))
 nd:(st::as).Nodup
 ow:∀a∈st::as,own a=some r
 len:as.length=L.length
 row:∀(j:Nat) (a:Addr) (ds:List D),as[j]?=some a->L[j]?=some ds->∃vs,H a=some (.lst vs)/\Rps (λ_=>False) H vs ds
def RowsH.mono{own own':Addr->Option Nat}{r:Nat}{H H':Hp}{st:Addr}{as:List Addr}{L:List (List D)}(h:RowsH own r H st as L)(g:∀a o,own a=some r->H a=some o->own' a=some r/\H' a=some o)(t:∀a xs,H a=some (.tup xs)->H' a=some (.tup xs)):RowsH own' r H' st as L:=by
 have live:∀a∈st::as,∃o,H a=some o:=λa ha=>by
  rcases Ñ.mp ha with rfl|ha
  ·exact⟨_,h.top⟩
  ·obtain⟨j,hj⟩:=Ş ha
   have hl:=(Ê.mp hj).1
   obtain⟨vs,e,_⟩:=h.row j a _ hj (Ç (by rw[←h.len];exact hl))
   exact⟨_,e⟩
 refine⟨(g st _ (h.ow st Æ) h.top).2,h.nd,λa ha=>?_,h.len,λj a ds e1 e2=>?_⟩
 ·obtain⟨o,e⟩:=live a ha
  exact(g a o (h.ow a ha) e).1
 ·obtain⟨vs,e,r'⟩:=h.row j a ds e1 e2
  exact⟨vs,(g a _ (h.ow a (Ã _ (Î e1))) e).2,r'.mono (λ_ o=>o) (λ_ _ o=>o.elim) t⟩
def oU{ok:Addr->Prop}{H:Hp}:∀(as:List Addr) (L:List (List D)),as.length=L.length->(∀a∈as,ok a)->(∀(j:Nat) (a:Addr) (ds:List D),as[j]?=some a->L[j]?=some ds->∃vs,H a=some (.lst vs)/\Rps (λ_=>False) H vs ds)->Rps ok H (as.map V.ref) (L.map Ŀ)
 |[],[],_,_,_=>.nil
 |a::as,d::L,hl,h,r=>by
  obtain⟨vs,e,rs⟩:=r 0 a d rfl rfl
  exact .cons (.lst (h a Æ) e (rs.mono (λ_ o=>o.elim) (λ_ _ o=>o.elim) λ_ _ e=>e)) (oU as L (by simpa using hl) (λb hb=>h b (Ã _ hb)) λj b ds e1 e2=>r (j+1) b ds e1 e2)
 |[],_::_,hl,_,_=>by cases hl
 |_::_,[],hl,_,_=>by cases hl
def RowsH.rp{own:Addr->Option Nat}{r:Nat}{H:Hp}{st:Addr}{as:List Addr}{L:List (List D)}(h:RowsH own r H st as L):Rp (λa=>own a=some r) H (.ref st) (.list (L.map Ŀ)) :=
 .lst (h.ow st Æ) h.top (oU as L h.len (λa ha=>h.ow a (Ã _ ha)) h.row)
structure RowsT(own:Addr->Option Nat)(r:Nat)(H:Hp)(st:Addr)(as:List Addr)(L:List (List D)):Prop where
 top:H st=some (.tup (as.map V.ref))
 nd:as.Nodup
 ow:∀a∈as,own a=some r
 len:as.length=L.length
 row:∀(j:Nat) (a:Addr) (ds:List D),as[j]?=some a->L[j]?=some ds->∃vs,H a=some (.lst vs)/\Rps (λ_=>False) H vs ds
def RowsT.mono{own own':Addr->Option Nat}{r:Nat}{H H':Hp}{st:Addr}{as:List Addr}{L:List (List D)}(h:RowsT own r H st as L)(g:∀a o,own a=some r->H a=some o->own' a=some r/\H' a=some o)(t:∀a xs,H a=some (.tup xs)->H' a=some (.tup xs)):RowsT own' r H' st as L:=by
 refine⟨t st _ h.top,h.nd,λa ha=>?_,h.len,λj a ds e1 e2=>?_⟩
 ·obtain⟨j,hj⟩:=Ş ha
  have hl:=(Ê.mp hj).1
  obtain⟨vs,e,_⟩:=h.row j a _ hj (Ç (by rw[←h.len];exact hl))
  exact(g a _ (h.ow a ha) e).1
 ·obtain⟨vs,e,r'⟩:=h.row j a ds e1 e2
  exact⟨vs,(g a _ (h.ow a (Î e1)) e).2,r'.mono (λ_ o=>o) (λ_ _ o=>o.elim) t⟩
def RowsT.rp{own:Addr->Option Nat}{r:Nat}{H:Hp}{st:Addr}{as:List Addr}{L:List (List D)}(h:RowsT own r H st as L):Rp (λa=>own a=some r) H (.ref st) (.tuple (L.map Ŀ)) :=
 .tup h.top (oU as L h.len h.ow h.row)
def okS(p:Pn)(H0:Hp)(own:Addr->Option Nat)(b:Bool)(a:Addr):Prop:=(b=true->H0 a=none)/\¬p.fp a/\own a=none
def jV(p:Pn)(H0:Hp)(own:Addr->Option Nat)(σ:L2.St)(H:Hp)(i:Nat):Sl->Prop
 |.any=>True
 |.im d=>∃v,σ[i]?=some (some v)/\Rp (λ_=>False) H v d
 |.sh d=>∃v,σ[i]?=some (some v)/\Rp (λa=>¬p.fp a/\own a=none) H v d
 |.sn d=>∃v,σ[i]?=some (some v)/\Rp (λa=>H0 a=none/\¬p.fp a/\own a=none) H v d
 |.dw r d=>∃v,σ[i]?=some (some v)/\Rp (λa=>own a=some r) H v d
 |.pen C=>σ[i]?=some (some p.pv)/\C p
 |.rw r L=>∃st as,σ[i]?=some (some (.ref st))/\RowsH own r H st as L
 |.tw r L=>∃st as,σ[i]?=some (some (.ref st))/\RowsT own r H st as L
 |.scr v b=>σ[i]?=some (some v)/\(b=true->p=dR)
 |.sp r b ds=>∃l vs,σ[i]?=some (some (.ref l))/\own l=some r/\H l=some (.lst vs)/\Rps (okS p H0 own b) H vs ds
structure EnvD[Gr](p:Pn)(H0:Hp)(own:Addr->Option Nat)(σ:L2.St)(H:Hp)(ρ:List Sl):Prop where
 k0:∀b o,H0 b=some o->¬p.fp b->H b=some o
 pen:p.PI H
 ow:∀a r,own a=some r->H0 a=none/\¬p.fp a/\H a≠none
 slot:∀i s,ρ[i]?=some s->jV p H0 own σ H i s
 len:ρ.length=σ.length
 gr:Gr.G p H0
variable [Gr]
section
variable {p:Pn}{H0 H H':Hp}{own:Addr->Option Nat}{σ:L2.St}{ρ:List Sl}
def EnvD.at(E:EnvD p H0 own σ H ρ):At p H0 own H H:=⟨E.k0,Kp.refl,E.pen,E.pen,E.ow⟩
def EnvD.go(E:EnvD p H0 own σ H ρ)(k:Kp p H H')(i:p.PI H'):EnvD p H0 own σ H' ρ:=by
 have A:=E.at
 have tp:=gG A k
 refine⟨λb o e n=>k b o (E.k0 b o e n) n,i,λa r e=>?_,λj s e=>?_,E.len,E.gr⟩
 ·obtain⟨h1,h2,h3⟩:=E.ow a r e
  refine⟨h1,h2,λz=>?_⟩
  cases q:H a with
  |none=>exact h3 q
  |some o=>rw[k a o q h2] at z;cases z
 ·have q:=E.slot j s e
  cases s with
  |any=>trivial
  |im d=>exact let ⟨v,a,b⟩:=q;⟨v,a,b.mono (λ_ o=>o) (λ_ _ o=>o.elim) tp⟩
  |sh d=>exact let ⟨v,a,b⟩:=q;⟨v,a,b.mono (λ_ o=>o) (λc u o e=>k c u e o.1) tp⟩
  |sn d=>exact let ⟨v,a,b⟩:=q;⟨v,a,b.mono (λ_ o=>o) (λc u o e=>k c u e o.2.1) tp⟩
  |dw r d=>exact let ⟨v,a,b⟩:=q;⟨v,a,b.mono (λ_ o=>o) (λc u o e=>k c u e (E.ow c r o).2.1) tp⟩
  |pen C=>exact q
  |rw r L=>exact let ⟨st,as,a,b⟩:=q;⟨st,as,a,b.mono (λc u o e=>⟨o,k c u e (E.ow c r o).2.1⟩) tp⟩
  |tw r L=>exact let ⟨st,as,a,b⟩:=q;⟨st,as,a,b.mono (λc u o e=>⟨o,k c u e (E.ow c r o).2.1⟩) tp⟩
  |scr v b=>exact q
  |sp r b ds=>exact let ⟨l,vs,a,o,h,z⟩:=q;⟨l,vs,a,o,k l _ h (E.ow l r o).2.1,z.mono (λ_ o=>o) (λc u o e=>k c u e o.2.1) tp⟩
end
abbrev DK:=Kd->D->Prop
abbrev DE:=List Sl->DK->Prop
def bx(t:DE):TE:=λσ H Q=>∃p H0 own ρ P,EnvD p H0 own σ H ρ/\t ρ P/\∀k d v H',P k d->At p H0 own H H'->Rp (okK p H0 own H k) H' v d->Q v H'
abbrev PD(X:Cx)(e:Expr)(t:DE):Prop:=PE X e (bx t)
abbrev DA:=List Sl->(List (Kd×D)->Prop)->Prop
inductive RpK(p:Pn)(H0:Hp)(own:Addr->Option Nat)(Hb H:Hp):List V->List (Kd×D)->Prop
 |nil:RpK p H0 own Hb H [] []
 |cons {v:V}{kd:Kd×D}{vs:List V}{ks:List (Kd×D)} (h:Rp (okK p H0 own Hb kd.1) H v kd.2) (t:RpK p H0 own Hb H vs ks):RpK p H0 own Hb H (v::vs) (kd::ks)
def jj(t:DA):TA:=λσ H Q=>∃p H0 own ρ P,EnvD p H0 own σ H ρ/\t ρ P/\∀ks vs H',P ks->At p H0 own H H'->RpK p H0 own H H' vs ks->Q vs H'
abbrev PDA(X:Cx)(es:List Expr)(t:DA):Prop:=PA X es (jj t)
abbrev DT:=List Sl->(Bool->Prop)->Prop
def liftT(t:DT):TT:=λσ H Q=>∃p H0 own ρ P,EnvD p H0 own σ H ρ/\t ρ P/\∀b H',P b->At p H0 own H H'->Q b H'
abbrev PDT(X:Cx)(e:Expr)(t:DT):Prop:=PT X e (liftT t)
def PE.wk{X:Cx}{e:Expr}{t t':TE}(h:PE X e t)(w:∀σ H Q,t' σ H Q->t σ H Q):PE X e t':=λpins s σ H Q I q=>h pins s σ H Q I (w σ H Q q)
def PT.wk{X:Cx}{e:Expr}{t t':TT}(h:PT X e t)(w:∀σ H Q,t' σ H Q->t σ H Q):PT X e t':=λpins s σ H Q I q=>h pins s σ H Q I (w σ H Q q)
def PA.wk{X:Cx}{e:List Expr}{t t':TA}(h:PA X e t)(w:∀σ H Q,t' σ H Q->t σ H Q):PA X e t':=λpos pins s σ H Q I q=>h pos pins s σ H Q I (w σ H Q q)
section
variable {X:Cx}{pos:Pos}{a b:Expr}{ta tb:DE}
def RpK.go{p:Pn}{H0 Hb H H':Hp}{own:Addr->Option Nat}(A:At p H0 own Hb H)(k:Kp p H H'):∀{vs:List V}{ks:List (Kd×D)},RpK p H0 own Hb H vs ks->RpK p H0 own Hb H' vs ks
 |_,_,.nil=>.nil
 |_,_,.cons h t=>.cons (mU A k h) (RpK.go A k t)
def RpK.base{p:Pn}{H0 Hb H H':Hp}{own:Addr->Option Nat}(A:At p H0 own Hb H):∀{vs:List V}{ks:List (Kd×D)},RpK p H0 own H H' vs ks->RpK p H0 own Hb H' vs ks
 |_,_,.nil=>.nil
 |_,_,.cons h t=>.cons (mW A h) (RpK.base A t)
def tV(i:Nat):DE:=λρ P=>match ρ[i]? with
 |some (.im d)=>P .imm d
 |some (.sh d)=>P .shr d
 |some (.sn d)=>P .snw d
 |some (.dw r d)=>P (.reg r) d
 |some (.rw r L)=>P (.reg r) (.list (L.map Ŀ))
 |some (.tw r L)=>P (.reg r) (.tuple (L.map Ŀ))
 |some (.sp r b ds)=>P (if b=true then .n0 else .wk) (.list ds)
 |_=>False
def Qq{i:Nat}{x:Str}{ps:Pos}(h:PE X (.Name x ps) (iH i)):PD X (.Name x ps) (tV i):=PE.wk h (by
 rintro σ H Q ⟨p,H0,own,ρ,P,E,t,q⟩
 unfold tV at t
 split at t
 ·rename_i d e;obtain⟨v,e1,r⟩:=E.slot i _ e;exact⟨v,e1,q _ _ _ _ t E.at r⟩
 ·rename_i d e;obtain⟨v,e1,r⟩:=E.slot i _ e;exact⟨v,e1,q _ _ _ _ t E.at r⟩
 ·rename_i d e;obtain⟨v,e1,r⟩:=E.slot i _ e;exact⟨v,e1,q _ _ _ _ t E.at r⟩
 ·rename_i d e;obtain⟨v,e1,r⟩:=E.slot i _ e;exact⟨v,e1,q _ _ _ _ t E.at r⟩
 ·rename_i r L e;obtain⟨st,as,e1,h⟩:=E.slot i _ e;exact⟨_,e1,q _ _ _ _ t E.at h.rp⟩
 ·rename_i r L e;obtain⟨st,as,e1,h⟩:=E.slot i _ e;exact⟨_,e1,q _ _ _ _ t E.at h.rp⟩
 ·rename_i r b ds e
  obtain⟨l,vs,e1,o,h,z⟩:=E.slot i _ e
  refine⟨_,e1,q _ _ _ _ t E.at ?_⟩
  cases b with
  |true=>exact .lst ⟨(E.ow l r o).1,(E.ow l r o).2.1⟩ h (z.mono (λc n=>⟨n.1 rfl,n.2.1⟩) (λ_ _ _ e=>e) λ_ _ e=>e)
  |false=>exact .lst (E.ow l r o).2.1 h (z.mono (λc n=>n.2.1) (λ_ _ _ e=>e) λ_ _ e=>e)
 ·exact t.elim)
def tK(d:D):DE:=λ_ P=>P .imm d
def rD{e:Expr}{v:V}{d:D}(h:PE X e (tC v))(r:∀H,Rp (λ_=>False) H v d):PD X e (tK d):=PE.wk h (by
 rintro σ H Q ⟨p,H0,own,ρ,P,E,t,q⟩
 exact q _ _ _ _ t E.at (r H))
def aG{i:Int}{j:Nat}:PD X (.Constant (.int i) j pos) (tK (.int i)):=rD HJ λ_=>.int i
def jh{i:Bool}{j:Nat}:PD X (.Constant (.bool i) j pos) (tK (.bool i)):=rD CV λ_=>.bl i
def dW{x:Str}{j:Nat}:PD X (.Constant (.str x) j pos) (tK (.str x)):=rD Qm λ_=>.str x
abbrev G2:=Kd->D->Kd->D->DK->Prop
def t2(g:G2)(ta tb:DE):DE:=λρ P=>ta ρ λk1 d1=>tb ρ λk2 d2=>g k1 d1 k2 d2 P
def Ok2(g:G2)(r:R2):Prop:=∀p H0 own Hb H x y k1 d1 k2 d2 P Q,At p H0 own Hb H->Rp (okK p H0 own Hb k1) H x d1->Rp (okK p H0 own Hb k2) H y d2->g k1 d1 k2 d2 P ->
 (∀k d v H',P k d->Kp p H H'->p.PI H'->Rp (okK p H0 own Hb k) H' v d->Q v H')->r x y H Q
def uM{g:G2}{r:R2}(ok:Ok2 g r):∀σ H Q,bx (t2 g ta tb) σ H Q->tOp r (bx ta) (bx tb) σ H Q:=by
 rintro σ H Q ⟨p,H0,own,ρ,P,E,t,q⟩
 refine⟨p,H0,own,ρ,_,E,t,λk1 d1 v1 H1 t1 A1 r1=>?_⟩
 have E1:=E.go A1.kp A1.pen
 refine⟨p,H0,own,ρ,_,E1,t1,λk2 d2 v2 H2 t2 A2 r2=>?_⟩
 have A:At p H0 own H H2:=A1.base A2
 exact ok p H0 own H H2 v1 v2 k1 d1 k2 d2 P Q A (mU A1 A2.kp r1) (mW A1 r2) t2 λk d v H' h k3 i3 r3=>q k d v H' h (A.go k3 i3) r3
def lB{op:Operator}{r:R2}{g:G2}(ho:OpR X (binaryOp op) r)(ok:Ok2 g r)(ha:PD X a ta)(hb:PD X b tb):PD X (.BinOp a op b pos) (t2 g ta tb):=PE.wk (bV ho ha hb) (uM ok)
def iQ{op:CmpOp}{r:R2}{g:G2}(ho:OpR X (compareOp op) r)(ok:Ok2 g r)(ha:PD X a ta)(hb:PD X b tb)(hm:behindInMarks op b=false):PD X (.Compare a [op] [b] pos) (t2 g ta tb):=PE.wk (Lk ho ha hb hm) (uM ok)
def fX(t:DE):DT:=λρ P=>t ρ λ_ d=>match d with
 |.bool b=>P b
 |_=>False
def rW{t:DE}:∀σ H Q,liftT (fX t) σ H Q->(bx t) σ H (λx H'=>∃k,x=.bl k/\Q k H'):=by
 rintro σ H Q ⟨p,H0,own,ρ,P,E,t,q⟩
 refine⟨p,H0,own,ρ,_,E,t,λk d v H' h A r=>?_⟩
 cases d with
 |bool b=>exact⟨b,r.bl',q b H' h A⟩
 |_=>exact h.elim
def eY{op:CmpOp}{r:R2}{g:G2}(ho:OpR X (compareOp op) r)(ok:Ok2 g r)(ha:PD X a ta)(hb:PD X b tb)(hm:behindInMarks op b=false):PDT X (.Compare a [op] [b] pos) (fX (t2 g ta tb)) :=
 PT.wk (j5 ho ha hb hm) λσ H Q h=>uM ok σ H _ (rW σ H Q h)
def bC{e:Expr}{t:DE}(h:PD X e t)(he:∀whole,isTrue e X.env whole=(do let v ←whole;standAt e.pos;holding [v] (truthy v)):=by intro _;rfl):PDT X e (fX t) :=
 PT.wk (zY h he) λσ H Q q=>rW σ H Q q
def Va(t:DT):DT:=λρ P=>t ρ λb=>P (!b)
def bJ{t:DT}(ha:PDT X a t):PDT X (.UnaryOp .Not a pos) (Va t):=PT.wk (zZ ha) (by
 rintro σ H Q ⟨p,H0,own,ρ,P,E,t,q⟩
 exact⟨p,H0,own,ρ,_,E,t,λb H' h A=>q _ H' h A⟩)
abbrev PDW(X:Cx)(e:Expr)(t:DT):Prop:=PW X e (liftT t)
def PW.wk{X:Cx}{e:Expr}{t t':TT}(h:PW X e t)(w:∀σ H Q,t' σ H Q->t σ H Q):PW X e t':=λwh pins s σ H Q I q=>h wh pins s σ H Q I (w σ H Q q)
def RV(t u:DT):DT:=λρ P=>t ρ λb=>if b=true then u ρ P else P false
def dOr(t u:DT):DT:=λρ P=>t ρ λb=>if b=true then P true else u ρ P
section
variable {rest:List Expr}{t u:DT}
def eF(ha:PDT X a t):PDW X (.BoolOp .And [a] pos) t:=Ld ha
def eX(ha:PDT X a t):PDW X (.BoolOp .Or [a] pos) t:=Qh ha
def Jz:∀σ H Q,liftT (RV t u) σ H Q->SN (liftT t) (liftT u) σ H Q:=by
 rintro σ H Q ⟨p,H0,own,ρ,P,E,t,q⟩
 refine⟨p,H0,own,ρ,_,E,t,λb H' h A=>?_⟩
 cases b with
 |true=>exact aM ⟨p,H0,own,ρ,P,E.go A.kp A.pen,by simpa using h,λc H2 h2 A2=>q c H2 h2 (A.base A2)⟩
 |false=>exact aX (q false H' (by simpa using h) A)
def Mw:∀σ H Q,liftT (dOr t u) σ H Q->tOr (liftT t) (liftT u) σ H Q:=by
 rintro σ H Q ⟨p,H0,own,ρ,P,E,t,q⟩
 refine⟨p,H0,own,ρ,_,E,t,λb H' h A=>?_⟩
 cases b with
 |true=>exact aM (q true H' (by simpa using h) A)
 |false=>exact aX ⟨p,H0,own,ρ,P,E.go A.kp A.pen,by simpa using h,λc H2 h2 A2=>q c H2 h2 (A.base A2)⟩
def gn(ha:PDT X a t)(hb:PDW X (.BoolOp .And (b::rest) pos) u):PDW X (.BoolOp .And (a::b::rest) pos) (RV t u):=PW.wk (Qi ha hb) Jz
def gC(ha:PDT X a t)(hb:PDW X (.BoolOp .Or (b::rest) pos) u):PDW X (.BoolOp .Or (a::b::rest) pos) (dOr t u):=PW.wk (Tz ha hb) Mw
def PDW.pt{e:Expr}{t:DT}(h:PDW X e t):PDT X e t:=PW.pt h
end
end
variable [Gr]
section
variable {X:Cx}{pos:Pos}{a b e:Expr}{es:List Expr}{ta tb te:DE}{t:DA}
def je:DA:=λ_ P=>P []
def bQ(te:DE)(t:DA):DA:=λρ P=>te ρ λk d=>t ρ λks=>P ((k,d)::ks)
def ak:PDA X [] je:=PA.wk pA (by
 rintro σ H Q ⟨p,H0,own,ρ,P,E,t,q⟩
 exact q [] [] H t E.at .nil)
def aj(ha:PD X e te)(hr:PDA X es t)(hs:zS X e es:=by rfl):PDA X (e::es) (bQ te t):=PA.wk (dB ha hr hs) (by
 rintro σ H Q ⟨p,H0,own,ρ,P,E,t,q⟩
 refine⟨p,H0,own,ρ,_,E,t,λk d v H1 h A r=>?_⟩
 refine⟨p,H0,own,ρ,_,E.go A.kp A.pen,h,λks vs H2 h2 A2 r2=>?_⟩
 exact q _ _ H2 h2 (A.base A2) (.cons (mU A A2.kp r) (RpK.base A r2)))
def joins:List (Kd×D)->Kd
 |[]=>.imm
 |kd::ks=>kd.1.join (joins ks)
def RpK.all{p:Pn}{H0 Hb H H2:Hp}{own:Addr->Option Nat}(A:At p H0 own Hb H):∀{vs:List V}{ks:List (Kd×D)}{k:Kd},(joins ks).le k=true->RpK p H0 own Hb H2 vs ks->Rps (okK p H0 own Hb (joins ks)) H2 vs (ks.map (·.2))
 |_,_,_,_,.nil=>.nil
 |_,kd::ks,k,e,.cons h t=>by
  have j:=eZ kd.1 (joins ks)
  exact .cons (mR A j.1 h) ((RpK.all A (k:=joins ks) (by cases joins ks <;> simp[Kd.le]) t).mono (λa o=>cj A j.2 o) (λ_ _ _ e=>e) λ_ _ e=>e)
def Kd.le_refl(k:Kd):k.le k=true:=by cases k <;> simp[Kd.le]
def RpK.length{p:Pn}{H0 Hb H2:Hp}{own:Addr->Option Nat}:∀{vs:List V}{ks:List (Kd×D)},RpK p H0 own Hb H2 vs ks->vs.length=ks.length
 |_,_,.nil=>rfl
 |_,_,.cons _ t=>by rw[ã,ã,RpK.length t]
def Nt(t:DA):DE:=λρ P=>t ρ λks=>ks.length<=1000/\P ((joins ks).join .new) (.list (ks.map (·.2)))
def vh(t:DA):DE:=λρ P=>t ρ λks=>ks.length<=1000/\P (norm (joins ks) (.tuple (ks.map (·.2)))) (.tuple (ks.map (·.2)))
def dZ(h:PDA X es t):PD X (.List es pos) (Nt t):=PE.wk (jA h) (by
 rintro σ H Q ⟨p,H0,own,ρ,P,E,t,q⟩
 refine⟨p,H0,own,ρ,_,E,t,λks vs H1 h A r=>?_⟩
 have h24:=ô
 have hl:=r.length
 refine⟨by have:=h.1;omega,λl hl=>?_⟩
 obtain⟨k2,i2,nw⟩:=A.new hl (.lst vs)
 have j:=eZ (joins ks) .new
 refine q _ _ _ _ h.2 (A.go k2 i2) (.lst (cj A j.2 nw) au ?_)
 exact(bZ A k2 (RpK.all A (Kd.le_refl _) r)).mono (λa o=>cj A j.1 o) (λ_ _ _ e=>e) λ_ _ e=>e)
def cM{x1}(h:PDA X es t):PD X (.Tuple es x1 pos) (vh t):=PE.wk (HB h) (by
 rintro σ H Q ⟨p,H0,own,ρ,P,E,t,q⟩
 refine⟨p,H0,own,ρ,_,E,t,λks vs H1 h A r=>?_⟩
 have h24:=ô
 have hl:=r.length
 refine⟨by have:=h.1;omega,λl hl=>?_⟩
 obtain⟨k2,i2,nw⟩:=A.new hl (.tup vs)
 exact q _ _ _ _ h.2 (A.go k2 i2) (aY (.tup au (bZ A k2 (RpK.all A (Kd.le_refl _) r)))))
abbrev GC:=List (Kd×D)->DK->Prop
def tCl(g:GC)(t:DA):DE:=λρ P=>t ρ λks=>g ks P
def OkC(g:GC)(r:List V->Hp->VK->Prop):Prop:=∀p H0 own Hb H vs ks P Q,At p H0 own Hb H->RpK p H0 own Hb H vs ks->g ks P ->
 (∀k d v H',P k d->Kp p H H'->p.PI H'->Rp (okK p H0 own Hb k) H' v d->Q v H')->r vs H Q
def Om{g:GC}{r:List V->Hp->VK->Prop}(ok:OkC g r):∀σ H Q,bx (tCl g t) σ H Q->tCB r (jj t) σ H Q:=by
 rintro σ H Q ⟨p,H0,own,ρ,P,E,t,q⟩
 refine⟨p,H0,own,ρ,_,E,t,λks vs H1 h A r=>?_⟩
 exact ok p H0 own H H1 vs ks P Q A r h λk d v H' h2 k2 i2 r2=>q k d v H' h2 (A.go k2 i2) r2
def cN{r:List V->Hp->VK->Prop}{id:String}{x:Str}{ps:Pos}{g:GC}(hc:bI X (.builtin id) r)(ok:OkC g r)(hg:Gl X x)(hm:X.mg x=none)(hv:bootBuiltins x=some (.builtin id))(ha:PDA X (e::es) t)(hn:x≠"__name__":=by decide)(hdb:zB x:=by decide)(he:zS X e es:=by rfl)(hpl:zP X pos es:=by rfl):PD X (.Call (.Name x ps) (e::es) [] pos) (tCl g t):=PE.wk (eE hc hg hm hv ha hn hdb he hpl) (Om ok)
def rE{r:List V->Hp->VK->Prop}{id:String}{x:Str}{ps:Pos}{g:GC}(hc:bI X (.type id) r)(ok:OkC g r)(hg:Gl X x)(hm:X.mg x=none)(hv:bootBuiltins x=some (.type id))(ha:PDA X (e::es) t)(hn:x≠"__name__":=by decide)(hdb:zB x:=by decide)(he:zS X e es:=by rfl)(hpl:zP X pos es:=by rfl):PD X (.Call (.Name x ps) (e::es) [] pos) (tCl g t):=PE.wk (uD hc hg hm hv ha hn hdb he hpl) (Om ok)
def spD(t:List D->(D->Prop)->Prop):Sp:=λvs H Q _=>∃ds P,Rps (λ_=>True) H vs ds/\t ds P/\∀d v H',P d->Same H H'->Rp (λa=>H a=none) H' v d->Q v H'
def spP(C:Pn->Prop)(t:List D->(D->Prop)->Prop):Sp:=λvs H Q _=>∃p vs' ds P,C p/\vs=p.pv::vs'/\p.PI H/\Rps (λa=>¬p.fp a) H vs' ds/\t ds P/\∀d v H',P d->Kp p H H'->p.PI H'->Rp (λa=>H a=none) H' v d->Q v H'
def tFn(f:List D->(D->Prop)->Prop)(t:DA):DE:=λρ P=>t ρ λks=>f (ks.map (·.2)) λd=>P (norm .new d) d
def RpK.rps{p:Pn}{H0 Hb H H2:Hp}{own:Addr->Option Nat}(A:At p H0 own Hb H):∀{vs:List V}{ks:List (Kd×D)},RpK p H0 own Hb H2 vs ks->Rps (λa=>¬p.fp a) H2 vs (ks.map (·.2))
 |_,_,.nil=>.nil
 |_,_,.cons h t=>.cons (h.mono (λa o=>j8 A o) (λ_ _ _ e=>e) λ_ _ e=>e) (RpK.rps A t)
def Mz{f:List D->(D->Prop)->Prop}:∀σ H Q,bx (tFn f t) σ H Q->ug (spD f) [] E0 (jj t) σ H Q:=by
 rintro σ H Q ⟨p,H0,own,ρ,P,E,t,q⟩
 refine⟨p,H0,own,ρ,_,E,t,λks vs H1 h A r=>?_⟩
 show spD f (vs++[]) H1 Q E0
 rw[ð]
 refine⟨ks.map (·.2),_,(RpK.rps A r).mono (λ_ _=>trivial) (λ_ _ _ e=>e) λ_ _ e=>e,h,λd v H' h2 s r2=>?_⟩
 have k2:Kp p H1 H':=Kp.of s
 refine q _ d v H' h2 (A.go k2 (p.mono H1 H' A.pen λb o _ e=>s b o e)) (aY ?_)
 exact r2.mono (λa o=>A.free o) (λ_ _ _ e=>e) λ_ _ e=>e
def PX(C:Pn->Prop)(f:List D->(D->Prop)->Prop)(i:Nat)(t:DA):DE:=λρ P=>ρ[i]?=some (.pen C)/\tFn f t ρ P
def Jy{C:Pn->Prop}{f:List D->(D->Prop)->Prop}{i:Nat}:∀σ H Q,bx (PX C f i t) σ H Q->ug (spP C f) [] E0 (qJ (iH i) (jj t)) σ H Q:=by
 rintro σ H Q ⟨p,H0,own,ρ,P,E,⟨hp,t⟩,q⟩
 obtain⟨hs,c⟩:=E.slot i _ hp
 refine⟨p.pv,hs,p,H0,own,ρ,_,E,t,λks vs H1 h A r=>?_⟩
 show spP C f ((p.pv::vs)++[]) H1 Q E0
 rw[ð]
 refine⟨p,vs,ks.map (·.2),_,c,rfl,A.pen,RpK.rps A r,h,λd v H' h2 k2 i2 r2=>?_⟩
 exact q _ d v H' h2 (A.go k2 i2) (aY (r2.mono (λa o=>A.free o) (λ_ _ _ e=>e) λ_ _ e=>e))
def gI(C:Int->Int->Prop)(f:Int->Int->D):G2:=λ_ d1 _ d2 P=>match d1,d2 with
 |.int i,.int j=>C i j/\P .imm (f i j)
 |_,_=>False
def gI0(f:Int->Int->D):G2:=λ_ d1 _ d2 P=>match d1,d2 with
 |.int i,.int j=>P .imm (f i j)
 |_,_=>False
def okI{C:Int->Int->Prop}{f:Int->Int->D}{g:Int->Int->V}(h:∀i j H,Rp (λ_=>False) H (g i j) (f i j)):Ok2 (gI C f) (rI C g):=by
 intro p H0 own Hb H x y k1 d1 k2 d2 P Q A r1 r2 t q
 unfold gI at t
 split at t
 ·rename_i i j
  exact⟨i,j,r1.int',r2.int',t.1,q _ _ _ _ t.2 Kp.refl A.pen (h i j H)⟩
 ·exact t.elim
def wG{f:Int->Int->D}{g:Int->Int->V}(h:∀i j H,Rp (λ_=>False) H (g i j) (f i j)):Ok2 (gI0 f) (rI0 g):=by
 intro p H0 own Hb H x y k1 d1 k2 d2 P Q A r1 r2 t q
 unfold gI0 at t
 split at t
 ·rename_i i j
  exact⟨i,j,r1.int',r2.int',q _ _ _ _ t Kp.refl A.pen (h i j H)⟩
 ·exact t.elim
def jC(ha:PD X a ta)(hb:PD X b tb):PD X (.BinOp a .Add b pos) (t2 (gI0 λi j=>.int (i+j)) ta tb):=lB iT (wG λi j _=>.int _) ha hb
def o8(ha:PD X a ta)(hb:PD X b tb):PD X (.BinOp a .Sub b pos) (t2 (gI0 λi j=>.int (i - j)) ta tb):=lB Qy (wG λi j _=>.int _) ha hb
def Ie(ha:PD X a ta)(hb:PD X b tb):PD X (.BinOp a .Mult b pos) (t2 (gI KN λi j=>.int (i * j)) ta tb):=lB lU (okI λi j _=>.int _) ha hb
def Lp(ha:PD X a ta)(hb:PD X b tb):PD X (.BinOp a .FloorDiv b pos) (t2 (gI Vq λi j=>.int (i / j)) ta tb):=lB wg (okI λi j _=>.int _) ha hb
def Qu(ha:PD X a ta)(hb:PD X b tb):PD X (.BinOp a .Mod b pos) (t2 (gI (λ_ j=>0<j) λi j=>.int (i % j)) ta tb):=lB iR (okI λi j _=>.int _) ha hb
def TY(ha:PD X a ta)(hb:PD X b tb):PD X (.Compare a [.Lt] [b] pos) (t2 (gI0 λi j=>.bool (decide (i<j))) ta tb):=iQ uF (wG λi j _=>.bl _) ha hb (bM _)
def Ig(ha:PD X a ta)(hb:PD X b tb):PD X (.Compare a [.LtE] [b] pos) (t2 (gI0 λi j=>.bool (decide (i<=j))) ta tb):=iQ NZ (wG λi j _=>.bl _) ha hb (bM _)
def Ii(ha:PD X a ta)(hb:PD X b tb):PD X (.Compare a [.GtE] [b] pos) (t2 (gI0 λi j=>.bool (decide (j<=i))) ta tb):=iQ IV (wG λi j _=>.bl _) ha hb (bM _)
def Af(ha:PD X a ta)(hb:PD X b tb):PDT X (.Compare a [.Lt] [b] pos) (fX (t2 (gI0 λi j=>.bool (decide (i<j))) ta tb)):=eY uF (wG λi j _=>.bl _) ha hb (bM _)
def iK(ha:PD X a ta)(hb:PD X b tb):PDT X (.Compare a [.Gt] [b] pos) (fX (t2 (gI0 λi j=>.bool (decide (j<i))) ta tb)):=eY N5 (wG λi j _=>.bl _) ha hb (bM _)
def Ag(ha:PD X a ta)(hb:PD X b tb):PDT X (.Compare a [.GtE] [b] pos) (fX (t2 (gI0 λi j=>.bool (decide (j<=i))) ta tb)):=eY IV (wG λi j _=>.bl _) ha hb (bM _)
def scD:D->D->Option Bool
 |.int i,.int j=>some (decide (i=j))
 |.bool i,.bool j=>some (decide (i=j))
 |.str i,.str j=>some (decide (i=j))
 |_,_=>none
def gEq(neg:Bool):G2:=λ_ d1 _ d2 P=>match scD d1 d2 with
 |some b=>P .imm (.bool (if neg then !b else b))
 |none=>False
def QS:Ok2 (gEq false) rEq:=by
 intro p H0 own Hb H x y k1 d1 k2 d2 P Q A r1 r2 t q
 unfold gEq scD at t
 split at t
 ·rename_i b e
  split at e <;> first|cases e|skip
  ·rw[r1.int',r2.int']
   refine⟨rfl,?_⟩
   have e2:∀i j:Int,decide (V.int i=V.int j)=decide (i=j):=λi j=>by simp
   rw[e2];exact q _ _ _ _ t Kp.refl A.pen (.bl _)
  ·rw[r1.bl',r2.bl']
   refine⟨rfl,?_⟩
   have e2:∀i j:Bool,decide (V.bl i=V.bl j)=decide (i=j):=λi j=>by simp
   rw[e2];exact q _ _ _ _ t Kp.refl A.pen (.bl _)
  ·rw[r1.str',r2.str']
   refine⟨rfl,?_⟩
   have e2:∀i j:Str,decide (V.str i=V.str j)=decide (i=j):=λi j=>by simp
   rw[e2];exact q _ _ _ _ t Kp.refl A.pen (.bl _)
 ·exact t.elim
def QM:Ok2 (gEq true) rNe:=by
 intro p H0 own Hb H x y k1 d1 k2 d2 P Q A r1 r2 t q
 unfold gEq scD at t
 split at t
 ·rename_i b e
  split at e <;> first|cases e|skip
  ·rw[r1.int',r2.int']
   refine⟨rfl,?_⟩
   have e2:∀i j:Int,decide (V.int i=V.int j)=decide (i=j):=λi j=>by simp
   rw[e2];exact q _ _ _ _ t Kp.refl A.pen (.bl _)
  ·rw[r1.bl',r2.bl']
   refine⟨rfl,?_⟩
   have e2:∀i j:Bool,decide (V.bl i=V.bl j)=decide (i=j):=λi j=>by simp
   rw[e2];exact q _ _ _ _ t Kp.refl A.pen (.bl _)
  ·rw[r1.str',r2.str']
   refine⟨rfl,?_⟩
   have e2:∀i j:Str,decide (V.str i=V.str j)=decide (i=j):=λi j=>by simp
   rw[e2];exact q _ _ _ _ t Kp.refl A.pen (.bl _)
 ·exact t.elim
def T3(ha:PD X a ta)(hb:PD X b tb):PD X (.Compare a [.Eq] [b] pos) (t2 (gEq false) ta tb):=iQ uG QS ha hb (bM _)
def TX(ha:PD X a ta)(hb:PD X b tb):PD X (.Compare a [.NotEq] [b] pos) (t2 (gEq true) ta tb):=iQ CZ QM ha hb (bM _)
def HY(ha:PD X a ta)(hb:PD X b tb):PDT X (.Compare a [.Eq] [b] pos) (fX (t2 (gEq false) ta tb)):=eY uG QS ha hb (bM _)
def HX(ha:PD X a ta)(hb:PD X b tb):PDT X (.Compare a [.NotEq] [b] pos) (fX (t2 (gEq true) ta tb)):=eY CZ QM ha hb (bM _)
def gIx:G2:=λk1 d1 _ d2 P=>match d1,d2 with
 |.list ds,.int i=>∃d,atI ds i=some d/\P (norm k1 d) d
 |.tuple ds,.int i=>∃d,atI ds i=some d/\P (norm k1 d) d
 |_,_=>False
def Rps.atI{ok:Addr->Prop}{H:Hp}{vs:List V}{ds:List D}{i:Int}{d:D}(r:Rps ok H vs ds)(h:L2.atI ds i=some d):∃v,L2.atI vs i=some v/\Rp ok H v d:=by
 unfold L2.atI at h ⊢
 rw[r.length]
 cases e:ixN ds.length i with
 |none=>rw[e] at h;cases h
 |some j =>
  rw[e] at h
  obtain⟨v,h1,h2⟩:=r.getD (i:=j) (d:=d) h
  exact⟨v,h1,h2⟩
def Uu:G2:=λk1 d1 _ d2 P=>match d1,d2 with
 |.list ds,.int i=>∃d,atI ds i=some d/\P (norm k1 d) d
 |_,_=>False
def Ut:G2:=λk1 d1 _ d2 P=>match d1,d2 with
 |.tuple ds,.int i=>∃d,atI ds i=some d/\P (norm k1 d) d
 |_,_=>False
def gF(ha:PD X a ta)(hb:PD X b tb)(hs:oJ b):PD X (.Subscript a b pos) (t2 Uu ta tb):=PE.wk (fL cQ ha hb hs) (uM (by
 intro p H0 own Hb H x y k1 d1 k2 d2 P Q A r1 r2 t q
 unfold Uu at t
 split at t
 ·rename_i ds i
  obtain⟨d,hd,t⟩:=t
  obtain⟨c,vs,rfl,o,hc,rs⟩:=r1.bR
  obtain⟨v,hv,rv⟩:=rs.atI hd
  exact⟨c,vs,i,v,rfl,r2.int',SqL.of hc,hv,q _ _ _ _ t Kp.refl A.pen (aY rv)⟩
 ·exact t.elim))
def jB(ha:PD X a ta)(hb:PD X b tb)(hs:oJ b):PD X (.Subscript a b pos) (t2 Ut ta tb):=PE.wk (fL wQ ha hb hs) (uM (by
 intro p H0 own Hb H x y k1 d1 k2 d2 P Q A r1 r2 t q
 unfold Ut at t
 split at t
 ·rename_i ds i
  obtain⟨d,hd,t⟩:=t
  obtain⟨c,vs,rfl,hc,rs⟩:=r1.eO
  obtain⟨v,hv,rv⟩:=rs.atI hd
  exact⟨c,vs,i,v,rfl,r2.int',SqT.of hc,hv,q _ _ _ _ t Kp.refl A.pen (aY rv)⟩
 ·exact t.elim))
def fY{p:Pn}{H0 Hb H:Hp}{own:Addr->Option Nat}{vs:List V}{kd:Kd×D}(r:RpK p H0 own Hb H vs [kd]):∃v,vs=[v]/\Rp (okK p H0 own Hb kd.1) H v kd.2:=by
 cases r with
 |cons h t=>cases t;exact⟨_,rfl,h⟩
def Hi{p:Pn}{H0 Hb H:Hp}{own:Addr->Option Nat}{vs:List V}{kd ke:Kd×D}(r:RpK p H0 own Hb H vs [kd,ke]):∃v w,vs=[v,w]/\Rp (okK p H0 own Hb kd.1) H v kd.2/\Rp (okK p H0 own Hb ke.1) H w ke.2:=by
 cases r with
 |cons h t =>
  cases t with
  |cons h2 t2=>cases t2;exact⟨_,_,rfl,h,h2⟩
def M9:GC:=λks P=>match ks with
 |[(_,.list ds)]=>P .imm (.int ds.length)
 |[(_,.tuple ds)]=>P .imm (.int ds.length)
 |_=>False
def Ua{K:Ú}:OkC M9 (λxs H Q=>∃p ys,xs=[.ref p]/\(SqL K H p ys\/SqT K H p ys)/\Q (.int ys.length) H):=by
 intro p H0 own Hb H vs ks P Q A r t q
 unfold M9 at t
 split at t
 ·obtain⟨v,rfl,r'⟩:=fY r
  obtain⟨c,vs,rfl,o,hc,rs⟩:=r'.bR
  exact⟨c,vs,rfl,.inl (SqL.of hc),by rw[rs.length];exact q _ _ _ _ t Kp.refl A.pen (.int _)⟩
 ·obtain⟨v,rfl,r'⟩:=fY r
  obtain⟨c,vs,rfl,hc,rs⟩:=r'.eO
  exact⟨c,vs,rfl,.inr (SqT.of hc),by rw[rs.length];exact q _ _ _ _ t Kp.refl A.pen (.int _)⟩
 ·exact t.elim
def dz{ps:Pos}(hm:X.mg "len"=none)(ha:PDA X [a] t)(hg:Gl X "len":=by rfl)(he:zS X a []:=by rfl)(hpl:zP X pos []:=by rfl):PD X (.Call (.Name "len" ps) [a] [] pos) (tCl M9 t) :=
 cN fB Ua hg hm PySem.boot_len ha (by decide) (by decide) he hpl
def Rq:GC:=λks P=>match ks with
 |[(_,.int i)]=>P .imm (.int i)
 |[(_,.bool b)]=>P .imm (.int (if b then 1 else 0))
 |_=>False
def v7{ps:Pos}(hm:X.mg "int"=none)(hv:bootBuiltins "int"=some (.type "int"))(ha:PDA X [a] t)(hg:Gl X "int":=by rfl)(he:zS X a []:=by rfl)(hpl:zP X pos []:=by rfl):PD X (.Call (.Name "int" ps) [a] [] pos) (tCl Rq t) :=
 rE Gh (by
  intro p H0 own Hb H vs ks P Q A r t q
  unfold Rq at t
  split at t
  ·rename_i k i
   obtain⟨v,rfl,r'⟩:=fY r
   rw[r'.int']
   exact .inl ⟨i,rfl,q _ _ _ _ t Kp.refl A.pen (.int _)⟩
  ·rename_i k i
   obtain⟨v,rfl,r'⟩:=fY r
   rw[r'.bl']
   exact .inr ⟨i,rfl,q _ _ _ _ t Kp.refl A.pen (.int _)⟩
  ·exact t.elim) hg hm hv ha (by decide) (by decide) he hpl
end
variable [Gr]
section
variable {ok ok':Addr->Prop}{H H':Hp}
mutual
def Rp.cW(f:∀a o,ok a->H a=some o->ok' a/\H' a=some o)(t:∀a xs,H a=some (.tup xs)->H' a=some (.tup xs)):∀{v:V}{d:D},Rp ok H v d->Rp ok' H' v d
 |_,_,.non=>.non
 |_,_,.bl b=>.bl b
 |_,_,.int i=>.int i
 |_,_,.str x=>.str x
 |_,_,.lst o h r=>.lst (f _ _ o h).1 (f _ _ o h).2 (Rps.cW f t r)
 |_,_,.tup h r=>.tup (t _ _ h) (Rps.cW f t r)
 |_,_,.dct o h r=>.dct (f _ _ o h).1 (f _ _ o h).2 (Rkv.cW f t r)
def Rps.cW(f:∀a o,ok a->H a=some o->ok' a/\H' a=some o)(t:∀a xs,H a=some (.tup xs)->H' a=some (.tup xs)):∀{v:List V}{d:List D},Rps ok H v d->Rps ok' H' v d
 |_,_,.nil=>.nil
 |_,_,.cons h r=>.cons (Rp.cW f t h) (Rps.cW f t r)
def Rkv.cW(f:∀a o,ok a->H a=some o->ok' a/\H' a=some o)(t:∀a xs,H a=some (.tup xs)->H' a=some (.tup xs)):∀{v:List (Key×V)}{d:List (D×D)},Rkv ok H v d->Rkv ok' H' v d
 |_,_,.nil=>.nil
 |_,_,.cons h r=>.cons (Rp.cW f t h) (Rkv.cW f t r)
end
end
structure DEnds where
 nx:List Sl->Prop
 rt:D->Prop
 bk:List Sl->Prop:=λ_=>False
 ct:List Sl->Prop:=λ_=>False
abbrev DS:=DEnds->List Sl->Prop
structure FrS(p:Pn)(own:Addr->Option Nat)(H:Hp)(own':Addr->Option Nat)(H':Hp):Prop where
 keep:∀b o,H b=some o->¬p.fp b->own b=none->H' b=some o/\own' b=none
 tup:∀a xs,H a=some (.tup xs)->H' a=some (.tup xs)
def FrS.trans{p:Pn}{o1 o2 o3:Addr->Option Nat}{H1 H2 H3:Hp}(a:FrS p o1 H1 o2 H2)(b:FrS p o2 H2 o3 H3):FrS p o1 H1 o3 H3:=⟨λc o h n e=>let ⟨x,y⟩:=a.keep c o h n e;b.keep c o x n y,λc xs e=>b.tup c xs (a.tup c xs e)⟩
def FrS.refl{p:Pn}{o1:Addr->Option Nat}{H1:Hp}:FrS p o1 H1 o1 H1:=⟨λ_ _ h _ e=>⟨h,e⟩,λ_ _ e=>e⟩
def At.tups{p:Pn}{H0 H H':Hp}{own:Addr->Option Nat}(A:At p H0 own H H'):∀a xs,H a=some (.tup xs)->H' a=some (.tup xs):=gG (⟨A.k0,Kp.refl,A.penb,A.penb,A.ow⟩:At p H0 own H H) A.kp
structure RPost(p:Pn)(H0 H':Hp)(v:V)(d:D):Prop where
 k0:∀b o,H0 b=some o->¬p.fp b->H' b=some o
 pen:p.PI H'
 rp:Rp (λa=>H0 a=none/\¬p.fp a) H' v d
structure Wish(p:Pn)(H0:Hp)(own:Addr->Option Nat)(H:Hp)(P:DEnds)(Q:Ends):Prop where
 nx:∀own' σ' H' ρ',EnvD p H0 own' σ' H' ρ'->FrS p own H own' H'->P.nx ρ'->Q.nx σ' H'
 rt:∀d v H',P.rt d->RPost p H0 H' v d->Q.rt v H'
 bk:∀own' σ' H' ρ',EnvD p H0 own' σ' H' ρ'->FrS p own H own' H'->P.bk ρ'->Q.bk σ' H'
 ct:∀own' σ' H' ρ',EnvD p H0 own' σ' H' ρ'->FrS p own H own' H'->P.ct ρ'->Q.ct σ' H'
def Wish.go{p:Pn}{H0 H H':Hp}{own own':Addr->Option Nat}{P:DEnds}{Q:Ends}(w:Wish p H0 own H P Q)(f:FrS p own H own' H'):Wish p H0 own' H' P Q :=
 ⟨λo s h r e g n=>w.nx o s h r e (f.trans g) n,w.rt,λo s h r e g n=>w.bk o s h r e (f.trans g) n,λo s h r e g n=>w.ct o s h r e (f.trans g) n⟩
def nM(t:DS):TS:=λQ σ H=>∃p H0 own ρ P,EnvD p H0 own σ H ρ/\t P ρ/\Wish p H0 own H P Q
abbrev PDS(X:Cx)(st:Stmt)(t:DS):Prop:=PS X st (nM t)
abbrev gK(X:Cx)(st:List Stmt)(t:DS):Prop:=PSs X st (nM t)
def PSs.wk'{X:Cx}{ss:List Stmt}{t t':TS}(h:PSs X ss t)(w:∀D σ H,t' D σ H->t D σ H):PSs X ss t':=λpins s σ H D I q=>h pins s σ H D I (w D σ H q)
def PS.wk'{X:Cx}{ss:Stmt}{t t':TS}(h:PS X ss t)(w:∀D σ H,t' D σ H->t D σ H):PS X ss t':=λpins s σ H D I q=>h pins s σ H D I (w D σ H q)
def At.frs{p:Pn}{H0 H H':Hp}{own:Addr->Option Nat}(A:At p H0 own H H'):FrS p own H own H':=⟨λb o h n e=>⟨A.kp b o h n,e⟩,A.tups⟩
section
variable {X:Cx}{pos:Pos}{st:Stmt}{rest:List Stmt}{e:Expr}{te:DE}{t u:DS}
def Eb:DS:=λP ρ=>P.nx ρ
def Bu(t u:DS):DS:=λP ρ=>t { P with nx:=u P } ρ
def gH:gK X [] Eb:=PSs.wk' iJ (by
 rintro Q σ H ⟨p,H0,own,ρ,P,E,t,w⟩
 exact w.nx own σ H ρ E FrS.refl t)
def aK(h1:PDS X st t)(h2:gK X rest u):gK X (st::rest) (Bu t u):=PSs.wk' (qW h1 h2) (by
 rintro Q σ H ⟨p,H0,own,ρ,P,E,t,w⟩
 exact⟨p,H0,own,ρ,_,E,t,⟨λo s h r e g n=>⟨p,H0,o,r,P,e,n,w.go g⟩,w.rt,w.bk,w.ct⟩⟩)
def aL(h1:PDS X st t):gK X [st] t:=vO h1
def n6:PDS X st (λ_ _=>False):=PS.wk' Hs (by
 rintro Q σ H ⟨p,H0,own,ρ,P,E,t,w⟩
 exact t)
def Bv(te:DE):DS:=λP ρ=>te ρ λk d=>k.le .n0=true/\P.rt d
def bB(he:PD X e te):PDS X (.Return (some e) pos) (Bv te):=PS.wk' (fJ he) (by
 rintro Q σ H ⟨p,H0,own,ρ,P,E,t,w⟩
 refine⟨p,H0,own,ρ,_,E,t,λk d v H' h A r=>w.rt d v H' h.2 ⟨λb o e n=>A.kp b o (A.k0 b o e n) n,A.pen,?_⟩⟩
 exact mR A h.1 r)
def dIf(c:DT)(t u:DS):DS:=λP ρ=>c ρ λb=>if b=true then t P ρ else u P ρ
def cY{c:Expr}{a b:List Stmt}{tc:DT}(hc:PDT X c tc)(ha:gK X a t)(hb:gK X b u):PDS X (.If c a b pos) (dIf tc t u):=PS.wk' (p7 hc ha hb) (by
 rintro Q σ H ⟨p,H0,own,ρ,P,E,t,w⟩
 refine⟨p,H0,own,ρ,_,E,t,λb H' h A=>?_⟩
 cases b with
 |true=>exact aM ⟨p,H0,own,ρ,P,E.go A.kp A.pen,by simpa using h,w.go A.frs⟩
 |false=>exact aX ⟨p,H0,own,ρ,P,E.go A.kp A.pen,by simpa using h,w.go A.frs⟩)
def O7(te:DE):DS:=λP ρ=>te ρ λ_ _=>P.nx ρ
def qF(he:PD X e te)(hs:swapsWith e none pos.line X.env=pure false:=by rfl):PDS X (.Expr e pos) (O7 te):=PS.wk' (cu he hs) (by
 rintro Q σ H ⟨p,H0,own,ρ,P,E,t,w⟩
 exact⟨p,H0,own,ρ,_,E,t,λk d v H' h A r=>w.nx own σ H' ρ (E.go A.kp A.pen) A.frs h⟩)
def Sl.region:Sl->Option Nat
 |.dw r _=>some r
 |.rw r _=>some r
 |.tw r _=>some r
 |.sp r _ _=>some r
 |_=>none
def g8(r:Nat)(ρ:List Sl)(i:Nat):Bool:=(ρ.set i .any).all λs=>s.region != some r
def stK(rg:Option Nat)(ρ:List Sl)(i:Nat)(k:Kd)(d:D):Option Sl:=match k with
 |.imm=>some (.im d)
 |.new=>match rg with
  |some r=>if g8 r ρ i=true then some (.dw r d) else none
  |none=>some (.sn d)
 |.reg r=>some (.dw r d)
 |.snw=>some (.sn d)
 |.shr=>some (.sh d)
 |_=>none
def Bt(i:Nat)(rg:Option Nat)(te:DE):DS:=λP ρ=>te ρ λk d=>match stK rg ρ i (norm k d) d with
 |some s=>P.nx (ρ.set i s)
 |none=>False
section
variable {p:Pn}{H0 H H1:Hp}{own:Addr->Option Nat}{σ:L2.St}{ρ:List Sl}{i:Nat}
def EnvD.set{v:V}{s:Sl}(E:EnvD p H0 own σ H ρ)(hs:i<σ.length->jV p H0 own (σ.set i (some v)) H i s):EnvD p H0 own (σ.set i (some v)) H (ρ.set i s):=by
 refine⟨E.k0,E.pen,E.ow,λj s' e=>?_,by simpa using E.len,E.gr⟩
 by_cases hj:j=i
 ·subst hj
  have hl:j<ρ.length:=by
   have:=(Ê.mp e).1
   simpa using this
  rw[Į hl] at e
  cases e
  exact hs (by rw[←E.len];exact hl)
 ·rw[ŝ (Ĥ hj)] at e
  have q:=E.slot j s' e
  have eq:(σ.set i (some v))[j]?=σ[j]?:=ŝ (Ĥ hj)
  cases s' <;> simp only[jV,eq] at q ⊢ <;> exact q
def cT(r:Nat)(H H1:Hp)(own:Addr->Option Nat):Addr->Option Nat:=λa=>match H a,H1 a with
 |none,some _=>some r
 |_,_=>own a
def bD{r:Nat}{a:Addr}{o:HO}(h:H a=some o):cT r H H1 own a=own a:=by unfold cT;rw[h]
def pP{r:Nat}{a:Addr}{o:HO}(h:H a=none)(h1:H1 a=some o):cT r H H1 own a=some r:=by unfold cT;rw[h,h1]
def EnvD.adopt(r:Nat)(E:EnvD p H0 own σ H ρ)(A:At p H0 own H H1):EnvD p H0 (cT r H H1 own) σ H1 ρ:=by
 have tp:=gG E.at A.kp
 refine⟨λb o e n=>A.kp b o (E.k0 b o e n) n,A.pen,λa q e=>?_,λj s e=>?_,E.len,E.gr⟩
 ·cases h:H a with
  |some o =>
   rw[bD h] at e
   obtain⟨x,y,z⟩:=E.ow a q e
   refine⟨x,y,by rw[A.kp a o h y];exact λz=>nomatch z⟩
  |none =>
   cases h1:H1 a with
   |none =>
    have e':own a=some q:=by rw[←e];unfold cT;rw[h,h1]
    exact absurd h (E.ow a q e').2.2
   |some o=>exact⟨E.at.h0 h,E.at.nfb h,λz=>nomatch z⟩
 ·have q:=E.slot j s e
  cases s with
  |any=>trivial
  |im d=>exact let ⟨v,a,b⟩:=q;⟨v,a,b.mono (λ_ o=>o) (λ_ _ o=>o.elim) tp⟩
  |sh d=>exact let ⟨v,a,b⟩:=q;⟨v,a,b.cW (λc o n h=>⟨⟨n.1,by rw[bD h];exact n.2⟩,A.kp c o h n.1⟩) tp⟩
  |sn d=>exact let ⟨v,a,b⟩:=q;⟨v,a,b.cW (λc o n h=>⟨⟨n.1,n.2.1,by rw[bD h];exact n.2.2⟩,A.kp c o h n.2.1⟩) tp⟩
  |dw r' d=>exact let ⟨v,a,b⟩:=q;⟨v,a,b.cW (λc o n h=>⟨by rw[bD h];exact n,A.kp c o h (E.ow c r' n).2.1⟩) tp⟩
  |pen C=>exact q
  |rw r' L=>exact let ⟨st,as,a,b⟩:=q;⟨st,as,a,b.mono (λc o n h=>⟨by rw[bD h];exact n,A.kp c o h (E.ow c r' n).2.1⟩) tp⟩
  |tw r' L=>exact let ⟨st,as,a,b⟩:=q;⟨st,as,a,b.mono (λc o n h=>⟨by rw[bD h];exact n,A.kp c o h (E.ow c r' n).2.1⟩) tp⟩
  |scr v b=>exact q
  |sp r' b ds=>exact let ⟨l,vs,a,o,h,z⟩:=q;⟨l,vs,a,by rw[bD h];exact o,A.kp l _ h (E.ow l r' o).2.1,z.cW (λc u n e=>⟨⟨n.1,n.2.1,by rw[bD e];exact n.2.2⟩,A.kp c u e n.2.1⟩) tp⟩
def KJ{r:Nat}{k:Kd}{v:V}{d:D}(h:k.le .new=true)(A:At p H0 own H H1)(x:Rp (okK p H0 own H k) H1 v d):Rp (λa=>cT r H H1 own a=some r) H1 v d :=
 (mR A h x).cW (λa o n e=>⟨pP n e,e⟩) λ_ _ e=>e
def pQ{r:Nat}(A:At p H0 own H H1):FrS p own H (cT r H H1 own) H1:=⟨λb o h n e=>⟨A.kp b o h n,by rw[bD h];exact e⟩,A.tups⟩
def EnvD.drop(E:EnvD p H0 own σ H ρ):EnvD p H0 own σ H (ρ.set i .any):=by
 refine⟨E.k0,E.pen,E.ow,λj s' e=>?_,by simpa using E.len,E.gr⟩
 by_cases hj:j=i
 ·subst hj
  have hl:j<ρ.length:=by
   have:=(Ê.mp e).1
   simpa using this
  rw[Į hl] at e
  cases e
  trivial
 ·rw[ŝ (Ĥ hj)] at e
  exact E.slot j s' e
def aW(r:Nat)(own:Addr->Option Nat):Addr->Option Nat:=λa=>if own a=some r then none else own a
def EnvD.clear{r:Nat}(E:EnvD p H0 own σ H ρ)(h:ρ.all (λs=>s.region != some r)=true):EnvD p H0 (aW r own) σ H ρ:=by
 refine⟨E.k0,E.pen,λa q e=>?_,λj s e=>?_,E.len,E.gr⟩
 ·unfold aW at e
  split at e
  ·cases e
  ·exact E.ow a q e
 ·have q:=E.slot j s e
  have z:=ę.mp h s (Î e)
  have c0:∀a,own a=none->aW r own a=none:=λa n=>by unfold aW;rw[n];simp
  cases s with
  |any=>trivial
  |im d=>exact q
  |sh d=>exact let ⟨v,a,b⟩:=q;⟨v,a,b.mono (λc n=>⟨n.1,c0 c n.2⟩) (λ_ _ _ e=>e) λ_ _ e=>e⟩
  |sn d=>exact let ⟨v,a,b⟩:=q;⟨v,a,b.mono (λc n=>⟨n.1,n.2.1,c0 c n.2.2⟩) (λ_ _ _ e=>e) λ_ _ e=>e⟩
  |dw r' d =>
   have hne:r'≠r:=by simpa[Sl.region] using z
   exact let ⟨v,a,b⟩:=q;⟨v,a,b.mono (λc n=>by unfold aW;rw[n,if_neg (by simpa using hne)]) (λ_ _ _ e=>e) λ_ _ e=>e⟩
  |pen C=>exact q
  |rw r' L =>
   have hne:r'≠r:=by simpa[Sl.region] using z
   exact let ⟨st,as,a,b⟩:=q;⟨st,as,a,b.mono (λc o n e=>⟨by unfold aW;rw[n,if_neg (by simpa using hne)],e⟩) λ_ _ e=>e⟩
  |tw r' L =>
   have hne:r'≠r:=by simpa[Sl.region] using z
   exact let ⟨st,as,a,b⟩:=q;⟨st,as,a,b.mono (λc o n e=>⟨by unfold aW;rw[n,if_neg (by simpa using hne)],e⟩) λ_ _ e=>e⟩
  |scr v b=>exact q
  |sp r' b ds =>
   have hne:r'≠r:=by simpa[Sl.region] using z
   exact let ⟨l,vs,a,o,h,y⟩:=q;⟨l,vs,a,by unfold aW;rw[o,if_neg (by simpa using hne)],h,y.mono (λc n=>⟨n.1,n.2.1,c0 c n.2.2⟩) (λ_ _ _ e=>e) λ_ _ e=>e⟩
def iB{r:Nat}:FrS p own H (aW r own) H:=⟨λb o h n e=>⟨h,by unfold aW;rw[e];simp⟩,λ_ _ e=>e⟩
end
def bH{i:Nat}(rg:Option Nat)(h:PS X st (qL (bx te) (jM i))):PDS X st (Bt i rg te):=PS.wk' h (by
 rintro Q σ H ⟨p,H0,own,ρ,P,E,t,w⟩
 refine⟨p,H0,own,ρ,_,E,t,λk d v H1 h A r=>?_⟩
 have r:=aY r
 generalize norm k d=k' at h r
 show Q.nx (σ.set i (some v)) H1
 have E1:=E.go A.kp A.pen
 have fin:∀s,jV p H0 own (σ.set i (some v)) H1 i s\/¬i<σ.length->P.nx (ρ.set i s)->Q.nx (σ.set i (some v)) H1:=λs hs hn =>
  w.nx own _ H1 _ (E1.set λhl=>hs.elim id λz=>absurd hl z) A.frs hn
 have here:i<σ.length->(σ.set i (some v))[i]?=some (some v):=λhl=>Į hl
 by_cases hl:i<σ.length
 ·cases k' with
  |imm=>exact fin (.im d) (.inl ⟨v,here hl,r⟩) h
  |new =>
   cases rg with
   |none=>exact fin (.sn d) (.inl ⟨v,here hl,mR A (k:=.snw) rfl r⟩) h
   |some q =>
    simp only[stK] at h
    by_cases hf:g8 q ρ i=true
    ·rw[if_pos hf] at h
     have E2:EnvD p H0 (aW q own) σ H (ρ.set i .any):=(E.drop (i:=i)).clear hf
     have A2:At p H0 (aW q own) H H1:=⟨A.k0,A.kp,A.penb,A.pen,E2.ow⟩
     have E3:=E2.adopt q A2
     have r2:Rp (okK p H0 (aW q own) H .new) H1 v d:=r
     have E4:EnvD p H0 (cT q H H1 (aW q own)) (σ.set i (some v)) H1 ((ρ.set i .any).set i (.dw q d)):=E3.set λ_=>⟨v,here hl,KJ (k:=.new) rfl A2 r2⟩
     rw[List.set_set] at E4
     exact w.nx _ _ H1 _ E4 (iB.trans (pQ A2)) h
    ·rw[if_neg hf] at h
     exact h.elim
  |reg q=>exact fin (.dw q d) (.inl ⟨v,here hl,r⟩) h
  |n0=>exact h.elim
  |snw=>exact fin (.sn d) (.inl ⟨v,here hl,r⟩) h
  |shr=>exact fin (.sh d) (.inl ⟨v,here hl,r⟩) h
  |wk=>exact h.elim
 ·cases hs:stK rg ρ i k' d with
  |none=>rw[hs] at h;exact h.elim
  |some s=>rw[hs] at h;exact fin s (.inr hl) h)
end
variable [Gr]
section
variable {ok ok':Addr->Prop}{H:Hp}
mutual
def Rp.inj:∀{v:V}{d d':D},Rp ok H v d->Rp ok' H v d'->d=d'
 |_,_,_,.non,.non=>rfl
 |_,_,_,.bl b,.bl _=>rfl
 |_,_,_,.int i,.int _=>rfl
 |_,_,_,.str x,.str _=>rfl
 |_,_,_,.lst o h r,.lst o' h' r'=>by
  rw[h] at h';cases h'
  rw[Rps.inj r r']
 |_,_,_,.lst o h r,.tup h' r'=>by rw[h] at h';cases h'
 |_,_,_,.lst o h r,.dct o' h' r'=>by rw[h] at h';cases h'
 |_,_,_,.tup h r,.lst o' h' r'=>by rw[h] at h';cases h'
 |_,_,_,.tup h r,.tup h' r'=>by
  rw[h] at h';cases h'
  rw[Rps.inj r r']
 |_,_,_,.tup h r,.dct o' h' r'=>by rw[h] at h';cases h'
 |_,_,_,.dct o h r,.lst o' h' r'=>by rw[h] at h';cases h'
 |_,_,_,.dct o h r,.tup h' r'=>by rw[h] at h';cases h'
 |_,_,_,.dct o h r,.dct o' h' r'=>by
  rw[h] at h';cases h'
  rw[Rkv.inj r r']
def Rps.inj:∀{v:List V}{d d':List D},Rps ok H v d->Rps ok' H v d'->d=d'
 |_,_,_,.nil,.nil=>rfl
 |_,_,_,.cons h t,.cons h' t'=>by rw[Rp.inj h h',Rps.inj t t']
def Rkv.inj:∀{v:List (Key×V)}{d d':List (D×D)},Rkv ok H v d->Rkv ok' H v d'->d=d'
 |_,_,_,.nil,.nil=>rfl
 |_,_,_,.cons h t,.cons h' t'=>by rw[Rp.inj h h',Rkv.inj t t']
end
variable {l:Addr}{T:D}
mutual
def Rp.avoid(h0:Rp ok' H (.ref l) T):∀{v:V}{d:D},Rp ok H v d->sizeOf d<sizeOf T->Rp (λa=>ok a/\a≠l) H v d
 |_,_,.non,_=>.non
 |_,_,.bl b,_=>.bl b
 |_,_,.int i,_=>.int i
 |_,_,.str x,_=>.str x
 |_,_,.lst (ds:=ds) o h r,s=>.lst ⟨o,λz=>by
   subst z
   have e:=Rp.inj (Rp.lst o h r) h0
   rw[e] at s
   exact absurd s (č _)⟩ h (Rps.avoid h0 r (by simp only[PyData.list.sizeOf_spec] at s;omega))
 |_,_,.tup (ds:=ds) h r,s=>.tup h (Rps.avoid h0 r (by simp only[PyData.tuple.sizeOf_spec] at s;omega))
 |_,_,.dct (ds:=ds) o h r,s=>.dct ⟨o,λz=>by
   subst z
   have e:=Rp.inj (Rp.dct o h r) h0
   rw[e] at s
   exact absurd s (č _)⟩ h (Rkv.avoid h0 r (by simp only[PyData.dict.sizeOf_spec] at s;omega))
def Rps.avoid(h0:Rp ok' H (.ref l) T):∀{v:List V}{d:List D},Rps ok H v d->sizeOf d<sizeOf T->Rps (λa=>ok a/\a≠l) H v d
 |_,_,.nil,_=>.nil
 |_,_,.cons h t,s=>.cons (Rp.avoid h0 h (by simp only[List.cons.sizeOf_spec] at s;omega)) (Rps.avoid h0 t (by simp only[List.cons.sizeOf_spec] at s;omega))
def Rkv.avoid(h0:Rp ok' H (.ref l) T):∀{v:List (Key×V)}{d:List (D×D)},Rkv ok H v d->sizeOf d<sizeOf T->Rkv (λa=>ok a/\a≠l) H v d
 |_,_,.nil,_=>.nil
 |_,_,.cons h t,s=>.cons (Rp.avoid h0 h (by simp only[List.cons.sizeOf_spec,Prod.mk.sizeOf_spec] at s;omega)) (Rkv.avoid h0 t (by simp only[List.cons.sizeOf_spec] at s;omega))
end
end
def forget(r:Nat)(ρ:List Sl):List Sl:=ρ.map λs=>if s.region=some r then .any else s
section
variable {p:Pn}{H0 H H1:Hp}{own:Addr->Option Nat}{σ:L2.St}{ρ:List Sl}{i:Nat}
def EnvD.write{r:Nat}{l:Addr}{u o':HO}(E:EnvD p H0 own σ H ρ)(hl:own l=some r)(ho:H l=some u)(hu:∀xs,u≠.tup xs)(hc:¬Fxd u:=by rintro⟨_,_,z⟩;cases z):EnvD p H0 own σ (upd H l o') (forget r ρ):=by
 have h0:=E.ow l r hl
 have tp:∀a xs,H a=some (.tup xs)->upd H l o' a=some (.tup xs):=λa xs e=>by
  rw[aq];exact e
  intro z;subst z;rw[ho] at e;exact hu xs (á e)
 refine⟨λb o e n=>?_,p.mono H _ E.pen λb o f e=>?_,λa q e=>?_,λj s e=>?_,by unfold forget;rw[Á];exact E.len,E.gr⟩
 ·rw[aq];exact E.k0 b o e n
  intro z;subst z;rw[h0.1] at e;cases e
 ·rw[aq];exact e
  intro z;subst z;exact f.elim h0.2.1 λc=>hc (by rw[ho] at e;cases e;exact c)
 ·obtain⟨x,y,z⟩:=E.ow a q e
  refine⟨x,y,?_⟩
  by_cases hh:a=l
  ·subst hh;rw[au];exact λz=>nomatch z
  ·rw[aq hh];exact z
 ·unfold forget at e
  rw[ß] at e
  cases hr:ρ[j]? with
  |none=>rw[hr] at e;cases e
  |some s0 =>
   rw[hr] at e
   have e:=á e
   have q:=E.slot j s0 hr
   have ne:∀c,own c≠some r->c≠l:=λc n z=>by subst z;exact n hl
   cases s0 with
   |any=>simp only[Sl.region] at e;subst e;trivial
   |im d =>
    have e:Sl.im d=s:=e
    subst e
    exact let ⟨v,a,b⟩:=q;⟨v,a,b.mono (λ_ o=>o) (λ_ _ o=>o.elim) tp⟩
   |sh d =>
    have e:Sl.sh d=s:=e
    subst e
    exact let ⟨v,a,b⟩:=q;⟨v,a,b.mono (λ_ o=>o) (λc o n e=>by rw[aq (ne c (by rw[n.2];exact λz=>nomatch z))];exact e) tp⟩
   |sn d =>
    have e:Sl.sn d=s:=e
    subst e
    exact let ⟨v,a,b⟩:=q;⟨v,a,b.mono (λ_ o=>o) (λc o n e=>by rw[aq (ne c (by rw[n.2.2];exact λz=>nomatch z))];exact e) tp⟩
   |dw r' d =>
    by_cases hrr:r'=r
    ·subst hrr
     have e:(if (some r':Option Nat)=some r' then Sl.any else Sl.dw r' d)=s:=e
     rw[if_pos rfl] at e
     subst e
     trivial
    ·have e:(if (some r':Option Nat)=some r then Sl.any else Sl.dw r' d)=s:=e
     rw[if_neg (by simpa using hrr)] at e
     subst e
     exact let ⟨v,a,b⟩:=q;⟨v,a,b.mono (λ_ o=>o) (λc o n e=>by rw[aq (ne c (by rw[n];simpa using hrr))];exact e) tp⟩
   |pen C =>
    have e:Sl.pen C=s:=e
    subst e
    exact q
   |scr v b =>
    have e:Sl.scr v b=s:=e
    subst e
    exact q
   |sp r' b ds =>
    by_cases hrr:r'=r
    ·subst hrr
     have e:(if (some r':Option Nat)=some r' then Sl.any else Sl.sp r' b ds)=s:=e
     rw[if_pos rfl] at e
     subst e
     trivial
    ·have e:(if (some r':Option Nat)=some r then Sl.any else Sl.sp r' b ds)=s:=e
     rw[if_neg (by simpa using hrr)] at e
     subst e
     exact let ⟨l',vs,a,o,h,y⟩:=q;⟨l',vs,a,o,by rw[aq (ne l' (by rw[o];simpa using hrr))];exact h,y.mono (λ_ o=>o) (λc o n e=>by rw[aq (ne c (by rw[n.2.2];exact λz=>nomatch z))];exact e) tp⟩
   |rw r' L =>
    by_cases hrr:r'=r
    ·subst hrr
     have e:(if (some r':Option Nat)=some r' then Sl.any else Sl.rw r' L)=s:=e
     rw[if_pos rfl] at e
     subst e
     trivial
    ·have e:(if (some r':Option Nat)=some r then Sl.any else Sl.rw r' L)=s:=e
     rw[if_neg (by simpa using hrr)] at e
     subst e
     exact let ⟨st,as,a,b⟩:=q;⟨st,as,a,b.mono (λc o n e=>⟨n,by rw[aq (ne c (by rw[n];simpa using hrr))];exact e⟩) tp⟩
   |tw r' L =>
    by_cases hrr:r'=r
    ·subst hrr
     have e:(if (some r':Option Nat)=some r' then Sl.any else Sl.tw r' L)=s:=e
     rw[if_pos rfl] at e
     subst e
     trivial
    ·have e:(if (some r':Option Nat)=some r then Sl.any else Sl.tw r' L)=s:=e
     rw[if_neg (by simpa using hrr)] at e
     subst e
     exact let ⟨st,as,a,b⟩:=q;⟨st,as,a,b.mono (λc o n e=>⟨n,by rw[aq (ne c (by rw[n];simpa using hrr))];exact e⟩) tp⟩
def ud{r:Nat}{l:Addr}{u o':HO}(hl:own l=some r)(ho:H l=some u)(hu:∀xs,u≠.tup xs):FrS p own H own (upd H l o'):=by
 refine⟨λb o h n e=>⟨?_,e⟩,λa xs e=>?_⟩
 ·rw[aq];exact h
  intro z;subst z;rw[hl] at e;cases e
 ·rw[aq];exact e
  intro z;subst z;rw[ho] at e;exact hu xs (á e)
def EnvD.put{v:V}{s:Sl}(E:EnvD p H0 own σ H ρ)(hs:jV p H0 own σ H i s):EnvD p H0 own σ H (ρ.set i s):=by
 refine⟨E.k0,E.pen,E.ow,λj s' e=>?_,by simpa using E.len,E.gr⟩
 by_cases hj:j=i
 ·subst hj
  have hl:j<ρ.length:=by
   have:=(Ê.mp e).1
   simpa using this
  rw[Į hl] at e
  cases e
  exact hs
 ·rw[ŝ (Ĥ hj)] at e
  exact E.slot j s' e
def EnvD.qU{r:Nat}{l:Addr}{vs vs':List V}{ds ds':List D}(E:EnvD p H0 own σ H ρ)(A:At p H0 own H H1)(hv:σ[i]?=some (some (.ref l)))(hl:own l=some r)(ho:H l=some (.lst vs))(rs:Rps (λa=>own a=some r) H vs ds)(hs:∀H2,(∀{w:V}{d:D},Rp (λa=>own a=some r) H w d->sizeOf d<sizeOf (Ŀ ds)->Rp (λa=>cT r H H1 own a=some r) H2 w d)->(∀{w:V}{d:D},Rp (okK p H0 own H .new) H1 w d->Rp (λa=>cT r H H1 own a=some r) H2 w d)->Rps (λa=>cT r H H1 own a=some r) H2 vs' ds') :
  EnvD p H0 (cT r H H1 own) σ (upd H1 l (.lst vs')) ((forget r ρ).set i (.dw r (.list ds')))/\FrS p own H (cT r H H1 own) (upd H1 l (.lst vs')):=by
 have h1:H1 l=some (.lst vs):=A.kp l _ ho (E.ow l r hl).2.1
 have hl':cT r H H1 own l=some r:=by rw[bD ho];exact hl
 have E1:=(E.adopt r A).write (o':=.lst vs') hl' h1 (λxs z=>nomatch z)
 have tp:∀a xs,H1 a=some (.tup xs)->upd H1 l (.lst vs') a=some (.tup xs):=λa xs e=>by
  rw[aq];exact e
  intro z;subst z;rw[h1] at e;cases e
 refine⟨E1.put (v:=.ref l) ⟨.ref l,hv,.lst hl' au (hs _ ?_ ?_)⟩,(pQ A).trans (ud hl' h1 λxs z=>nomatch z)⟩
 ·intro w d x sz
  have x1:=Rp.avoid (Rp.lst (ok:=λa=>own a=some r) hl ho rs) x sz
  exact x1.cW (λa o n e=>⟨by rw[bD e];exact n.1,by rw[aq n.2];exact A.kp a o e (E.ow a r n.1).2.1⟩) λa xs e=>tp a xs (gG E.at A.kp a xs e)
 ·intro w d x
  exact x.cW (λa o n e=>⟨pP n e,by rw[aq (λz=>by subst z;rw[ho] at n;cases n)];exact e⟩) tp
end
section
variable {X:Cx}{pos:Pos}{st:Stmt}{e:Expr}{te:DE}{i:Nat}{ta:DA}
def jY{d:D}{ds:List D}(h:d∈ds):sizeOf d<sizeOf (Ŀ ds):=by
 have:=List.sizeOf_lt_of_mem h
 simp only[PyData.list.sizeOf_spec]
 omega
def mQ{ok ok':Addr->Prop}{H H2:Hp}{T:D}(f:∀{w:V}{d:D},Rp ok H w d->sizeOf d<sizeOf T->Rp ok' H2 w d):∀{vs:List V}{ds:List D},Rps ok H vs ds->(∀d∈ds,sizeOf d<sizeOf T)->Rps ok' H2 vs ds
 |_,_,.nil,_=>.nil
 |_,_,.cons h t,s=>.cons (f h (s _ Æ)) (mQ f t λd hd=>s d (Ã _ hd))
def RQ(i:Nat)(te:DE):DS:=λP ρ=>match ρ[i]? with
 |some (.dw r (.list ds))=>te ρ λk d=>(norm k d).le .new=true/\ds.length<1000/\P.nx ((forget r ρ).set i (.dw r (.list (ds++[d]))))
 |_=>False
def cZ(h:PS X st (qI (tBM X.K "list" vM (iH i) (jj (bQ te je))))):PDS X st (RQ i te):=PS.wk' h (by
 rintro Q σ H ⟨p,H0,own,ρ,P,E,t,w⟩
 unfold RQ at t
 split at t
 ·rename_i r ds hr
  obtain⟨v,hv,x⟩:=E.slot i _ hr
  obtain⟨l,vs,rfl,hl,ho,rs⟩:=x.bR
  refine⟨.ref l,hv,.inl ⟨rfl,vs,SqL.of ho⟩,p,H0,own,ρ,λks=>∃k d,ks=[(k,d)]/\(norm k d).le .new=true/\ds.length<1000/\P.nx ((forget r ρ).set i (.dw r (.list (ds++[d])))),E,?_,?_⟩
  ·show te ρ λk d=>∃k' d',[(k,d)]=[(k',d')]/\_
   have e:(λk d=>∃k' d',[((k,d):Kd×D)]=[(k',d')]/\(norm k' d').le .new=true/\ds.length<1000/\P.nx ((forget r ρ).set i (.dw r (.list (ds++[d'])))))=λk d=>(norm k d).le .new=true/\ds.length<1000/\P.nx ((forget r ρ).set i (.dw r (.list (ds++[d])))):=by
    funext k d
    apply propext
    constructor
    ·rintro⟨k',d',e,h⟩
     cases e
     exact h
    ·exact λh=>⟨k,d,rfl,h⟩
   rw[e]
   exact t
  ·rintro ks ws H1 ⟨k,d,rfl,hk,hlen,hn⟩ A rk
   obtain⟨y,rfl,ry⟩:=fY rk
   have ry:=mR A hk (aY ry)
   have h1:H1 l=some (.lst vs):=A.kp l _ ho (E.ow l r hl).2.1
   have h24:=ô
   have hln:=rs.length
   refine⟨l,vs,y,rfl,rfl,h1,by omega,?_⟩
   obtain⟨E2,F2⟩:=E.qU (vs':=vs++[y]) (ds':=ds++[d]) A hv hl ho rs λH2 f g=>(mQ f rs λd hd=>jY hd).snoc (g ry)
   exact w.nx _ σ _ _ E2 F2 hn
 ·exact t.elim)
end
variable [Gr]
abbrev DG:=Kd->D->List Sl->(List Sl->Prop)->Prop
abbrev DGs:=Kd->List D->List Sl->(List Sl->Prop)->Prop
def yd(k:Kd)(d:D):Sl:=match k with
 |.imm=>.im d
 |.new=>.sn d
 |.reg r=>.dw r d
 |.snw=>.sn d
 |.shr=>.sh d
 |_=>.any
def okB(p:Pn)(H0:Hp)(own:Addr->Option Nat):Kd->Addr->Prop
 |.imm=>λ_=>False
 |.new=>λa=>H0 a=none/\¬p.fp a/\own a=none
 |.reg r=>λa=>own a=some r
 |.snw=>λa=>H0 a=none/\¬p.fp a/\own a=none
 |.shr=>λa=>¬p.fp a/\own a=none
 |.n0=>λ_=>True
 |.wk=>λ_=>True
def JC(g:DG):TG:=λv σ H Q=>∃p H0 own ρ k d P,EnvD p H0 own σ H ρ/\Rp (okB p H0 own k) H v d/\g k d ρ P/\∀σ' ρ',EnvD p H0 own σ' H ρ'->P ρ'->Q σ' H
def rZ(g:DGs):TGs:=λvs σ H Q=>∃p H0 own ρ k ds P,EnvD p H0 own σ H ρ/\Rps (okB p H0 own k) H vs ds/\g k ds ρ P/\∀σ' ρ',EnvD p H0 own σ' H ρ'->P ρ'->Q σ' H
abbrev PDG(X:Cx)(e:Expr)(g:DG):Prop:=PG X e (JC g)
def PG.wk{X:Cx}{e:Expr}{t t':TG}(h:PG X e t)(w:∀v σ H Q,t' v σ H Q->t v σ H Q):PG X e t':=λpins s σ H v u Q I r q=>h pins s σ H v u Q I r (w v σ H Q q)
def PGs.wk{X:Cx}{e:List Expr}{t t':TGs}(h:PGs X e t)(w:∀v σ H Q,t' v σ H Q->t v σ H Q):PGs X e t':=λpins s σ H v u Q I r q=>h pins s σ H v u Q I r (w v σ H Q q)
def jy{p:Pn}{H0 H:Hp}{own:Addr->Option Nat}{k:Kd}{v:V}{d:D}(r:Rp (okB p H0 own k) H v d):Rp (okB p H0 own (norm k d)) H v d:=by
 by_cases h:gb d=true
 ·rw[dD h];exact r.imm h
 ·rw[fQ h];exact r
section
variable {X:Cx}{pos:Pos}{e:Expr}{es:List Expr}
def gNm(i:Nat):DG:=λk d ρ P=>P (ρ.set i (yd (norm k d) d))
def G7{p:Pn}{H0 H:Hp}{own:Addr->Option Nat}{σ:L2.St}{i:Nat}{k:Kd}{v:V}{d:D}(r:Rp (okB p H0 own k) H v d)(h:σ[i]?=some (some v)):jV p H0 own σ H i (yd k d):=by
 cases k with
 |imm=>exact⟨v,h,r⟩
 |new=>exact⟨v,h,r⟩
 |reg q=>exact⟨v,h,r⟩
 |n0=>trivial
 |snw=>exact⟨v,h,r⟩
 |shr=>exact⟨v,h,r⟩
 |wk=>trivial
def aU{i:Nat}{x:Str}(h:PG X (.Name x pos) (jM i)):PDG X (.Name x pos) (gNm i):=PG.wk h (by
 rintro v σ H Q ⟨p,H0,own,ρ,k,d,P,E,r,t,q⟩
 exact q _ _ (E.set λhl=>G7 (jy r) (Į hl)) t)
def Dt:DGs:=λ_ ds ρ P=>match ds with
 |[]=>P ρ
 |_=>False
def lY(g:DG)(gs:DGs):DGs:=λk ds ρ P=>match ds with
 |d::r=>g (norm k d) d ρ λρ'=>gs k r ρ' P
 |[]=>False
def dM:PGs X [] (rZ Dt):=PGs.wk CQ (by
 rintro v σ H Q ⟨p,H0,own,ρ,k,ds,P,E,r,t,q⟩
 cases ds with
 |nil=>cases r;exact⟨rfl,q _ _ E t⟩
 |cons d ds=>exact t.elim)
def jQ{g:DG}{gs:DGs}(h1:PDG X e g)(h2:PGs X es (rZ gs))(hs:(assignEach (e::es) X.env).map (·.2)=assign e X.env::(assignEach es X.env).map (·.2):=by rfl):PGs X (e::es) (rZ (lY g gs)):=PGs.wk (mZ h1 h2 hs) (by
 rintro v σ H Q ⟨p,H0,own,ρ,k,ds,P,E,r,t,q⟩
 cases r with
 |nil=>exact t.elim
 |cons r rs =>
  exact⟨_,_,rfl,p,H0,own,ρ,_,_,_,E,jy r,t,λσ' ρ' E' t'=>⟨p,H0,own,ρ',k,_,P,E',rs,t',q⟩⟩)
def gTp(n:Nat)(gs:DGs):DG:=λk d ρ P=>match d with
 |.tuple ds=>ds.length=n/\gs k ds ρ P
 |_=>False
def fW{gs:DGs}{k n:Nat}(hc:X.calm=true)(h:PGs X es (rZ gs))(hn:(assignEach es X.env).length=n:=by rfl)(hst:(assignEach es X.env).findIdx? (·.1)=none:=by rfl):PDG X (.Tuple es k pos) (gTp n gs):=PG.wk (Hx hc h hn hst) (by
 rintro v σ H Q ⟨p,H0,own,ρ,k,d,P,E,r,t,q⟩
 cases d with
 |tuple ds =>
  obtain⟨a,vs,rfl,ha,rs⟩:=r.eO
  exact⟨a,vs,rfl,SqT.of ha,by rw[rs.length];exact t.1,p,H0,own,ρ,k,ds,P,E,rs,t.2,q⟩
 |_=>exact t.elim)
end
structure Wlk(Ok:Hp->Prop)(J:It)(ds:List D)(ok:Addr->Prop):Prop where
 go:∀i H,Ok H->i<ds.length->J.go i H
 stop:∀H,Ok H->J.stop ds.length H
 yld:∀i H x H',Ok H->J.yld i H x H'->Same H H'/\∀d,ds[i]?=some d->Rp ok H' x d
 stab:∀H H',Ok H->(∀b o,ok b->H b=some o->H' b=some o)->(∀a xs,H a=some (.tup xs)->H' a=some (.tup xs))->Ok H'
abbrev DI:=List Sl->(Kd->List D->Prop)->Prop
def okA(p:Pn)(H0:Hp)(own:Addr->Option Nat)(Hb:Hp)(k:Kd)(H:Hp)(a:Addr):Prop:=okK p H0 own Hb k a/\∃o,H a=some o
def Ol(t:DI):TI:=λσ H R=>∃p H0 own ρ P,EnvD p H0 own σ H ρ/\t ρ P/\∀k ds J H1 Ok,P k ds->At p H0 own H H1->Wlk Ok J ds (okA p H0 own H k H1)->Ok H1->R J H1
abbrev PDI(X:Cx)(tg e:Expr)(t:DI):Prop:=PI X tg e (Ol t)
def PI.wk{X:Cx}{tg e:Expr}{t t':TI}(h:PI X tg e t)(w:∀σ H R,t' σ H R->t σ H R):PI X tg e t':=λpins s σ H R I q=>h pins s σ H R I (w σ H R q)
section
variable {X:Cx}{tg l:Expr}{tl:DE}{pos:Pos}{ta:DA}
def GF{K:Ú}{ok:Addr->Prop}{a:Addr}{ds:List D}:Wlk (λH=>Rp ok H (.ref a) (.list ds)) (Itl K a) ds ok where
 go:=λi H r hi=>by
  obtain⟨b,vs,e,o,h,rs⟩:=r.bR
  cases e
  have:i<vs.length:=by rw[rs.length];exact hi
  exact⟨vs,vs[i],SqL.of h,by simp[this]⟩
 stop:=λH r=>by
  obtain⟨b,vs,e,o,h,rs⟩:=r.bR
  cases e
  exact⟨vs,SqL.of h,by rw[rs.length];exact Ì _⟩
 yld:=λi H x H' r y=>by
  obtain⟨rfl,y⟩:=y
  obtain⟨b,vs,e,o,h,rs⟩:=r.bR
  cases e
  refine⟨Same.refl _,λd hd=>?_⟩
  obtain⟨v,hv,rv⟩:=rs.getD hd
  have:=y vs (SqL.of h)
  rw[hv] at this
  cases this
  exact rv
 stab:=λH H' r f t=>r.cW (λa o n e=>⟨n,f a o n e⟩) t
def Gy{K:Ú}{ok:Addr->Prop}{a:Addr}{ds:List D}:Wlk (λH=>Rp ok H (.ref a) (.tuple ds)) (Itt K a) ds ok where
 go:=λi H r hi=>by
  obtain⟨b,vs,e,h,rs⟩:=r.eO
  cases e
  have:i<vs.length:=by rw[rs.length];exact hi
  exact⟨vs,vs[i],SqT.of h,by simp[this]⟩
 stop:=λH r=>by
  obtain⟨b,vs,e,h,rs⟩:=r.eO
  cases e
  exact⟨vs,SqT.of h,by rw[rs.length];exact Ì _⟩
 yld:=λi H x H' r y=>by
  obtain⟨rfl,y⟩:=y
  obtain⟨b,vs,e,h,rs⟩:=r.eO
  cases e
  refine⟨Same.refl _,λd hd=>?_⟩
  obtain⟨v,hv,rv⟩:=rs.getD hd
  have:=y vs (SqT.of h)
  rw[hv] at this
  cases this
  exact rv
 stab:=λH H' r f t=>r.cW (λa o n e=>⟨n,f a o n e⟩) t
def Gz{ok:Addr->Prop}{lo:Int}{n:Nat}:Wlk (λ_=>True) (Itr lo n) ((Þ n).map λi=>Â (lo+((i:Nat):Int))) ok where
 go:=λi H r hi=>by
  have h:i<n:=by simpa using hi
  exact h
 stop:=λH r=>by show n<=_;simp
 yld:=λi H x H' r y=>by
  obtain⟨rfl,rfl⟩:=y
  refine⟨Same.refl _,λd hd=>?_⟩
  rw[ß] at hd
  cases h:(Þ n)[i]? with
  |none=>rw[h] at hd;cases hd
  |some j =>
   rw[h] at hd
   have e:=á hd
   have hj:j=i:=by
    have:=Ê.mp h
    obtain⟨h1,h2⟩:=this
    simpa using h2.symm
   subst e hj
   exact .int _
 stab:=λ_ _ _ _ _=>trivial
def rpA{p:Pn}{H0 Hb H:Hp}{own:Addr->Option Nat}{k:Kd}{v:V}{d:D}(r:Rp (okK p H0 own Hb k) H v d):Rp (okA p H0 own Hb k H) H v d:=r.cW (λa o n e=>⟨⟨n,o,e⟩,e⟩) λ_ _ e=>e
def iSq(tl:DE):DI:=λρ P=>tl ρ λk d=>match d with
 |.list ds=>P k ds
 |.tuple ds=>P k ds
 |_=>False
def dY(hl:PD X l tl):PDI X tg l (iSq tl):=PI.wk (Hw hl) (by
 rintro σ H R ⟨p,H0,own,ρ,P,E,t,q⟩
 refine⟨p,H0,own,ρ,_,E,t,λk d v H1 h A r=>?_⟩
 cases d with
 |list ds =>
  obtain⟨a,vs,rfl,o,ha,rs⟩:=r.bR
  exact⟨a,rfl,.inl ⟨⟨vs,SqL.of ha⟩,q k ds _ H1 _ h A GF (rpA r)⟩⟩
 |tuple ds =>
  obtain⟨a,vs,rfl,ha,rs⟩:=r.eO
  exact⟨a,rfl,.inr ⟨⟨vs,SqT.of ha⟩,q k ds _ H1 _ h A Gy (rpA r)⟩⟩
 |_=>exact h.elim)
def qg(lo:Int)(n:Nat):List D:=(Þ n).map λi=>Â (lo+((i:Nat):Int))
def iR1(ta:DA):DI:=λρ P=>ta ρ λks=>match ks with
 |[(_,.int j)]=>(-(2 ^ 62)<=j/\j<2 ^ 62)/\P .imm (qg 0 j.toNat)
 |_=>False
def aN{a:Expr}{ps:Pos}(hm:X.mg "range"=none)(ha:PDA X [a] ta)(hg:Gl X "range":=by rfl)(hs:starEach [a] X.env=[(false,eval a X.env)]:=by rfl):PDI X tg (.Call (.Name "range" ps) [a] [] pos) (iR1 ta):=PI.wk (j6 hg hm ha hs) (by
 rintro σ H R ⟨p,H0,own,ρ,P,E,t,q⟩
 refine⟨p,H0,own,ρ,_,E,t,λks vs H1 h A r=>?_⟩
 split at h
 ·rename_i k j
  obtain⟨v,rfl,r'⟩:=fY r
  exact⟨j,by rw[r'.int'],h.1.1,h.1.2,q _ _ _ H1 _ h.2 A Gz trivial⟩
 ·exact h.elim)
end
variable [Gr]
def elK:Kd->Kd
 |.new=>.snw
 |k=>k
section
variable {X:Cx}{tg iter:Expr}{pos:Pos}{body:List Stmt}{ti:DI}{g:DG}{tb:DS}
def Vc(ti:DI)(g:DG)(tb:DS):DS:=λP ρ=>ti ρ λk ds=>k.le .shr=true/\∃Iv:Nat->List Sl->Prop,Iv 0 ρ /\
 (∀i d ρ',ds[i]?=some d->Iv i ρ'->g (norm (elK k) d) d ρ' λρ2=>tb { nx:=Iv (i+1),ct:=Iv (i+1),bk:=P.nx,rt:=P.rt } ρ2)/\∀ρ',Iv ds.length ρ'->P.nx ρ'
def Ue{p:Pn}{H0 Hb H1 H':Hp}{own own':Addr->Option Nat}{k:Kd}(hk:k.le .shr=true)(A:At p H0 own Hb H1)(F:FrS p own H1 own' H'){v:V}{d:D}{H2:Hp}(r:Rp (okA p H0 own Hb k H1) H2 v d):Rp (okB p H0 own' (elK k)) H2 v d:=by
 refine r.mono (λa n=>?_) (λ_ _ _ e=>e) λ_ _ e=>e
 obtain⟨o,u,hu⟩:=n
 have o2:¬p.fp a/\own a=none:=cj A (k:=.shr) hk o
 have f:=(F.keep a u hu o2.1 o2.2).2
 cases k with
 |imm=>exact o
 |new=>exact⟨A.h0 o,o2.1,f⟩
 |reg q=>cases hk
 |n0=>cases hk
 |snw=>exact⟨o.1,o2.1,f⟩
 |shr=>exact⟨o2.1,f⟩
 |wk=>cases hk
def iW(hp:PassesOwn (model X.prog X.w) X.A X.env X.xe)(hc:X.calm=true)(hi:PDI X tg iter ti)(hg:PDG X tg g)(hb:gK X body tb)(hs:zF X iter:=by intro _;rfl):PDS X (.For tg iter body [] pos) (Vc ti g tb):=PS.wk' (oX hp hc hi hg hb hs) (by
 rintro Q σ H ⟨p,H0,own,ρ,P,E,t,w⟩
 refine⟨p,H0,own,ρ,_,E,t,λk ds J H1 Ok h A W o1=>?_⟩
 obtain⟨hk,Iv,i0,step,done⟩:=h
 have w1:=w.go A.frs
 have okS:∀own' H',FrS p own H1 own' H'->Ok H':=λown' H' F=>W.stab H1 H' o1 (λb o n e=>by
  have o2:¬p.fp b/\own b=none:=cj A (k:=.shr) hk n.1
  exact(F.keep b o e o2.1 o2.2).1) F.tup
 refine⟨λi m σ' H'=>m=ds.length - i/\i<=ds.length/\∃own' ρ',EnvD p H0 own' σ' H' ρ'/\FrS p own H1 own' H'/\Iv i ρ',⟨_,rfl,ÿ _,own,ρ,E.go A.kp A.pen,FrS.refl,i0⟩,?_⟩
 rintro i m σ' H' ⟨rfl,hi,own',ρ',E',F',iv⟩
 have oH:=okS own' H' F'
 by_cases hlt:i<ds.length
 ·refine .inr ⟨W.go i H' oH hlt,λσ2 H2=>∃own' ρ',EnvD p H0 own' σ2 H2 ρ'/\FrS p own H1 own' H2/\Iv (i+1) ρ',λσ2 H2 h=>⟨_,by omega,rfl,hlt,h⟩,λx H2 y=>?_⟩
  obtain⟨sm,rx⟩:=W.yld i H' x H2 oH y
  have rx:=rx ds[i] (Ç hlt)
  have E2:EnvD p H0 own' σ' H2 ρ':=E'.go (Kp.of sm) (p.mono H' H2 E'.pen λb o _ e=>sm b o e)
  have F2:FrS p own H1 own' H2:=⟨λb o e n z=>let ⟨x,y⟩:=F'.keep b o e n z;⟨sm b o x,y⟩,λa xs e=>sm a _ (F'.tup a xs e)⟩
  refine⟨p,H0,own',ρ',_,_,_,E2,jy (Ue hk A F2 rx),step i ds[i] ρ' (Ç hlt) iv,λσ3 ρ3 E3 t3=>?_⟩
  have nxt:∀own4 σ4 H4 ρ4,EnvD p H0 own4 σ4 H4 ρ4->FrS p own' H2 own4 H4->Iv (i+1) ρ4->∃own' ρ',EnvD p H0 own' σ4 H4 ρ'/\FrS p own H1 own' H4/\Iv (i+1) ρ':=λown4 σ4 H4 ρ4 E4 F4 v4=>⟨own4,ρ4,E4,F2.trans F4,v4⟩
  exact⟨p,H0,own',ρ3,_,E3,t3,⟨nxt,w.rt,λo s h r e f n=>w1.nx o s h r e (F2.trans f) n,nxt⟩⟩
 ·have e:i=ds.length:=by omega
  subst e
  exact .inl ⟨W.stop H' oH,w1.nx own' σ' H' ρ' E' F' (done ρ' iv)⟩)
def Bs(tc:DT)(tb:DS):DS:=λP ρ=>∃Iv:Nat->List Sl->Prop,(∃m,Iv m ρ)/\∀m ρ',Iv m ρ'->tc ρ' λb =>
 if b=true then tb { nx:=λρ2=>∃m',m'<m/\Iv m' ρ2,ct:=λρ2=>∃m',m'<m/\Iv m' ρ2,bk:=P.nx,rt:=P.rt } ρ' else P.nx ρ'
def nZ{c:Expr}{tc:DT}(hp:PassesOwn (model X.prog X.w) X.A X.env X.xe)(hc:PDT X c tc)(hb:gK X body tb):PDS X (.While c body [] pos) (Bs tc tb):=PS.wk' (Hr hp hc hb) (by
 rintro Q σ H ⟨p,H0,own,ρ,P,E,⟨Iv,⟨m,i0⟩,step⟩,w⟩
 refine⟨λm σ' H'=>∃own' ρ',EnvD p H0 own' σ' H' ρ'/\FrS p own H own' H'/\Iv m ρ',⟨m,own,ρ,E,FrS.refl,i0⟩,?_⟩
 rintro m σ1 H1 ⟨own1,ρ1,E1,F1,iv⟩
 refine⟨p,H0,own1,ρ1,_,E1,step m ρ1 iv,λb H2 h A=>?_⟩
 have F2:=F1.trans A.frs
 cases b with
 |true =>
  refine aM ⟨λσ' H'=>∃m',m'<m/\∃own' ρ',EnvD p H0 own' σ' H' ρ'/\FrS p own H own' H'/\Iv m' ρ',λσ' H' h=>h,?_⟩
  have nxt:∀own4 σ4 H4 ρ4,EnvD p H0 own4 σ4 H4 ρ4->FrS p own1 H2 own4 H4->(∃m',m'<m/\Iv m' ρ4)->∃m',m'<m/\∃own' ρ',EnvD p H0 own' σ4 H4 ρ'/\FrS p own H own' H4/\Iv m' ρ':=λown4 σ4 H4 ρ4 E4 F4 ⟨m',hm,v4⟩=>⟨m',hm,own4,ρ4,E4,F2.trans F4,v4⟩
  exact⟨p,H0,own1,ρ1,{ nx:=λρ2=>∃m',m'<m/\Iv m' ρ2,ct:=λρ2=>∃m',m'<m/\Iv m' ρ2,bk:=P.nx,rt:=P.rt },E1.go A.kp A.pen,by simpa using h,⟨nxt,w.rt,λo s h r e f n=>w.nx o s h r e (F2.trans f) n,nxt⟩⟩
 |false=>exact aX (w.nx own1 σ1 H2 ρ1 (E1.go A.kp A.pen) F2 (by simpa using h)))
end
def EnvD.comp{p:Pn}{H0 H:Hp}{own:Addr->Option Nat}{σ:L2.St}{ρ:List Sl}(n:Nat)(E:EnvD p H0 own σ H ρ):EnvD p H0 own (É n none++σ) H (É n .any++ρ):=by
 refine⟨E.k0,E.pen,E.ow,λj s e=>?_,by simp[E.len],E.gr⟩
 by_cases hj:j<n
 ·rw[ú (by simpa using hj)] at e
  have:s=.any:=by
   rw[Ŏ] at e
   rw[if_pos hj] at e
   exact(á e).symm
  subst this
  trivial
 ·have e1:(É n Sl.any++ρ)[j]?=ρ[j - n]?:=by rw[é (by simpa using hj)];simp
  have e2:(É n (none:Option V)++σ)[j]?=σ[j - n]?:=by rw[é (by simpa using hj)];simp
  rw[e1] at e
  have q:=E.slot _ s e
  cases s <;> simp only[jV,e2] at q ⊢ <;> exact q
abbrev BX(X:Cx)(es:List Expr)(t:DT):Prop:=PTs X es (liftT t)
def d8{X:Cx}:BX X [] (λ_ P=>P true):=λpins s σ H Q I h=>by
 obtain⟨p,H0,own,ρ,P,E,t,q⟩:=h
 exact Lf pins s σ H Q I (q true H t E.at)
def cI{X:Cx}{c:Expr}{t:DT}(hc:PDT X c t):BX X [c] t:=Le hc
def elC(k:Kd):Kd:=elK k
def dLC(n:Nat)(ti:DI)(g:DG)(tt:DT)(te:DE):DE:=λρ P=>ti ρ λk ds=>ds.length<=1000/\∃(ke:Kd) (Iv:Nat->List D->Prop),Iv 0 [] /\
 (∀i d ys,ds[i]?=some d->Iv i ys->g (norm (elC k) d) d (É n .any++ρ) λρ'=>tt ρ' λb=>if b=true then te ρ' λk' d'=>(norm k' d').le ke=true/\Iv (i+1) (ys++[d']) else Iv (i+1) ys) /\
 ∀ys,Iv ds.length ys->P (ke.join .new) (.list ys)
def Ud{p:Pn}{H0 Hb H1:Hp}{own:Addr->Option Nat}{k:Kd}(A:At p H0 own Hb H1){v:V}{d:D}{H2:Hp}(r:Rp (okA p H0 own Hb k H1) H2 v d):Rp (okB p H0 own (elC k)) H2 v d:=by
 refine r.mono (λa n=>?_) (λ_ _ _ e=>e) λ_ _ e=>e
 obtain⟨o,u,hu⟩:=n
 cases k with
 |imm=>exact o
 |new=>exact⟨A.h0 o,A.nfb o,A.Io o⟩
 |reg q=>exact o
 |n0=>trivial
 |snw=>exact o
 |shr=>exact o
 |wk=>trivial
section
variable {X:Cx}{own:List Str}{scope:Scope}{tg iter elt:Expr}{ifs:List Expr}{pos:Pos}{ti:DI}{g:DG}{tt:DT}{te:DE}
def nJ{n:Nat}:∀σ H Q,bx (dLC n ti g tt te) σ H Q->tLC n (Ol ti) (λ_=>JC g) (λ_=>liftT tt) (λ_=>bx te) σ H Q:=by
 rintro σ H Q ⟨p,H0,own,ρ,P,E,t,q⟩
 refine⟨p,H0,own,ρ,_,E,t,λk ds J H1 Ok h A W o1=>?_⟩
 obtain⟨hlen,ke,Iv,i0,step,done⟩:=h
 have okS:∀H',Kp p H1 H'->p.PI H'->Ok H':=λH' K i=>W.stab H1 H' o1 (λb o n e=>K b o e (j8 A n.1)) (gG A K)
 refine⟨λi m ys H'=>m=ds.length - i/\i<=ds.length/\Kp p H1 H'/\p.PI H'/\∃es,Rps (okK p H0 own H ke) H' ys es/\es.length<=i/\Iv i es,⟨_,rfl,ÿ _,Kp.refl,A.pen,[],.nil,Ì _,i0⟩,?_⟩
 rintro c i m ys H' ⟨rfl,hi,K',I',es,rs,hl,iv⟩
 have oH:=okS H' K' I'
 have A':=A.go K' I'
 have h24:=ô
 by_cases hlt:i<ds.length
 ·refine .inr ⟨W.go i H' oH hlt,by have:=rs.length;omega,λys' H2=>Kp p H1 H2/\p.PI H2/\∃es,Rps (okK p H0 own H ke) H2 ys' es/\es.length<=i+1/\Iv (i+1) es,λys' H2 h=>⟨_,by omega,rfl,hlt,h⟩,λx H2 y=>?_⟩
  obtain⟨sm,rx⟩:=W.yld i H' x H2 oH y
  have rx:=rx ds[i] (Ç hlt)
  have I2:p.PI H2:=p.mono H' H2 I' λb o _ e=>sm b o e
  have K2:Kp p H1 H2:=K'.trans (Kp.of sm)
  have A2:=A.go K2 I2
  have E2:EnvD p H0 own σ H2 ρ:=E.go A2.kp A2.pen
  have rs2:=bZ A' (Kp.of sm) rs
  refine⟨p,H0,own,_,_,_,_,E2.comp n,jy (Ud A rx),step i ds[i] es (Ç hlt) iv,λσ3 ρ3 E3 t3=>?_⟩
  refine⟨p,H0,own,ρ3,_,E3,t3,λb H4 h4 A4=>?_⟩
  have A5:At p H0 own H H4:=A2.base A4
  have rs4:=bZ A2 A4.kp rs2
  cases b with
  |true =>
   refine aM ⟨p,H0,own,ρ3,_,E3.go A4.kp A4.pen,by simpa using h4,λk' d' v H6 h6 A6 r6=>?_⟩
   refine⟨(K2.trans A4.kp).trans A6.kp,A6.pen,es++[d'],(bZ A5 A6.kp rs4).snoc (mR (A5.base A6) h6.1 (aY (mW A5 r6))),by simp;omega,h6.2⟩
  |false=>exact aX ⟨K2.trans A4.kp,A4.pen,es,rs4,by omega,by simpa using h4⟩
 ·have e:i=ds.length:=by omega
  subst e
  refine .inl ⟨W.stop H' oH,λl hl'=>?_⟩
  obtain⟨k7,i7,nw⟩:=A'.new hl' (.lst ys)
  have j:=eZ ke .new
  refine q _ _ _ _ (done es iv) (A'.go k7 i7) (.lst (cj A' j.2 nw) au ?_)
  exact(bZ A' k7 rs).mono (λa o=>cj A' j.1 o) (λ_ _ _ e=>e) λ_ _ e=>e
def cB(own:List Str)(hc:X.calm=true)(hi:PDI X tg iter ti)(hg:∀c,PDG (X.comp own scope c) tg g)(ht:∀c,BX (X.comp own scope c) ifs tt)(he:∀c,PD (X.comp own scope c) elt te)(hk:gJ X.env scope X.N=true:=by rfl)(hs:zF X iter:=by intro _;rfl) :
  PD X (.ListComp elt [⟨tg,iter,ifs,0⟩] scope pos) (dLC own.length ti g tt te):=PE.wk (TV own hc hi hg ht he hk hs) nJ
def o9(own M:List Str)(hc:X.calm=true)(hi:PDI X tg iter ti)(hg:∀c,PDG (X.aQ own M scope c) tg g)(ht:∀c,BX (X.aQ own M scope c) ifs tt)(he:∀c,PD (X.aQ own M scope c) elt te)(hk:aV X.env scope X.N M=true:=by decide +kernel)(hs:zF X iter:=by intro _;rfl) :
  PD X (.ListComp elt [⟨tg,iter,ifs,0⟩] scope pos) (dLC own.length ti g tt te):=PE.wk (HD own M hc hi hg ht he hk hs) nJ
end
def bw(d:D):Sl:=if gb d then .im d else .sh d
def iw{p:Pn}{H:Hp}{N:List Str}{vs:List V}{ds:List D}(g:Gr.G p H)(hp:p.PI H)(r:Rps (λa=>¬p.fp a) H vs ds):EnvD p H (λ_=>none) (L2.start N vs) H (ds.map bw++É (N.length - vs.length) .any):=by
 refine⟨λ_ _ e _=>e,hp,(λ_ _ e=>nomatch e),λj s e=>?_,by unfold L2.start;simp[r.length],g⟩
 by_cases hj:j<ds.length
 ·rw[ú (by simpa using hj),ß] at e
  obtain⟨v,hv,rv⟩:=r.getD (Ç hj)
  rw[Ç hj] at e
  have e:=á e
  have hs:(L2.start N vs)[j]?=some (some v):=by
   unfold L2.start
   rw[ú (by rw[Á,r.length];exact hj),ß,hv]
   rfl
  subst e
  unfold bw
  by_cases hi:gb ds[j]=true
  ·rw[if_pos hi];exact⟨v,hs,rv.imm hi⟩
  ·rw[if_neg hi];exact⟨v,hs,rv.mono (λ_ o=>⟨o,rfl⟩) (λ_ _ _ e=>e) λ_ _ e=>e⟩
 ·rw[é (by simpa using hj),Ŏ] at e
  split at e
  ·cases e;trivial
  ·cases e
def w6{f:List D->(D->Prop)->Prop}{T:DS}{N:List Str}{vs:List V}{H:Hp}{Q:VK}{E:XK}(h:spD f vs H Q E)(body:∀ds P,f ds P->T { nx:=λ_=>P .none,rt:=P } (ds.map bw++É (N.length - ds.length) .any))(g:Gr.G dR H:=by trivial):nM T { nx:=λ_ H'=>Q .non H',rt:=Q } (L2.start N vs) H:=by
 obtain⟨ds,P,r,t,q⟩:=h
 have E:=iw (p:=dR) (N:=N) g trivial (r.mono (ok':=λa=>¬dR.fp a) (λ_ _ z=>z) (λ_ _ _ e=>e) λ_ _ e=>e)
 rw[r.length] at E
 have sm:∀H',(∀b o,H b=some o->¬dR.fp b->H' b=some o)->Same H H':=λH' k b o e=>k b o e λz=>z
 refine⟨dR,H,λ_=>none,_,_,E,body ds P t,⟨λo s h' r' e' _ n=>q _ _ h' n (sm h' e'.k0) .non,λd v h' n w=>q d v h' n (sm h' w.k0) (w.rp.mono (λ_ o=>o.1) (λ_ _ _ e=>e) λ_ _ e=>e),λ_ _ _ _ _ _ n=>n.elim,λ_ _ _ _ _ _ n=>n.elim⟩⟩
def RJ{C:Pn->Prop}{f:List D->(D->Prop)->Prop}{T:DS}{N:List Str}{vs:List V}{H:Hp}{Q:VK}{E:XK}(h:spP C f vs H Q E)(body:∀ds P,f ds P->T { nx:=λ_=>P .none,rt:=P } (.pen C::(ds.map bw++É (N.length - (ds.length+1)) .any)))(g:∀p,Gr.G p H:=by intro _;trivial):nM T { nx:=λ_ H'=>Q .non H',rt:=Q } (L2.start N vs) H:=by
 obtain⟨p,vs',ds,P,c,rfl,pi,r,t,q⟩:=h
 have E0:=iw (p:=p) (N:=N.drop 1) (g p) pi r
 have E:EnvD p H (λ_=>none) (L2.start N (p.pv::vs')) H (.pen C::(ds.map bw++É (N.length - (ds.length+1)) .any)):=by
  refine⟨λ_ _ e _=>e,pi,(λ_ _ e=>nomatch e),λj s e=>?_,by unfold L2.start;simp[r.length],g p⟩
  cases j with
  |zero =>
   have e:=á e
   subst e
   exact⟨rfl,c⟩
  |succ j =>
   rw[List.getElem?_cons_succ] at e
   have hl:N.length - (ds.length+1)=(N.drop 1).length - vs'.length:=by rw[r.length,Ā];omega
   rw[hl] at e
   have q:=E0.slot j s e
   have es:(L2.start N (p.pv::vs'))[j+1]?=(L2.start (N.drop 1) vs')[j]?:=by
    unfold L2.start
    have:N.length - (p.pv::vs').length=(N.drop 1).length - vs'.length:=by rw[Ā,ã];omega
    rw[this]
    simp
   cases s <;> simp only[jV,es] at q ⊢ <;> exact q
 have nw:∀{H' v d},RPost p H H' v d->Rp (λa=>H a=none) H' v d:=λw=>w.rp.mono (λ_ o=>o.1) (λ_ _ _ e=>e) λ_ _ e=>e
 exact⟨p,H,λ_=>none,_,_,E,body ds P t,⟨λo s h' r' e' _ n=>q _ _ h' n e'.k0 e'.pen .non,λd v h' n w=>q d v h' n w.k0 w.pen (nw w),λ_ _ _ _ _ _ n=>n.elim,λ_ _ _ _ _ _ n=>n.elim⟩⟩
end Dl
namespace PySem
open PyProof.Rows
abbrev oM(f0:Value)(q:Bool)(TI TO:Addr):Obj:={ cls:=.type "zip",data:=.fields #[f0,.bool q,.bool false,.ref TI,.ref TO] }
section
variable {prog:Program}{w:World}{A:Around}{E:Value->Shared->Prop}{s:Shared}
def vd{z TI TO i1 i2 l1 l2 T:Addr}{q:Bool}{k:Nat}{xs ys:Array Value}{x y:Value}{oT:Obj}{Q:Value->Shared->Prop}(n1:i1≠z)(n2:i2≠z)(n12:i1≠i2)(m1:l1≠z)(m2:l2≠z)(m3:l2≠i1)(hZ:s.heap.get? z=some (oM (rawInt T) q TI TO))(hI:s.heap.get? TI=some { cls:=.type "tuple",data:=.seq #[.ref i1,.ref i2] })(hT:s.heap.get? T=some oT)(j1:s.heap.IsListIter i1 l1 k)(j2:s.heap.IsListIter i2 l2 k)(e1:s.heap.IsList l1 xs)(e2:s.heap.IsList l2 ys)(hx:xs[k]?=some x)(hy:ys[k]?=some y)(hQ:∀h',h'.get? z=some (oM (rawInt T) true TI TO)->h'.IsListIter i1 l1 (k+1)->h'.IsListIter i2 l2 (k+1)->h'.get? s.heap.objs.size=some { cls:=.type "tuple",data:=.seq #[x,y] } ->
   (∀c o,c≠z->c≠i1->c≠i2->s.heap.get? c=some o->h'.get? c=some o)->Q (.ref s.heap.objs.size) { s with heap:=h' }) :
  wpAny (model prog w) A (Builtin.«zip.__next__» ⟨[.ref z],[]⟩) (λfin s'=>∃v,fin=.done (.ret v)/\Q v s') E s:=by
 have fld:∀{i:Nat}{v:Value}{R:Value->Shared->Prop},(#[rawInt T,Value.bool q,.bool false,.ref TI,.ref TO]:Array Value)[i]?=some v->R v s->wpAny (model prog w) A (field (.ref z) i) R E s:=λh r=>wpAny_field hZ rfl h r
 show wpAny _ _ (field (.ref z) 2 >>= _) _ _ _
 refine Ä (fld (v:=.bool false) rfl ?_)
 show wpAny _ _ (field (.ref z) 3 >>= _) _ _ _
 refine Ä (fld (v:=.ref TI) rfl ?_)
 refine Ä (wpAny_seqItems hI rfl ?_)
 show wpAny _ _ (ł (.ref z) >>= _) _ _ _
 refine Ä ?_
 unfold ł
 refine Ä (fld (v:=rawInt T) rfl ?_)
 show wpAny _ _ (loadIfAlive ((T:Int).toNat) >>= _) _ _ _
 rw[ï]
 refine Ä (W.kdx_alive hT ?_)
 simp only[Option.isNone_some,Ĭ,if_false]
 refine Ä (fld (v:=.bool q) rfl ?_)
 refine L2.thn (Q:=λa s'=>a=false/\∃h1,s'={ s with heap:=h1 }/\h1.get? z=some (oM (rawInt T) true TI TO)/\h1.objs.size=s.heap.objs.size/\∀c o,c≠z->s.heap.get? c=some o->h1.get? c=some o) ?_ ?_
 ·cases q with
  |true=>exact Ø ⟨rfl,s.heap,rfl,hZ,rfl,λc o _ e=>e⟩
  |false =>
   rw[if_pos (by decide)]
   refine Ä (wpAny_setField_rec hZ (by simp) λh1 z1 b1=>Ø ⟨rfl,h1,rfl,z1,b1.1,λc o n e=>b1.extBut _ _ n e⟩)
 rintro a s' ⟨rfl,h1,rfl,z1,sz1,k1⟩
 simp only[Ĭ,if_false]
 refine Ä ?_
 simp only[←Array.forIn_toList,List.forIn_cons,List.forIn_nil]
 have at1:h1.IsListIter i1 l1 k:=j1.at λo e=>k1 i1 o n1 e
 have at2:h1.IsListIter i2 l2 k:=j2.at λo e=>k1 i2 o n2 e
 have f1:h1.IsList l1 xs:=e1.at λo e=>k1 l1 o m1 e
 have f2:h1.IsList l2 ys:=e2.at λo e=>k1 l2 o m2 e
 refine Ä (Ä (Ė ?_))
 show wpAny _ _ (Ŧ (.ref i1) >>= _) _ _ _
 refine Ä (wpAny_nextOf_list_item at1 f1 hx λh2 c1 b2=>Ø (Ø ?_))
 refine Ä (Ä (Ė ?_))
 show wpAny _ _ (Ŧ (.ref i2) >>= _) _ _ _
 refine Ä (wpAny_nextOf_list_item (at2.extBut b2.extBut n12.symm) (f2.extBut b2.extBut m3) hy λh3 c2 b3=>Ø (Ø (Ø ?_)))
 have sz3:h3.objs.size=s.heap.objs.size:=by rw[b3.1,b2.1,sz1]
 show wpAny _ _ (newTuple [x,y] >>= _) _ _ _
 refine Ä (wpAny_newTuple (Ø ⟨_,rfl,?_⟩))
 show Q (.ref h3.objs.size) _
 rw[sz3]
 have up:∀c o,c≠i1->c≠i2->h1.get? c=some o->(h3.push { cls:=.type "tuple",data:=.seq #[x,y] }).get? c=some o:=λc o a b e=>Ó _ (b3.extBut _ _ b (b2.extBut _ _ a e))
 refine hQ _ (up z _ n1.symm n2.symm z1) ((c1.extBut b3.extBut n12).at λo e=>Ó _ e) (c2.at λo e=>Ó _ e) ?_ λc o a b d e=>up c o b d (k1 c o a e)
 rw[←sz3]
 exact ä _ rfl
def xV{z TI TO i1 i2 l1 l2 T:Addr}{q:Bool}{k:Nat}{xs ys:Array Value}{oT:Obj}{Q:Fin->Shared->Prop}(hh:A.handled=none)(n1:i1≠z)(n2:i2≠z)(n12:i1≠i2)(m1:l1≠z)(m2:l2≠z)(m3:l2≠i1)(hZ:s.heap.get? z=some (oM (rawInt T) q TI TO))(hI:s.heap.get? TI=some { cls:=.type "tuple",data:=.seq #[.ref i1,.ref i2] })(hT:s.heap.get? T=some oT)(j1:s.heap.IsListIter i1 l1 k)(j2:s.heap.IsListIter i2 l2 k)(e1:s.heap.IsList l1 xs)(e2:s.heap.IsList l2 ys)(hend:xs[k]?=none\/ys[k]?=none)(hE:∀h' e,(∀c o,c≠z->c≠i1->c≠i2->s.heap.get? c=some o->h'.get? c=some o)->(∃o,h'.get? e=some o/\o.cls=.type "StopIteration")->E (.ref e) { s with heap:=h' }) :
  wpAny (model prog w) A (Builtin.«zip.__next__» ⟨[.ref z],[]⟩) Q E s:=by
 have fld:∀{i:Nat}{v:Value}{R:Value->Shared->Prop},(#[rawInt T,Value.bool q,.bool false,.ref TI,.ref TO]:Array Value)[i]?=some v->R v s->wpAny (model prog w) A (field (.ref z) i) R E s:=λh r=>wpAny_field hZ rfl h r
 show wpAny _ _ (field (.ref z) 2 >>= _) _ _ _
 refine Ä (fld (v:=.bool false) rfl ?_)
 show wpAny _ _ (field (.ref z) 3 >>= _) _ _ _
 refine Ä (fld (v:=.ref TI) rfl ?_)
 refine Ä (wpAny_seqItems hI rfl ?_)
 show wpAny _ _ (ł (.ref z) >>= _) _ _ _
 refine Ä ?_
 unfold ł
 refine Ä (fld (v:=rawInt T) rfl ?_)
 show wpAny _ _ (loadIfAlive ((T:Int).toNat) >>= _) _ _ _
 rw[ï]
 refine Ä (W.kdx_alive hT ?_)
 simp only[Option.isNone_some,Ĭ,if_false]
 refine Ä (fld (v:=.bool q) rfl ?_)
 refine L2.thn (Q:=λa s'=>a=false/\∃h1,s'={ s with heap:=h1 }/\h1.get? z=some (oM (rawInt T) true TI TO)/\h1.objs.size=s.heap.objs.size/\∀c o,c≠z->s.heap.get? c=some o->h1.get? c=some o) ?_ ?_
 ·cases q with
  |true=>exact Ø ⟨rfl,s.heap,rfl,hZ,rfl,λc o _ e=>e⟩
  |false =>
   rw[if_pos (by decide)]
   refine Ä (wpAny_setField_rec hZ (by simp) λh1 z1 b1=>Ø ⟨rfl,h1,rfl,z1,b1.1,λc o n e=>b1.extBut _ _ n e⟩)
 rintro a s' ⟨rfl,h1,rfl,z1,sz1,k1⟩
 simp only[Ĭ,if_false]
 refine Ä ?_
 simp only[←Array.forIn_toList,List.forIn_cons,List.forIn_nil]
 have at1:h1.IsListIter i1 l1 k:=j1.at λo e=>k1 i1 o n1 e
 have at2:h1.IsListIter i2 l2 k:=j2.at λo e=>k1 i2 o n2 e
 have f1:h1.IsList l1 xs:=e1.at λo e=>k1 l1 o m1 e
 have f2:h1.IsList l2 ys:=e2.at λo e=>k1 l2 o m2 e
 refine Ä (Ä (Ė ?_))
 show wpAny _ _ (Ŧ (.ref i1) >>= _) _ _ _
 cases hx:xs[k]? with
 |none=>exact Ä (wpAny_nextOf_list_end hh at1 f1 hx λh2 e b2 he=>hE h2 e (λc o a b _ x=>b2 c o b (k1 c o a x)) he)
 |some x =>
  have hy:ys[k]?=none:=hend.elim (λz=>by rw[hx] at z;cases z) id
  refine Ä (wpAny_nextOf_list_item at1 f1 hx λh2 c1 b2=>Ø (Ø ?_))
  refine Ä (Ä (Ė ?_))
  show wpAny _ _ (Ŧ (.ref i2) >>= _) _ _ _
  exact Ä (wpAny_nextOf_list_end hh (at2.extBut b2.extBut n12.symm) (f2.extBut b2.extBut m3) hy λh3 e b3 he=>hE h3 e (λc o a b d x=>b3 c o d (b2.extBut _ _ b (k1 c o a x))) he)
structure ZSt(z TI TO i1 i2 l1 l2:Addr)(xs ys:Array Value)(i:Nat)(h:Heap):Prop where
 zip:(i=0/\h.get? z=some (oM .none false TI TO))\/∃(T:Addr) (q:Bool) (oT:Obj),h.get? z=some (oM (rawInt T) q TI TO)/\h.get? T=some oT/\T≠z/\T≠i1/\T≠i2
 ti:h.get? TI=some { cls:=.type "tuple",data:=.seq #[.ref i1,.ref i2] }
 to:∃a b,h.get? TO=some { cls:=.type "tuple",data:=.seq #[a,b] }
 j1:h.IsListIter i1 l1 i
 j2:h.IsListIter i2 l2 i
 e1:h.IsList l1 xs
 e2:h.IsList l2 ys
variable {z TI TO i1 i2 l1 l2:Addr}{xs ys:Array Value}
def ZSt.keeps{i:Nat}{h h':Heap}(Z:ZSt z TI TO i1 i2 l1 l2 xs ys i h){S:Addr}{oS:Obj}(hS:h.get? S=some oS)(hc:oS.cls=.type "list")(n1:S≠l1)(n2:S≠l2)(nT:∀(T:Addr) (q:Bool),h.get? z=some (oM (rawInt T) q TI TO)->S≠T)(k:∀b o,b≠S->h.get? b=some o->h'.get? b=some o):ZSt z TI TO i1 i2 l1 l2 xs ys i h':=by
 have ne:∀{b:Addr}{o:Obj},h.get? b=some o->o.cls≠.type "list"->b≠S:=λe n z=>by subst z;rw[hS] at e;cases e;exact n hc
 obtain⟨o1,a1,c1,d1⟩:=Z.j1
 obtain⟨o2,a2,c2,d2⟩:=Z.j2
 obtain⟨a,b,ab⟩:=Z.to
 have k1:=k i1 o1 (ne a1 (by rw[c1];decide)) a1
 have k2:=k i2 o2 (ne a2 (by rw[c2];decide)) a2
 refine⟨?_,k _ _ (ne Z.ti (show ĕ "tuple"≠_ by decide)) Z.ti,⟨a,b,k _ _ (ne ab (show ĕ "tuple"≠_ by decide)) ab⟩,⟨o1,k1,c1,d1⟩,⟨o2,k2,c2,d2⟩,Z.e1.at λo e=>k _ o n1.symm e,Z.e2.at λo e=>k _ o n2.symm e⟩
 rcases Z.zip with ⟨h0,hz⟩|⟨T,q,oT,hz,hT,r⟩
 ·exact .inl ⟨h0,k _ _ (ne hz (show ĕ "zip"≠_ by decide)) hz⟩
 ·exact .inr ⟨T,q,oT,k _ _ (ne hz (show ĕ "zip"≠_ by decide)) hz,k _ _ (nT T q hz).symm hT,r⟩
def Gv{i:Nat}{x y:Value}{Q:Option Value->Shared->Prop}(D:ZipApart z TI TO i1 i2 l1 l2)(Z:ZSt z TI TO i1 i2 l1 l2 xs ys i s.heap)(hx:xs[i]?=some x)(hy:ys[i]?=some y)(hQ:∀h',ZSt z TI TO i1 i2 l1 l2 xs ys (i+1) h'->h'.get? s.heap.objs.size=some { cls:=.type "tuple",data:=.seq #[x,y] }->(∀(T:Addr) (q:Bool),h'.get? z=some (oM (rawInt T) q TI TO)->T=s.heap.objs.size\/∃q',s.heap.get? z=some (oM (rawInt T) q' TI TO)) ->
   (∀c o,c≠z->c≠TO->c≠i1->c≠i2->s.heap.get? c=some o->h'.get? c=some o)->Q (some (.ref s.heap.objs.size)) { s with heap:=h' }):wpAny (model prog w) A (pyNext (.ref z)) Q E s:=by
 obtain⟨a,b,ab⟩:=Z.to
 have lt:∀{c:Addr}{o:Obj},s.heap.get? c=some o->s.heap.objs.size≠c:=λe=>Nat.ne_of_gt (Ï e)
 obtain⟨o1,a1,_⟩:=id Z.j1
 obtain⟨o2,a2,_⟩:=id Z.j2
 rcases Z.zip with ⟨rfl,hz⟩|⟨T,q,oT,hz,hT,t1,t2,t3⟩
 ·refine wpAny_pyNext_zip_item D hz Z.ti ab Z.j1 Z.j2 Z.e1 Z.e2 hx hy λh' b1 b2 b3 b4 b5 b6 b7=>hQ h' ⟨.inr ⟨_,false,_,b1,b5,lt hz,lt a1,lt a2⟩,b7 _ _ D.TIz D.TITO D.TIi1 D.TIi2 Z.ti,⟨_,_,b2⟩,b3,b4,Z.e1.at λo e=>b7 _ o D.l1z D.l1TO D.l1i1 D.l1i2 e,Z.e2.at λo e=>b7 _ o D.l2z D.l2TO D.l2i1 D.l2i2 e⟩ b5 (λT q e=>?_) b7
  rw[b1] at e
  cases e
  exact .inl rfl
 ·have hTy:s.TypeIs (.ref z) "zip":=⟨_,hz,rfl⟩
  unfold pyNext
  refine Ä (wpAny_attempt (wpAny_callSpecial?_slot (name:=ç "__next__") hTy F.slot_zip_next (wpAny_call_entry F.slot_zip_next hTy F.entry_zip_next ?_ (F.args_zip_next_1 _))))
  refine vd D.i1z D.i2z D.i12 D.l1z D.l2z D.l2i1 hz Z.ti hT Z.j1 Z.j2 Z.e1 Z.e2 hx hy λh' b1 b3 b4 b5 b7=>Ø (hQ h' ⟨.inr ⟨T,true,oT,b1,b7 _ _ t1 t2 t3 hT,t1,t2,t3⟩,b7 _ _ D.TIz D.TIi1 D.TIi2 Z.ti,⟨a,b,b7 _ _ D.TOz D.TOi1 D.TOi2 ab⟩,b3,b4,Z.e1.at λo e=>b7 _ o D.l1z D.l1i1 D.l1i2 e,Z.e2.at λo e=>b7 _ o D.l2z D.l2i1 D.l2i2 e⟩ b5 (λT' q' e=>?_) λc o n1 _ n3 n4 e=>b7 c o n1 n3 n4 e)
  rw[b1] at e
  cases e
  exact .inr ⟨_,hz⟩
def KQ{i:Nat}{Q:Option Value->Shared->Prop}(hh:A.handled=none)(D:ZipApart z TI TO i1 i2 l1 l2)(Z:ZSt z TI TO i1 i2 l1 l2 xs ys i s.heap)(hend:xs[i]?=none\/ys[i]?=none)(hQ:∀h',(∀c o,c≠z->c≠TO->c≠i1->c≠i2->s.heap.get? c=some o->h'.get? c=some o)->Q none { s with heap:=h' }):wpAny (model prog w) A (pyNext (.ref z)) Q E s:=by
 obtain⟨a,b,ab⟩:=Z.to
 rcases Z.zip with ⟨rfl,hz⟩|⟨T,q,oT,hz,hT,t1,t2,t3⟩
 ·exact wpAny_pyNext_zip_end hh D hz Z.ti ab Z.j1 Z.j2 Z.e1 Z.e2 hend hQ
 ·have hTy:s.TypeIs (.ref z) "zip":=⟨_,hz,rfl⟩
  unfold pyNext
  refine Ä (wpAny_attempt (wpAny_callSpecial?_slot (name:=ç "__next__") hTy F.slot_zip_next (wpAny_call_entry F.slot_zip_next hTy F.entry_zip_next ?_ (F.args_zip_next_1 _))))
  refine xV hh D.i1z D.i2z D.i12 D.l1z D.l2z D.l2i1 hz Z.ti hT Z.j1 Z.j2 Z.e1 Z.e2 hend λh' e k2 he=>?_
  obtain⟨o,ho,hc⟩:=he
  refine Ä (wpAny_isInstance (T:="StopIteration") (b:=true) ⟨o,ho,hc⟩ isSubtype_stop ?_)
  exact Ø (hQ _ λc o n1 _ n3 n4 e=>k2 c o n1 n3 n4 e)
def ItP(h:Heap):List Value->List (Value×Value)->Prop:=Paired λv p=>∃T,v=.ref T/\h.get? T=some { cls:=.type "tuple",data:=.seq #[p.1,p.2] }
def ItP.snoc{h:Heap}:∀{vs:List Value}{ps:List (Value×Value)}{v:Value}{p:Value×Value},ItP h vs ps->(∃T,v=.ref T/\h.get? T=some { cls:=.type "tuple",data:=.seq #[p.1,p.2] })->ItP h (vs++[v]) (ps++[p])
 |_,_,_,_,.nil,r=>.cons r .nil
 |_,_,_,_,.cons a t,r=>.cons a (ItP.snoc t r)
def ItP.keeps{h h':Heap}{vs:List Value}{ps:List (Value×Value)}(H:ItP h vs ps)(k:∀T o,h.get? T=some o->o.cls=.type "tuple"->(∃v∈vs,v=.ref T)->h'.get? T=some o):ItP h' vs ps:=by
 induction H with
 |nil=>exact .nil
 |cons a t ih =>
  obtain⟨T,e,hT⟩:=a
  exact .cons ⟨T,e,k T _ hT rfl ⟨_,Æ,e⟩⟩ (ih λT o h c ⟨v,hv,e⟩=>k T o h c ⟨v,Ã _ hv,e⟩)
end
section
variable {prog:Program}{w:World}{A:Around}{z TI TO i1 i2 l1 l2:Addr}{xs ys:Array Value}{R:Result->Shared->Prop}
abbrev Ms(acc:Array Value)(c:Nat):Obj:={ cls:=.type "list",dict:=none,data:=.seq acc c,slots:=#[] }
def Gq(hh:A.in1.handled=none)(D:ZipApart z TI TO i1 i2 l1 l2)(hn:min xs.size ys.size<=1000)(S:Addr)(nS:S≠z/\S≠TO/\S≠i1/\S≠i2/\S≠l1/\S≠l2)(res:Value):∀(m i:Nat) (s:Shared) (acc:Array Value) (c:Nat),min xs.size ys.size - i=m->i<=min xs.size ys.size ->
  ZSt z TI TO i1 i2 l1 l2 xs ys i s.heap->(∀(T:Addr) (q:Bool),s.heap.get? z=some (oM (rawInt T) q TI TO)->S≠T)->s.heap.get? S=some (Ms acc c)->ItP s.heap acc.toList ((xs.toList.zip ys.toList).take i)->(∀v∈acc.toList,∀T,v=.ref T->T≠z/\T≠TO/\T≠i1/\T≠i2/\T≠S) ->
  (∀h' acc' c',(∀b o,b≠S->b≠z->b≠TO->b≠i1->b≠i2->s.heap.get? b=some o->h'.get? b=some o)->h'.get? S=some (Ms acc' c')->ItP h' acc'.toList (xs.toList.zip ys.toList)->(∀v∈acc'.toList,v∈acc.toList\/∃T,v=.ref T/\s.heap.objs.size<=T)->R (.ok (.ret res)) { s with heap:=h' }) ->
  codeAny (model prog w) A (.builtin "list.extend.loop" ⟨[.ref S,.ref z,res],[]⟩) R s:=by
 obtain⟨s1,s2,s3,s4,s5,s6⟩:=nS
 intro m
 induction m with
 |zero =>
  intro i s acc c hm hi Z nT hS hP hv hR
  have e:i=min xs.size ys.size:=by omega
  refine ő F.entry_extend_loop ?_
  rw[Ņ F.plain_extend_loop _]
  show wpAny _ A.in1 (pyNext (.ref z) >>= _) _ _ s
  refine Ä (KQ hh D Z ?_ λh' k=>?_)
  ·rcases Nat.le_total xs.size ys.size with h|h
   ·exact .inl (Array.getElem?_eq_none (by omega))
   ·exact .inr (Array.getElem?_eq_none (by omega))
  ·have el:(xs.toList.zip ys.toList).take i=xs.toList.zip ys.toList:=ū (by simp;omega)
   rw[el] at hP
   exact Ø (hR h' acc c (λb o n1 n2 n3 n4 n5 e=>k b o n2 n3 n4 n5 e) (k S _ s1 s2 s3 s4 hS) (hP.keeps λT o h _ ⟨v,hv',e⟩=>let ⟨a1,a2,a3,a4,_⟩:=hv v hv' T e;k T o a1 a2 a3 a4 h) λv hv=>.inl hv)
 |succ m ih =>
  intro i s acc c hm hi Z nT hS hP hv hR
  have hx:i<xs.size:=by omega
  have hy:i<ys.size:=by omega
  refine ő F.entry_extend_loop ?_
  rw[Ņ F.plain_extend_loop _]
  show wpAny _ A.in1 (pyNext (.ref z) >>= _) _ _ s
  refine Ä (Gv D Z (Array.getElem?_eq_getElem hx) (Array.getElem?_eq_getElem hy) λh1 Z1 hT hz1 k1=>?_)
  have hS1:=k1 S _ s1 s2 s3 s4 hS
  have lt:∀{b:Addr}{o:Obj},s.heap.get? b=some o->s.heap.objs.size≠b:=λe=>Nat.ne_of_gt (Ï e)
  have hsz:=hP.length
  have hsz2:acc.size=i:=by
   have:acc.toList.length=i:=by rw[hsz,Ģ,List.length_zip];simp;omega
   simpa using this
  show wpAny _ A.in1 (updateSeq S (·.push (.ref s.heap.objs.size)) >>= _) _ _ _
  refine Ä ?_
  have h24:=ô
  have nT1:∀(T:Addr) (q:Bool),h1.get? z=some (oM (rawInt T) q TI TO)->S≠T:=λT q e=>by
   rcases hz1 T q e with z'|⟨q',e'⟩
   ·rw[z'];exact(lt hS).symm
   ·exact nT T q' e'
  have oth:∀b o,b≠S->h1.get? b=some o->(h1.update S (Ý (·.push (ŋ s.heap.objs.size)))).get? b=some o:=λb o n e=>(ļ _ _ (Ĥ n)).trans e
  obtain⟨o1,a1,_⟩:=Z.j1
  obtain⟨o2,a2,_⟩:=Z.j2
  have az:∃o,s.heap.get? z=some o:=by
   rcases Z.zip with ⟨_,hz⟩|⟨_,_,_,hz,_⟩
   ·exact⟨_,hz⟩
   ·exact⟨_,hz⟩
  obtain⟨oz,az⟩:=az
  obtain⟨ta,tb,at'⟩:=Z.to
  have newT:s.heap.objs.size≠z/\s.heap.objs.size≠TO/\s.heap.objs.size≠i1/\s.heap.objs.size≠i2/\s.heap.objs.size≠S:=⟨lt az,lt at',lt a1,lt a2,lt hS⟩
  obtain⟨c2,hS2⟩:∃c2,(h1.update S (Ý (·.push (ŋ s.heap.objs.size)))).get? S=some (Ms (acc.push (.ref s.heap.objs.size)) c2):=⟨_,Ų _ hS1 rfl⟩
  have tk:(xs.toList.zip ys.toList).take (i+1)=(xs.toList.zip ys.toList).take i++[(xs[i],ys[i])]:=by
   rw[Ľ]
   congr 1
   have:(xs.toList.zip ys.toList)[i]?=some (xs[i],ys[i]):=by
    rw[List.getElem?_zip_eq_some]
    simp[hx,hy]
   rw[this]
   rfl
  refine Ž hS1 rfl (Ø ⟨plainId_quiet F.plain_extend_loop _,ih (i+1) { s with heap:=h1.update S (Ý (·.push (ŋ s.heap.objs.size))) } (acc.push (.ref s.heap.objs.size)) c2 (by omega) (by omega) (Z1.keeps hS1 rfl s5 s6 nT1 oth) (λT q e=>nT1 T q ?_) hS2 ?_ ?_ ?_⟩) (by rw[hsz2];omega) (by show(acc.push _).size<=sizeLine+1;rw[Array.size_push,hsz2];omega)
  ·have zz:z≠S:=Ĥ s1
   rw[show(h1.update S (Ý (·.push (ŋ s.heap.objs.size)))).get? z=h1.get? z from ļ _ _ (Ĥ zz)] at e
   exact e
  ·rw[tk,Array.toList_push]
   refine ItP.snoc (hP.keeps λT o h _ ⟨v,hv',e⟩=>?_) ⟨_,rfl,oth _ _ newT.2.2.2.2 hT⟩
   obtain⟨b1,b2,b3,b4,b5⟩:=hv v hv' T e
   exact oth _ _ b5 (k1 T o b1 b2 b3 b4 h)
  ·intro v hv' T e
   rw[Array.toList_push] at hv'
   rcases å.mp hv' with q|q
   ·exact hv v q T e
   ·have q':v=.ref s.heap.objs.size:=by simpa using q
    rw[q'] at e
    cases e
    exact newT
  ·intro h' acc' c' kk hS' hP' hn'
   refine hR h' acc' c' (λb o n1 n2 n3 n4 n5 e=>kk b o n1 n2 n3 n4 n5 (oth b o n1 (k1 b o n2 n3 n4 n5 e))) hS' hP' λv hv'=>?_
   rcases hn' v hv' with q|⟨T,e,hT'⟩
   ·rw[Array.toList_push] at q
    rcases å.mp q with q|q
    ·exact .inl q
    ·have q':v=.ref s.heap.objs.size:=by simpa using q
     exact .inr ⟨_,q',Ì _⟩
   ·exact .inr ⟨T,e,þ (Nat.le_of_lt (Ï (oth _ _ newT.2.2.2.2 hT))) hT'⟩
def zM:typeLookup (.type "zip") "__len__"=pure none:=by rw[typeLookup_type,builtinLookup_eq_fast];kernel_rfl
def xT:typeLookup (.type "zip") "__length_hint__"=pure none:=by rw[typeLookup_type,builtinLookup_eq_fast];kernel_rfl
def Gu{s:Shared}{E:Value->Shared->Prop}{Q:Value->Shared->Prop}(hh:A.handled=none)(D:ZipApart z TI TO i1 i2 l1 l2)(hn:min xs.size ys.size<=1000)(hz:s.heap.get? z=some (oM .none false TI TO))(Z:ZSt z TI TO i1 i2 l1 l2 xs ys 0 s.heap)(hQ:∀h' acc' c',(∀b o,b≠z->b≠TO->b≠i1->b≠i2->s.heap.get? b=some o->h'.get? b=some o)->h'.get? s.heap.objs.size=some (Ms acc' c')->ItP h' acc'.toList (xs.toList.zip ys.toList)->(∀v∈acc'.toList,∃T,v=.ref T/\s.heap.objs.size<T)->Q (.ref s.heap.objs.size) { s with heap:=h' }) :
  wpAny (model prog w) A (call (.type "list") [.ref z]) Q E s:=by
 have lt:∀{b:Addr}{o:Obj},s.heap.get? b=some o->s.heap.objs.size≠b:=λe=>Nat.ne_of_gt (Ï e)
 obtain⟨o1,a1,_⟩:=id Z.j1
 obtain⟨o2,a2,_⟩:=id Z.j2
 obtain⟨p1,b1,_⟩:=id Z.e1
 obtain⟨p2,b2,_⟩:=id Z.e2
 obtain⟨ta,tb,at'⟩:=id Z.to
 refine callType_codes (Q₁:=λobj s₁=>obj=.ref s.heap.objs.size/\s₁={ s with heap:=s.heap.push { cls:=.type "list",data:=.seq #[] } }) F.called_list (F.typeCall_list_1 _) F.entry_list_init (code_list_new _ ⟨rfl,rfl⟩) λobj sx hx=>?_
 obtain⟨rfl,rfl⟩:=hx
 have hS:(s.heap.push { cls:=.type "list",data:=.seq #[] }).get? s.heap.objs.size=some { cls:=.type "list",data:=.seq #[] }:=ä _ rfl
 refine⟨⟨_,hS,rfl⟩,F.args_list_init_2 _ _,?_⟩
 show wpAny _ _ (Builtin.List.listItems (.ref s.heap.objs.size) >>= λold=>Builtin.List.listUpdate (.ref s.heap.objs.size) (λ_=>#[]) >>= λ_=>letGo old.toList.reverse >>= λ_=>ŧ (.ref s.heap.objs.size) (.ref z) .none) _ _ _
 have old:∀b o,s.heap.get? b=some o->(s.heap.push { cls:=.type "list",data:=.seq #[] }).get? b=some o:=λb o e=>Ó _ e
 refine Ä ?_
 unfold Builtin.List.listItems
 refine Ä (wpAny_seqItems hS rfl (Ø ?_))
 refine Ä (m:=updateSeq s.heap.objs.size (λ_=>#[])) (Ž hS rfl ?_)
 have hS2:=Ų (Ý (λ_=>(#[]:Array Value))) hS rfl
 refine Ä (wpAny_letGo ?_)
 generalize hg:(s.heap.push { cls:=.type "list",data:=.seq #[] }).update s.heap.objs.size (Ý λ_=>(#[]:Array Value))=g at hS2
 have kg:∀b o,s.heap.get? b=some o->g.get? b=some o:=λb o e=>by rw[←hg];exact(ļ _ _ (lt e)).trans (old b o e)
 have sg:g.objs.size=s.heap.objs.size+1:=by rw[←hg,Ę,Ť]
 have Zg:∀{h:Heap},(∀b o,s.heap.get? b=some o->h.get? b=some o)->ZSt z TI TO i1 i2 l1 l2 xs ys 0 h:=λ{h} k=>⟨.inl ⟨rfl,k _ _ hz⟩,k _ _ Z.ti,⟨ta,tb,k _ _ at'⟩,Z.j1.at λo e=>k _ o e,Z.j2.at λo e=>k _ o e,Z.e1.at λo e=>k _ o e,Z.e2.at λo e=>k _ o e⟩
 have hT:∀{h:Heap},(∀b o,s.heap.get? b=some o->h.get? b=some o)->({ s with heap:=h }:Shared).TypeIs (.ref z) "zip":=λk=>⟨_,k _ _ hz,rfl⟩
 unfold ŧ
 refine Ä (wpAny_typeOf (hT kg) ?_)
 have q1:Builtin.List.listSameRef (.ref s.heap.objs.size) (.ref z)=false:=by simp[Builtin.List.listSameRef,lt hz]
 have q2:(ĕ "zip" == ĕ "list")=false:=by decide
 have q3:(ĕ "zip" == ĕ "tuple")=false:=by decide
 simp only[q1,q2,q3,Bool.or_false,Ĭ,if_false]
 refine Ä (wpAny_pyIter_zip (kg _ _ hz) ?_)
 refine Ä (Ė ?_)
 unfold Builtin.List.listLengthHint
 refine Ä (wpAny_specialOf (hT kg) zM ?_)
 show wpAny _ _ (specialOf (ŋ z) (ç "__length_hint__") >>= _) _ _ _
 refine Ä (wpAny_specialOf (hT kg) xT ?_)
 refine Ø ?_
 show wpAny _ _ (rule "list.extend.makes-room" >>= λ_=>Builtin.List.listTouch (.ref s.heap.objs.size) >>= λ_=>again (.builtin "list.extend.loop" ⟨[.ref s.heap.objs.size,.ref z,.none],[]⟩)) _ _ _
 refine Ä (wpAny_rule (Ä ?_))
 show wpAny _ _ (updateSeq s.heap.objs.size (·.push .none) >>= λ_=>updateSeq s.heap.objs.size (·.pop)) _ _ _
 refine Ä (Ž hS2 rfl ?_)
 have hS3:=Ų (Ý (·.push ė)) hS2 rfl
 refine Ž hS3 rfl ?_
 have hS4:=Ų (Ý (·.pop)) hS3 rfl
 generalize hk:(g.update s.heap.objs.size (Ý (·.push ė))).update s.heap.objs.size (Ý (·.pop))=g' at hS4
 have kk:∀b o,b≠s.heap.objs.size->g.get? b=some o->g'.get? b=some o:=λb o n e=>by rw[←hk];exact(ļ _ _ (Ĥ n)).trans ((ļ _ _ (Ĥ n)).trans e)
 have kk2:∀b o,s.heap.get? b=some o->g'.get? b=some o:=λb o e=>kk b o (Ĥ (lt e)) (kg b o e)
 have sk:g'.objs.size=s.heap.objs.size+1:=by rw[←hk,Ę,Ę,sg]
 refine Ø ⟨plainId_quiet F.plain_extend_loop _,Gq (A:=A.in1) (xs:=xs) (ys:=ys) hh D hn s.heap.objs.size ⟨lt hz,lt at',lt a1,lt a2,lt b1,lt b2⟩ _ _ 0 { s with heap:=g' } #[] _ rfl (ÿ _) (Zg kk2) (λT q e=>?_) hS4 .nil (λv hv=>nomatch hv) λh' acc' c' k' hS' hP' hn'=>?_⟩
 ·have e':=kk2 _ _ hz
  rw[e] at e'
  cases e'
 ·refine⟨rfl,hQ h' acc' c' (λb o n1 n2 n3 n4 e=>k' b o (Ĥ (lt e)) n1 n2 n3 n4 (kk2 b o e)) hS' hP' λv hv=>?_⟩
  rcases hn' v hv with q|⟨T,e,hT'⟩
  ·exact nomatch q
  ·refine⟨T,e,?_⟩
   have:g'.objs.size<=T:=hT'
   omega
end
end PySem
namespace L2
open PySem PySem.Spec PyProof.Rows
section
variable {X:Cx}{pins:List (Addr×Obj)}{σ:L2.St}{H:Hp}{s:Shared}
def Inv.GK{a:Addr}{o:HO}{H0:Hp}{s0:Shared}{σ0:L2.St}(I:Inv X pins σ H s)(I0:Inv X pins σ0 H0 s0)(hle:s0.heap.objs.size<=a)(hn:H a=none)(new:bY X.prog X.w (upd H a o) s.heap a o):Inv X pins σ (upd H a o) s:=by
 have lt:∀{b:Addr}{u:Obj},s0.heap.get? b=some u->b≠a:=λe z=>absurd (æ (Ï e) hle) (by rw[z];exact č _)
 refine I.track hn (λob e=>?_) (Ĥ (â (æ I0.lt hle))) (λx c e=>?_) (λp hp=>lt (I0.pin p hp).1) new
 ·exact absurd (æ (Ï e) (þ I0.sz hle)) (č _)
 ·obtain⟨v,u,hu,_⟩:=I0.cell x c e
  exact lt hu
def Inv.tuples{H0:Hp}{s0:Shared}{σ0:L2.St}(I0:Inv X pins σ0 H0 s0):∀(vs:List Value) (ps:List (Value×Value)) (qs:List (V×V)) (H:Hp),Inv X pins σ H s->ItP s.heap vs ps->Paired (λ(q:V×V) (p:Value×Value)=>RelV q.1 p.1/\RelV q.2 p.2) qs ps->(∀v∈vs,∃T,v=.ref T/\s0.heap.objs.size<=T)->(∀T,s0.heap.objs.size<=T->H T=none\/∃xs,H T=some (.tup xs)) ->
  ∃(H':Hp) (ws:List V),Inv X pins σ H' s/\Same H H'/\Vals ws vs/\Paired (λw (q:V×V)=>∃t,w=.ref t/\H' t=some (.tup [q.1,q.2])) ws qs/\(∀T,s0.heap.objs.size<=T->H' T=none\/∃xs,H' T=some (.tup xs))/\(∀T,(∀v∈vs,v≠.ref T)->H' T=H T)
 |_,_,_,H,I,.nil,.nil,_,hN=>⟨H,[],I,Same.refl _,.nil,.nil,hN,λ_ _=>rfl⟩
 |_,_,_,H,I,.cons (a:=v) (l₁:=vs) (b:=p) (l₂:=ps) r t,.cons (a:=q) (l₁:=qs) rq tq,hv,hN=>by
  obtain⟨T,e,hT⟩:=r
  subst e
  obtain⟨T',e',hle⟩:=hv _ Æ
  cases e'
  have vq:Vals [q.1,q.2] [p.1,p.2]:=.cons rq.1 (.cons rq.2 .nil)
  have okT:∀H2:Hp,bY X.prog X.w H2 s.heap T (.tup [q.1,q.2]):=λH2=>⟨by show 2<=sizeLine;decide,[p.1,p.2],vq,⟨_,hT,rfl,0,rfl⟩⟩
  have key:∃H1,Inv X pins σ H1 s/\Same H H1/\H1 T=some (.tup [q.1,q.2])/\(∀U,s0.heap.objs.size<=U->H1 U=none\/∃xs,H1 U=some (.tup xs))/\∀U,U≠T->H1 U=H U:=by
   rcases hN T hle with hn|⟨xs,hx⟩
   ·refine⟨upd H T (.tup [q.1,q.2]),I.GK I0 hle hn (okT _),λb u e=>by rw[aq (aB e hn)];exact e,au,λU hU=>?_,λU hU=>aq hU⟩
    by_cases z:U=T
    ·subst z;exact .inr ⟨_,au⟩
    ·rw[aq z];exact hN U hU
   ·refine⟨H,I,Same.refl _,?_,hN,λ_ _=>rfl⟩
    obtain⟨_,its,rv,o,ho,hc,n,hd⟩:=I.hok T _ hx
    rw[hT] at ho
    cases ho
    cases hd
    have:xs=[q.1,q.2]:=Vals.inj (by simpa using rv) vq
    rw[hx,this]
  obtain⟨H1,I1,s1,h1,N1,u1⟩:=key
  obtain⟨H2,ws,I2,s2,v2,p2,N2,u2⟩:=Inv.tuples I0 vs ps qs H1 I1 t tq (λv hv'=>hv v (Ã _ hv')) N1
  refine⟨H2,.ref T::ws,I2,s1.trans s2,.cons rfl v2,.cons ⟨T,rfl,s2 _ _ h1⟩ p2,N2,λU hU=>?_⟩
  rw[u2 U λv hv'=>hU v (Ã _ hv'),u1 U λz=>hU _ Æ (by rw[z])]
def tLZ(K:Ú)(ta:TA):TE:=λσ H Q=>ta σ H λvs H1=>∃p q xs ys,vs=[.ref p,.ref q]/\SqL K H1 p xs/\SqL K H1 q ys/\xs.length<=1000 /\
 ∀l ws H',Same H1 H'->H1 l=none->H' l=some (.lst ws)->Paired (λw (q:V×V)=>∃t,w=.ref t/\H' t=some (.tup [q.1,q.2])) ws (xs.zip ys)->Q (.ref l) H'
def xW:∀{xs ys:List V}{us vs:List Value},Vals xs us->Vals ys vs->Paired (λ(q:V×V) (p:Value×Value)=>RelV q.1 p.1/\RelV q.2 p.2) (xs.zip ys) (us.zip vs)
 |_,_,_,_,.nil,_=>.nil
 |_,_,_,_,.cons _ _,.nil=>.nil
 |_,_,_,_,.cons a b,.cons c d=>.cons ⟨a,c⟩ (xW b d)
def Ad{a b:Expr}{ta:TA}{p1 p2 pos1 pos2:Pos}(hc:X.calm=true)(hgl:Gl X "list")(hml:X.mg "list"=none)(hgz:Gl X "zip")(hmz:X.mg "zip"=none)(ha:PA X [a,b] ta)(e1:starEach [.Call (.Name "zip" p2) [a,b] [] pos2] X.env=[(false,eval (.Call (.Name "zip" p2) [a,b] [] pos2) X.env)]:=by rfl)(e2:starEach [a,b] X.env=(false,eval a X.env)::starEach [b] X.env:=by rfl)(e3:(backTo pos2 (starEach [b] X.env)).any (·.1)=false:=by rfl) :
  PE X (.Call (.Name "list" p1) [.Call (.Name "zip" p2) [a,b] [] pos2] [] pos1) (tLZ X.K ta):=by
 intro pins s σ H Q I h
 refine Ŋ (jK I hgl hml boot_list ?_)
 refine Ň ?_ e1 rfl
 rw[e1]
 refine Calls.spliced_cons ?_
 refine Ŋ (jK I hgz hmz PyProof.Rows.boot_zip ?_)
 refine Ň (thn (ha pos2 pins s σ H _ I h) λus s1 ⟨vs,H1,I1,r1,q1⟩=>?_) e2 e3
 obtain⟨p,q,xs,ys,rfl,hp,hq,hlen,k⟩:=q1
 obtain⟨u,u2,rfl,rx,ry⟩:=vals2 r1
 cases rx
 cases ry
 obtain⟨its,rv,pl,_⟩:=I1.list hp
 obtain⟨its2,rv2,pl2,_⟩:=I1.list hq
 refine call_zip_2 pl.isList pl2.isList λh' hz hTI hTO hi1 hi2 hsz hk=>?_
 refine Calls.spliced_nil ?_
 have lp:p<s1.heap.objs.size:=by obtain⟨o,e,_⟩:=pl.isList;exact Ï e
 have lq:q<s1.heap.objs.size:=by obtain⟨o,e,_⟩:=pl2.isList;exact Ï e
 have D:=zipApart_new lp lq
 have Z:ZSt (s1.heap.objs.size+4) (s1.heap.objs.size+2) (s1.heap.objs.size+3) s1.heap.objs.size (s1.heap.objs.size+1) p q its.toArray its2.toArray 0 h' :=
  ⟨.inl ⟨rfl,hz⟩,hTI,⟨_,_,hTO⟩,hi1,hi2,pl.isList.at λo e=>hk _ o e,pl2.isList.at λo e=>hk _ o e⟩
 have hl1:=rv.length
 refine Gu (s:={ s1 with heap:=h' }) (I1.ok.hd hc) D (by simp;omega) hz Z λh2 acc c2 k2 hS hP hT=>?_
 have lt:∀{b:Addr}{o:Obj},s1.heap.get? b=some o->b<s1.heap.objs.size:=λe=>Ï e
 have kept:∀b o,s1.heap.get? b=some o->h2.get? b=some o:=λb o e=>by
  have l0:=lt e
  have l1:∀j,b≠s1.heap.objs.size+j:=λj=>â (æ l0 (Nat.le_add_right _ _))
  exact k2 b o (l1 4) (l1 3) (l1 0) (l1 1) (hk b o e)
 have I2:Inv X pins σ H1 { s1 with heap:=h2 }:=I1.kept (t':=s1.toks) kept
 have hsz':h'.objs.size=s1.heap.objs.size+5:=hsz
 obtain⟨H3,ws,I3,s3,v3,p3,N3,u3⟩:=Inv.tuples I1 acc.toList _ _ H1 I2 hP (xW rv rv2) (λv hv=>by
  obtain⟨T,e,hT'⟩:=hT v hv
  have hT'':h'.objs.size<T:=hT'
  exact⟨T,e,by omega⟩) λT hT=>.inl (I1.hok.fresh hT)
 have hSn:H3 h'.objs.size=none:=by
  rw[u3 _ λv hv z=>?_]
  ·exact I1.hok.fresh (by omega)
  ·obtain⟨T,e,hT'⟩:=hT v hv
   rw[z] at e
   cases e
   exact absurd hT' (č _)
 have hwl:ws.length<=sizeLine:=by
  have:=v3.length
  have h24:=ô
  have l3:=p3.length
  rw[l3,List.length_zip]
  omega
 have I4:Inv X pins σ (upd H3 h'.objs.size (.lst ws)) { s1 with heap:=h2 }:=I3.GK I1 (by omega) hSn ⟨hwl,acc.toList,c2,v3,hS⟩
 refine⟨.ref h'.objs.size,_,I4,rfl,k h'.objs.size ws _ (s3.trans λb u e=>by rw[aq (aB e hSn)];exact e) (I1.hok.fresh (by omega)) au (Paired.Fp p3 λw q ⟨t,e,ht⟩=>⟨t,e,by rw[aq (aB ht hSn)];exact ht⟩)⟩
end
end L2
namespace Dl
open PySem L2 PyProof.Rows
variable [Gr]
section
variable {X:Cx}{pos:Pos}{a b c e:Expr}{es:List Expr}{ta tb tc te:DE}{t:DA}
def newP(k:Kd)(ds:List D)(P:Kd->Prop):Prop:=(dH ds=true/\P .new)\/P (k.join .new)
def j9{p:Pn}{H0 Hb H H2:Hp}{own:Addr->Option Nat}(A:At p H0 own Hb H){k:Kd}{vs:List V}{ds:List D}{P:Kd->Prop}{l:Addr}(r:Rps (okK p H0 own Hb k) H2 vs ds)(nw:okK p H0 own Hb .new l)(hl:H2 l=some (.lst vs))(h:newP k ds P):∃k',P k'/\Rp (okK p H0 own Hb k') H2 (.ref l) (.list ds):=by
 rcases h with ⟨i,h⟩|h
 ·exact⟨_,h,.lst nw hl ((Rps.imm r i).mono (λ_ o=>o.elim) (λ_ _ _ e=>e) λ_ _ e=>e)⟩
 ·exact⟨_,h,.lst (cj A (eZ k .new).2 nw) hl (r.mono (λa o=>cj A (eZ k .new).1 o) (λ_ _ _ e=>e) λ_ _ e=>e)⟩
def cO:∀l:List Int,dH (l.map Â)=true
 |[]=>rfl
 |x::l=>by
  show(gb (.int x)&&dH (l.map Â))=true
  rw[cO l]
  rfl
def cX:∀l:List Tie,dH (l.map pD)=true
 |[]=>rfl
 |x::l=>by
  show(gb (pD x)&&dH (l.map pD))=true
  rw[cX l]
  rfl
def prD(p:D×D):D:=.tuple [p.1,p.2]
def Ur:GC:=λks P=>match ks with
 |[(k1,.list ds),(k2,.list es)]=>ds.length<=1000/\newP (k1.join k2) ((ds.zip es).map prD) λk=>P k (.list ((ds.zip es).map prD))
 |_=>False
def Rps.zip{ok:Addr->Prop}{H H':Hp}(m:∀{v:V}{d:D},Rp ok H v d->Rp ok H' v d):∀{xs ys:List V}{ds es:List D}{ws:List V},Rps ok H xs ds->Rps ok H ys es->Paired (λw (q:V×V)=>∃t,w=.ref t/\H' t=some (.tup [q.1,q.2])) ws (xs.zip ys)->Rps ok H' ws ((ds.zip es).map prD)
 |_,_,_,_,_,.nil,_,p=>by cases p;exact .nil
 |_,_,_,_,_,.cons _ _,.nil,p=>by cases p;exact .nil
 |_,_,_,_,_,.cons h t,.cons h2 t2,p=>by
  cases p with
  |cons r q =>
   obtain⟨t',rfl,ht⟩:=r
   exact .cons (.tup ht (.cons (m h) (.cons (m h2) .nil))) (Rps.zip m t t2 q)
def Ai{p1 p2 pos1 pos2:Pos}(hc:X.calm=true)(hml:X.mg "list"=none)(hmz:X.mg "zip"=none)(ha:PDA X [a,b] t)(hgl:Gl X "list":=by rfl)(hgz:Gl X "zip":=by rfl)(e1:starEach [.Call (.Name "zip" p2) [a,b] [] pos2] X.env=[(false,eval (.Call (.Name "zip" p2) [a,b] [] pos2) X.env)]:=by rfl)(e2:starEach [a,b] X.env=(false,eval a X.env)::starEach [b] X.env:=by rfl)(e3:(backTo pos2 (starEach [b] X.env)).any (·.1)=false:=by rfl) :
  PD X (.Call (.Name "list" p1) [.Call (.Name "zip" p2) [a,b] [] pos2] [] pos1) (tCl Ur t):=PE.wk (Ad hc hgl hml hgz hmz ha e1 e2 e3) (by
 rintro σ H Q ⟨p,H0,own,ρ,P,E,t,q⟩
 refine⟨p,H0,own,ρ,_,E,t,λks vs H1 h A r=>?_⟩
 unfold Ur at h
 split at h
 ·rename_i k1 ds k2 es'
  obtain⟨v,w,rfl,r1,r2⟩:=Hi r
  obtain⟨x,xs,e1,o1,h1,rs1⟩:=Rp.bR r1
  obtain⟨y,ys,e2,o2,h2,rs2⟩:=Rp.bR r2
  subst e1 e2
  refine⟨x,y,xs,ys,rfl,SqL.of h1,SqL.of h2,by rw[rs1.length];exact h.1,λl ws H' sm hl hl' hp=>?_⟩
  have K:Kp p H1 H':=Kp.of sm
  have i2:p.PI H':=p.mono H1 H' A.pen λb o _ e=>sm b o e
  have j2:=eZ k1 k2
  have m1:∀{k:Kd},k.le (k1.join k2)=true->∀{vs ds},Rps (okK p H0 own H k) H1 vs ds->Rps (okK p H0 own H (k1.join k2)) H1 vs ds:=λhk _ _ z=>z.mono (λa o=>cj A hk o) (λ_ _ _ e=>e) λ_ _ e=>e
  obtain⟨k',hk',rk'⟩:=j9 A (Rps.zip (λz=>mU A K z) (m1 j2.1 rs1) (m1 j2.2 rs2) hp) (A.free hl) hl' h.2
  exact q _ _ _ _ hk' (A.go K i2) rk'
 ·exact h.elim)
def tCh(f g:Int->Int->Bool)(ta tb tc:DE):DE:=λρ P=>ta ρ λ_ d1=>tb ρ λ_ d2=>match d1,d2 with
 |.int i,.int j=>if f i j=true then tc ρ λ_ d3=>(match d3 with
   |.int l=>P .imm (.bool (g j l))
   |_=>False) else P .imm (.bool false)
 |_,_=>False
def Dh{f g:Int->Int->Bool}:∀σ H Q,bx (tCh f g ta tb tc) σ H Q->qK (rI0 λi j=>.bl (f i j)) (rI0 λi j=>.bl (g i j)) (bx ta) (bx tb) (bx tc) σ H Q:=by
 rintro σ H Q ⟨p,H0,own,ρ,P,E,t,q⟩
 refine⟨p,H0,own,ρ,_,E,t,λk1 d1 v1 H1 t1 A1 r1=>?_⟩
 refine⟨p,H0,own,ρ,_,E.go A1.kp A1.pen,t1,λk2 d2 v2 H2 t2 A2 r2=>?_⟩
 have A:=A1.base A2
 split at t2
 ·rename_i i j
  refine⟨i,j,r1.int',r2.int',_,rfl,?_⟩
  cases hf:f i j with
  |true =>
   rw[hf,if_pos rfl] at t2
   refine aM ⟨p,H0,own,ρ,_,(E.go A1.kp A1.pen).go A2.kp A2.pen,t2,λk3 d3 v3 H3 t3 A3 r3=>?_⟩
   cases d3 with
   |int l=>exact⟨j,l,r2.int',r3.int',q _ _ _ _ t3 (A.base A3) (.bl _)⟩
   |_=>exact t3.elim
  |false =>
   rw[hf,if_neg Ò] at t2
   exact aX (q _ _ _ _ t2 A (.bl _))
 ·exact t2.elim
def CW(ha:PD X a ta)(hb:PD X b tb)(hc:PD X c tc)(hm:lastMarks [.LtE,.Lt] [b,c]=false:=by with_unfolding_all rfl):PD X (.Compare a [.LtE,.Lt] [b,c] pos) (tCh (λi j=>decide (i<=j)) (λi j=>decide (i<j)) ta tb tc):=PE.wk (HS NZ uF ha hb hc hm) Dh
def Ez{op op':CmpOp}{r r':R2}{g:DE}(h:PT X (.Compare a [op,op'] [b,c] pos) (GX (qK r r' (bx ta) (bx tb) (bx tc))))(w:∀σ H Q,bx g σ H Q->qK r r' (bx ta) (bx tb) (bx tc) σ H Q):PDT X (.Compare a [op,op'] [b,c] pos) (fX g) :=
 PT.wk h λσ H Q q=>w σ H _ (rW σ H Q q)
def Sx(ta:DE):DE:=λρ P=>ta ρ λ_ d=>match d with
 |.bool b=>P .imm (.bool (!b))
 |_=>False
def Qt(ha:PD X a ta):PD X (.UnaryOp .Not a pos) (Sx ta):=PE.wk (Qo ha) (by
 rintro σ H Q ⟨p,H0,own,ρ,P,E,t,q⟩
 refine⟨p,H0,own,ρ,_,E,t,λk d v H' h A r=>?_⟩
 cases d with
 |bool b=>exact⟨b,r.bl',q _ _ _ _ h A (.bl _)⟩
 |_=>exact h.elim)
def Cg(ta tb:DE):DE:=λρ P=>ta ρ λ_ d=>match d with
 |.bool b=>if b=true then tb ρ P else P .imm (.bool false)
 |_=>False
def gD{op}(h:PD X a ta):PD X (.BoolOp op [a] pos) ta:=Qn h
def fO{rest:List Expr}(ha:PD X a ta)(hb:PD X (.BoolOp .And (b::rest) pos) tb):PD X (.BoolOp .And (a::b::rest) pos) (Cg ta tb):=PE.wk (Qp ha hb) (by
 rintro σ H Q ⟨p,H0,own,ρ,P,E,t,q⟩
 refine⟨p,H0,own,ρ,_,E,t,λk d v H' h A r=>?_⟩
 cases d with
 |bool b =>
  refine⟨b,r.bl',?_⟩
  cases b with
  |true=>exact aM ⟨p,H0,own,ρ,P,E.go A.kp A.pen,by simpa using h,λk d v H2 h2 A2 r2=>q k d v H2 h2 (A.base A2) (mW A r2)⟩
  |false=>exact aX (q _ _ _ _ (by simpa using h) A (.bl _))
 |_=>exact h.elim)
def PJ(tc:DT)(ta tb:DE):DE:=λρ P=>tc ρ λb=>if b=true then ta ρ P else tb ρ P
def gQ{u:DT}(hc:PDT X c u)(ha:PD X a ta)(hb:PD X b tb):PD X (.IfExp c a b pos) (PJ u ta tb):=PE.wk (HN hc ha hb) (by
 rintro σ H Q ⟨p,H0,own,ρ,P,E,t,q⟩
 refine⟨p,H0,own,ρ,_,E,t,λb H' h A=>?_⟩
 have nx:∀k d v H2,P k d->At p H0 own H' H2->Rp (okK p H0 own H' k) H2 v d->Q v H2:=λk d v H2 h2 A2 r2=>q k d v H2 h2 (A.base A2) (mW A r2)
 cases b with
 |true=>exact aM ⟨p,H0,own,ρ,P,E.go A.kp A.pen,by simpa using h,nx⟩
 |false=>exact aX ⟨p,H0,own,ρ,P,E.go A.kp A.pen,by simpa using h,nx⟩)
def tyD:D->String
 |.none=>"NoneType"
 |.bool _=>"bool"
 |.int _=>"int"
 |.str _=>"str"
 |.list _=>"list"
 |.tuple _=>"tuple"
 |.dict _=>"dict"
def isT(c:String)(d:D):Bool:=tyD d == c || (c == "int"&&tyD d == "bool")
def tIs(c:String)(te:DE):DE:=λρ P=>te ρ λ_ d=>P .imm (.bool (isT c d))
def cG{T:String}{x:Str}{ps pt:Pos}(hk:∀t:Value,(t=.type "NoneType"\/t=.type "bool"\/t=.type "int"\/t=.type "str"\/t=.type "list"\/t=.type "tuple"\/t=.type "dict")->∃n,t=.type n/\W.kitOne X.K t (.type T)=some (n == T || (T == "int"&&n == "bool")))(hm:X.mg "isinstance"=none)(he:PD X e te)(hT:PE X (.Name x pt) (tC (.ty T)))(hg:Gl X "isinstance":=by rfl)(h1:starEach [e,.Name x pt] X.env=(false,eval e X.env)::starEach [.Name x pt] X.env:=by rfl)(h2:starEach [.Name x pt] X.env=(false,eval (.Name x pt) X.env)::starEach [] X.env:=by rfl)(hpl:(backTo pos (starEach [.Name x pt] X.env)).any (·.1)=false:=by rfl) :
  PD X (.Call (.Name "isinstance" ps) [e,.Name x pt] [] pos) (tIs T te):=PE.wk (eE xM hg hm boot_isinstance (dB he (dB hT pA h2) h1) (by decide) (by decide) h1 hpl) (by
 rintro σ H Q ⟨p,H0,own,ρ,P,E,t,q⟩
 refine⟨p,H0,own,ρ,_,E,t,λk d v H' h A r=>?_⟩
 have fin:∀n,TyOf X.K H' v (.type n)->n=tyD d->∃x' c' t' b,[v,V.ty T]=[x',.ty c']/\TyOf X.K H' x' t'/\W.kitOne X.K t' (.type c')=some b/\Q (.bl b) H':=λn ty en=>by
  obtain⟨n',e,hk'⟩:=hk (.type n) (by rw[en];cases d <;> simp[tyD])
  cases e
  refine⟨v,T,.type n,_,rfl,ty,hk',?_⟩
  rw[en]
  exact q _ _ _ _ h A (.bl _)
 show ∃x' c' t' b,_/\_
 cases r with
 |non=>exact fin _ .non rfl
 |bl b=>exact fin _ (.bl b) rfl
 |int i=>exact fin _ (.int i) rfl
 |str x=>exact fin _ (.str x) rfl
 |lst o hh rr=>exact fin _ (.lst hh) rfl
 |tup hh rr=>exact fin _ (.tup hh) rfl
 |dct o hh rr=>exact fin _ (.dK hh) rfl)
def M4{K:Ú}:∀t:Value,(t=.type "NoneType"\/t=.type "bool"\/t=.type "int"\/t=.type "str"\/t=.type "list"\/t=.type "tuple"\/t=.type "dict")->∃n,t=.type n/\W.kitOne K t (.type "int")=some (n == "int" || ("int" == "int"&&n == "bool")):=by
 rintro t (rfl|rfl|rfl|rfl|rfl|rfl|rfl) <;> exact⟨_,rfl,rfl⟩
def JF{K:Ú}:∀t:Value,(t=.type "NoneType"\/t=.type "bool"\/t=.type "int"\/t=.type "str"\/t=.type "list"\/t=.type "tuple"\/t=.type "dict")->∃n,t=.type n/\W.kitOne K t (.type "bool")=some (n == "bool" || ("bool" == "int"&&n == "bool")):=by
 rintro t (rfl|rfl|rfl|rfl|rfl|rfl|rfl) <;> exact⟨_,rfl,rfl⟩
def sE{K:Ú}:∀t:Value,(t=.type "NoneType"\/t=.type "bool"\/t=.type "int"\/t=.type "str"\/t=.type "list"\/t=.type "tuple"\/t=.type "dict")->∃n,t=.type n/\W.kitOne K t (.type "list")=some (n == "list" || ("list" == "int"&&n == "bool")):=by
 rintro t (rfl|rfl|rfl|rfl|rfl|rfl|rfl) <;> exact⟨_,rfl,rfl⟩
def kit_tuple{K:Ú}:∀t:Value,(t=.type "NoneType"\/t=.type "bool"\/t=.type "int"\/t=.type "str"\/t=.type "list"\/t=.type "tuple"\/t=.type "dict")->∃n,t=.type n/\W.kitOne K t (.type "tuple")=some (n == "tuple" || ("tuple" == "int"&&n == "bool")):=by
 rintro t (rfl|rfl|rfl|rfl|rfl|rfl|rfl) <;> exact⟨_,rfl,rfl⟩
def MP{K:Ú}:∀t:Value,(t=.type "NoneType"\/t=.type "bool"\/t=.type "int"\/t=.type "str"\/t=.type "list"\/t=.type "tuple"\/t=.type "dict")->∃n,t=.type n/\W.kitOne K t (.type "str")=some (n == "str" || ("str" == "int"&&n == "bool")):=by
 rintro t (rfl|rfl|rfl|rfl|rfl|rfl|rfl) <;> exact⟨_,rfl,rfl⟩
def Rr:GC:=λks P=>match ks with
 |[(_,.list ds)]=>∃bs:List Bool,ds=bs.map PyData.bool/\P .imm (.bool (bs.all id))
 |_=>False
def Rps.bools{ok:Addr->Prop}{H:Hp}:∀{vs:List V}{bs:List Bool},Rps ok H vs (bs.map PyData.bool)->vs=bs.map V.bl
 |[],[],_=>rfl
 |_,b::bs,.cons h t=>by
  have e:=h.bl'
  subst e
  rw[Rps.bools t]
  rfl
def lR{ps:Pos}(hc:X.calm=true)(hm:X.mg "all"=none)(hv:bootBuiltins "all"=some (.builtin "all"))(ha:PDA X [a] t)(hg:Gl X "all":=by rfl)(he:zS X a []:=by rfl)(hpl:zP X pos []:=by rfl):PD X (.Call (.Name "all" ps) [a] [] pos) (tCl Rr t) :=
 cN (Gi hc) (by
  intro p H0 own Hb H vs ks P Q A r t q
  unfold Rr at t
  split at t
  ·obtain⟨bs,rfl,t⟩:=t
   obtain⟨v,rfl,r'⟩:=fY r
   obtain⟨x,xs,e1,o1,h1,rs1⟩:=Rp.bR r'
   subst e1
   have e2:=Rps.bools rs1
   subst e2
   exact⟨x,bs,rfl,SqL.of h1,q _ _ _ _ t Kp.refl A.pen (.bl _)⟩
  ·exact t.elim) hg hm hv ha (by decide) (by decide) he hpl
def gMM(f:Int->Int->Int):GC:=λks P=>match ks with
 |[(_,.int i),(_,.int j)]=>P .imm (.int (f i j))
 |_=>False
def j7{ps:Pos}(hc:X.calm=true)(hm:X.mg "max"=none)(ha:PDA X [a,b] t)(hg:Gl X "max":=by rfl)(he:starEach [a,b] X.env=(false,eval a X.env)::starEach [b] X.env:=by rfl)(hpl:(backTo pos (starEach [b] X.env)).any (·.1)=false:=by rfl):PD X (.Call (.Name "max" ps) [a,b] [] pos) (tCl (gMM λi j=>if j > i then j else i) t) :=
 cN (Gg hc) (by
  intro p H0 own Hb H vs ks P Q A r t q
  unfold gMM at t
  split at t
  ·rename_i k i k' j
   obtain⟨v,w,rfl,r1,r2⟩:=Hi r
   rw[Rp.int' r1,Rp.int' r2]
   exact⟨i,j,rfl,q _ _ _ _ t Kp.refl A.pen (.int _)⟩
  ·exact t.elim) hg hm boot_max ha (by decide) (by decide) he hpl
def nu{ps:Pos}(hc:X.calm=true)(hm:X.mg "min"=none)(ha:PDA X [a,b] t)(hg:Gl X "min":=by rfl)(he:starEach [a,b] X.env=(false,eval a X.env)::starEach [b] X.env:=by rfl)(hpl:(backTo pos (starEach [b] X.env)).any (·.1)=false:=by rfl):PD X (.Call (.Name "min" ps) [a,b] [] pos) (tCl (gMM λi j=>if j<i then j else i) t) :=
 cN (Gf hc) (by
  intro p H0 own Hb H vs ks P Q A r t q
  unfold gMM at t
  split at t
  ·rename_i k i k' j
   obtain⟨v,w,rfl,r1,r2⟩:=Hi r
   rw[Rp.int' r1,Rp.int' r2]
   exact⟨i,j,rfl,q _ _ _ _ t Kp.refl A.pen (.int _)⟩
  ·exact t.elim) hg hm boot_min ha (by decide) (by decide) he hpl
def M7:GC:=λks P=>match ks with
 |[(k,.list ds)]=>newP k ds λk'=>P k' (.list ds)
 |[(k,.tuple ds)]=>newP k ds λk'=>P k' (.list ds)
 |_=>False
def nA{ps:Pos}(hm:X.mg "list"=none)(ha:PDA X [a] t)(hg:Gl X "list":=by rfl)(he:zS X a []:=by rfl)(hpl:zP X pos []:=by rfl):PD X (.Call (.Name "list" ps) [a] [] pos) (tCl M7 t) :=
 rE xK (by
  intro p H0 own Hb H vs ks P Q A r t q
  have fin:∀{k ds xs},Rps (okK p H0 own Hb k) H xs ds->newP k ds (λk'=>P k' (.list ds))->∀l,H l=none->Q (.ref l) (upd H l (.lst xs)):=λ{k ds xs} rs t l hl=>by
   obtain⟨k2,i2,nw⟩:=A.new hl (.lst xs)
   obtain⟨k',hk',rk'⟩:=j9 A (bZ A k2 rs) nw au t
   exact q _ _ _ _ hk' k2 i2 rk'
  unfold M7 at t
  split at t
  ·obtain⟨v,rfl,r'⟩:=fY r
   obtain⟨x,xs,e1,o1,h1,rs1⟩:=Rp.bR r'
   subst e1
   exact⟨x,xs,rfl,.inl (SqL.of h1),fin rs1 t⟩
  ·obtain⟨v,rfl,r'⟩:=fY r
   obtain⟨x,xs,e1,h1,rs1⟩:=Rp.eO r'
   subst e1
   exact⟨x,xs,rfl,.inr (SqT.of h1),fin rs1 t⟩
  ·exact t.elim) hg hm boot_list ha (by decide) (by decide) he hpl
def Dv:GC:=λks P=>match ks with
 |[(k,.list ds)]=>P (norm k (.tuple ds)) (.tuple ds)
 |[(k,.tuple ds)]=>P (norm k (.tuple ds)) (.tuple ds)
 |_=>False
def iM{ps:Pos}(hm:X.mg "tuple"=none)(ha:PDA X [a] t)(hg:Gl X "tuple":=by rfl)(he:zS X a []:=by rfl)(hpl:zP X pos []:=by rfl):PD X (.Call (.Name "tuple" ps) [a] [] pos) (tCl Dv t) :=
 rE tW (by
  intro p H0 own Hb H vs ks P Q A r t q
  unfold Dv at t
  split at t
  ·rename_i k ds
   obtain⟨v,rfl,r'⟩:=fY r
   obtain⟨x,xs,e1,o1,h1,rs1⟩:=Rp.bR r'
   subst e1
   refine⟨x,xs,rfl,.inl ⟨SqL.of h1,λl hl=>?_⟩⟩
   obtain⟨k2,i2,nw⟩:=A.new hl (.tup xs)
   exact q _ _ _ _ t k2 i2 (aY (.tup au (bZ A k2 rs1)))
  ·rename_i k ds
   obtain⟨v,rfl,r'⟩:=fY r
   obtain⟨x,xs,e1,h1,rs1⟩:=Rp.eO r'
   subst e1
   exact⟨x,xs,rfl,.inr ⟨SqT.of h1,q _ _ _ _ t Kp.refl A.pen (aY r')⟩⟩
  ·exact t.elim) hg hm boot_tuple ha (by decide) (by decide) he hpl
def Bk:GC:=λks P=>match ks with
 |[(_,.list ds)]=>∃ns:List Int,ds=ns.map Â/\ns.length<64/\∀out:List Int,out.Perm ns->out.Pairwise (·<=·)->P .new (.list (out.map Â))
 |_=>False
def rB{ps:Pos}(hm:X.mg "sorted"=none)(ha:PDA X [a] t)(hg:Gl X "sorted":=by rfl)(he:zS X a []:=by rfl)(hpl:zP X pos []:=by rfl):PD X (.Call (.Name "sorted" ps) [a] [] pos) (tCl Bk t) :=
 cN xJ (by
  intro p H0 own Hb H vs ks P Q A r t q
  unfold Bk at t
  split at t
  ·obtain⟨ns,rfl,hl,t⟩:=t
   obtain⟨v,rfl,r'⟩:=fY r
   obtain⟨x,xs,e1,o1,h1,rs1⟩:=Rp.bR r'
   subst e1
   have e2:=Rps.ints rs1
   subst e2
   refine⟨x,ns,rfl,SqL.of h1,hl,λl out hl' hp hs=>?_⟩
   obtain⟨k2,i2,nw⟩:=A.new hl' (.lst (out.map V.int))
   exact q _ _ _ _ (t out hp hs) k2 i2 (.lst nw au (Rps.ofMap (λi=>.int i) out))
  ·exact t.elim) hg hm boot_sorted ha (by decide) (by decide) he hpl
def wU:GC:=λks P=>match ks with
 |[(_,d)]=>∃ts:List Tie,(d=.list (ts.map pD)\/d=.tuple (ts.map pD))/\ts.length<64/\(∀t∈ts,lZ t)/\∀us:List Tie,us.Perm ts->us.Pairwise (λa b=>aJ a<=aJ b)->P .new (.list (us.map pD))
 |_=>False
def Bj:GC:=λks P=>match ks with
 |[(_,d)]=>∃ts:List Tie,(d=.list (ts.map pD)\/d=.tuple (ts.map pD))/\Srt ts/\(∀t∈ts,lZ t)/\∀us:List Tie,us.Perm ts->us.Pairwise (λa b=>aJ a<=aJ b)->P .new (.list (us.map pD))
 |_=>False
def Rps.prs{ok:Addr->Prop}{H:Hp}:∀{vs:List V}{ts:List Tie},Rps ok H vs (ts.map pD)->Prs H vs ts
 |[],[],_=>.nil
 |_,t::ts,.cons h r=>by
  obtain⟨x,xs,e,hx,rs⟩:=Rp.eO h
  obtain⟨v1,v2,e2,q1,q2⟩:=Rps.two rs
  subst e e2
  rw[q1.int',q2.int'] at hx
  exact .cons ⟨x,rfl,hx⟩ (Rps.prs r)
def Prs.rps{ok:Addr->Prop}{H:Hp}:∀{vs:List V}{ts:List Tie},Prs H vs ts->Rps ok H vs (ts.map pD)
 |_,_,.nil=>.nil
 |_,_,.cons r t=>by
  obtain⟨x,e,hx⟩:=r
  subst e
  exact .cons (.tup hx (.cons (.int _) (.cons (.int _) .nil))) (Prs.rps t)
def qZ{ps:Pos}(hm:X.mg "sorted"=none)(ha:PDA X [a] t)(hg:Gl X "sorted":=by rfl)(he:zS X a []:=by rfl)(hpl:zP X pos []:=by rfl):PD X (.Call (.Name "sorted" ps) [a] [] pos) (tCl Bj t) :=
 cN oA (by
  intro p H0 own Hb H vs ks P Q A r t q
  unfold Bj at t
  split at t
  ·obtain⟨ts,hd,hl,hn,t⟩:=t
   obtain⟨v,rfl,r'⟩:=fY r
   have fin:∀l ws us,H l=none->Prs H ws us->us.Perm ts->us.Pairwise (λa b=>aJ a<=aJ b)->Q (.ref l) (upd H l (.lst ws)):=λl ws us hl' pr hp hs=>by
    obtain⟨k2,i2,nw⟩:=A.new hl' (.lst ws)
    exact q _ _ _ _ (t us hp hs) k2 i2 (.lst nw au (bZ A k2 (Prs.rps pr)))
   rcases hd with rfl|rfl
   ·obtain⟨x,xs,e1,o1,h1,rs1⟩:=Rp.bR r'
    subst e1
    exact⟨x,xs,ts,rfl,.inl (SqL.of h1),Rps.prs rs1,hn,hl,fin⟩
   ·obtain⟨x,xs,e1,h1,rs1⟩:=Rp.eO r'
    subst e1
    exact⟨x,xs,ts,rfl,.inr (SqT.of h1),Rps.prs rs1,hn,hl,fin⟩
  ·exact t.elim) hg hm boot_sorted ha (by decide) (by decide) he hpl
def eG{ps:Pos}(hm:X.mg "sorted"=none)(ha:PDA X [a] t)(hg:Gl X "sorted":=by rfl)(he:zS X a []:=by rfl)(hpl:zP X pos []:=by rfl):PD X (.Call (.Name "sorted" ps) [a] [] pos) (tCl wU t) :=
 cN oA (by
  intro p H0 own Hb H vs ks P Q A r t q
  unfold wU at t
  split at t
  ·obtain⟨ts,hd,hl,hn,t⟩:=t
   obtain⟨v,rfl,r'⟩:=fY r
   have fin:∀l ws us,H l=none->Prs H ws us->us.Perm ts->us.Pairwise (λa b=>aJ a<=aJ b)->Q (.ref l) (upd H l (.lst ws)):=λl ws us hl' pr hp hs=>by
    obtain⟨k2,i2,nw⟩:=A.new hl' (.lst ws)
    exact q _ _ _ _ (t us hp hs) k2 i2 (.lst nw au (bZ A k2 (Prs.rps pr)))
   rcases hd with rfl|rfl
   ·obtain⟨x,xs,e1,o1,h1,rs1⟩:=Rp.bR r'
    subst e1
    exact⟨x,xs,ts,rfl,.inl (SqL.of h1),Rps.prs rs1,hn,.inl hl,fin⟩
   ·obtain⟨x,xs,e1,h1,rs1⟩:=Rp.eO r'
    subst e1
    exact⟨x,xs,ts,rfl,.inr (SqT.of h1),Rps.prs rs1,hn,.inl hl,fin⟩
  ·exact t.elim) hg hm boot_sorted ha (by decide) (by decide) he hpl
end
variable [Gr]
section
variable {X:Cx}{pins:List (Addr×Obj)}{σ:L2.St}{H:Hp}{s:Shared}{ok:Addr->Prop}
mutual
def Rp.reads(I:Inv X pins σ H s):∀{v:V}{d:D}{u:Value},Rp ok H v d->RelV v u->d.canLay0=true->∃as,Reads s.heap u d as
 |_,_,_,.non,r,_=>by cases r;exact⟨_,.none⟩
 |_,_,_,.bl b,r,_=>by cases r;exact⟨_,.bool b⟩
 |_,_,_,.int i,r,_=>by obtain⟨t,rfl⟩:=r;exact⟨_,.int i t⟩
 |_,_,_,.str x,r,_=>by obtain⟨t,rfl⟩:=r;exact⟨_,.str x t⟩
 |_,_,_,.lst o h rs,r,c=>by
  cases r
  obtain⟨its,rv,pl,_⟩:=I.list (SqL.of h)
  obtain⟨as,ra⟩:=Rps.reads I rs rv (by simpa[PyData.canLay0] using c)
  obtain⟨ob,ho,hc,n,hd⟩:=pl.isList
  exact⟨_,.list ho hc hd (by simpa using ra)⟩
 |_,_,_,.tup h rs,r,c=>by
  cases r
  obtain⟨its,rv,pl,_⟩:=I.tuple (SqT.of h)
  obtain⟨as,ra⟩:=Rps.reads I rs rv (by simpa[PyData.canLay0] using c)
  obtain⟨ob,ho,hc,n,hd⟩:=pl
  exact⟨_,.tuple ho hc hd (by simpa using ra)⟩
 |_,_,_,.dct o h rs,r,c=>by simp[PyData.canLay0] at c
def Rps.reads(I:Inv X pins σ H s):∀{v:List V}{d:List D}{u:List Value},Rps ok H v d->Vals v u->Ĉ d=true->∃as,ReadsAll s.heap u d as
 |_,_,_,.nil,r,_=>by cases r;exact⟨[],.nil⟩
 |_,_,_,.cons h t,r,c=>by
  cases r with
  |cons a b =>
   simp only[Ĉ,Û] at c
   obtain⟨as,ra⟩:=Rp.reads I h a c.1
   obtain⟨bs,rb⟩:=Rps.reads I t b c.2
   exact⟨_,.cons ra rb⟩
end
end
def okD(d:D):Bool:=d.canLay0&&decide (d.depth<=60)
section
variable {X:Cx}{pos:Pos}{a b e:Expr}{ta tb te:DE}
def Ho(K:Ú)(neg:Bool):R2:=λx y H Q=>∃ok ok' d e,Rp ok H x d/\Rp ok' H y e/\okD d=true/\okD e=true/\Q (.bl (if neg then !(í d e) else í d e)) H
def IW(hu:X.A.units+64<cLine):OpR X (compareOp .Eq) (Ho X.K false):=by
 intro pins s σ H x y v u Q I rx ry h
 obtain⟨ok,ok',d,e,hd,he,cd,ce,q⟩:=h
 simp only[okD,Û,decide_eq_true_eq] at cd ce
 obtain⟨as,ra⟩:=hd.reads I rx cd.1
 obtain⟨bs,rb⟩:=he.reads I ry ce.1
 exact SeqAt.compareEq_reads ra rb cd.1 ce.1 (by omega) ⟨.bl _,H,I,rfl,q⟩
def Iw(hu:X.A.units+64<cLine):OpR X (compareOp .NotEq) (Ho X.K true):=by
 intro pins s σ H x y v u Q I rx ry h
 obtain⟨ok,ok',d,e,hd,he,cd,ce,q⟩:=h
 simp only[okD,Û,decide_eq_true_eq] at cd ce
 obtain⟨as,ra⟩:=hd.reads I rx cd.1
 obtain⟨bs,rb⟩:=he.reads I ry ce.1
 exact SeqAt.compareNe_reads ra rb cd.1 ce.1 (by omega) ⟨.bl _,H,I,rfl,q⟩
def Uv(neg:Bool):G2:=λ_ d1 _ d2 P=>okD d1=true/\okD d2=true/\P .imm (.bool (if neg then !(í d1 d2) else í d1 d2))
def N8{K:Ú}(neg:Bool):Ok2 (Uv neg) (Ho K neg):=by
 intro p H0 own Hb H x y k1 d1 k2 d2 P Q A r1 r2 t q
 exact⟨_,_,d1,d2,r1,r2,t.1,t.2.1,q _ _ _ _ t.2.2 Kp.refl A.pen (.bl _)⟩
def eqP(x:D)(h:Heap)(u:Value):Bool:=by
 classical
 exact decide (∃d as,Reads h u d as/\í d x=true)
def Qg(neg:Bool):R2:=λx y H Q=>∃ok ok' d es,Rp ok H x d/\(Rp ok' H y (.list es)\/Rp ok' H y (.tuple es))/\okD d=true/\(es.all okD)=true/\Q (.bl (if neg then !(es.any λe=>í e d) else es.any λe=>í e d)) H
def Ke{x:D}{h:Heap}{u:Value}{d:D}{as:List Addr}(r:Reads h u d as):eqP x h u=í d x:=by
 classical
 unfold eqP
 rw[ġ,decide_eq_true_eq]
 constructor
 ·rintro⟨d',as',r',e⟩
  rw[(r.unique d' as' r').1]
  exact e
 ·exact λe=>⟨d,as,r,e⟩
def oG{x:D}{h:Heap}:∀{us:List Value}{ds:List D}{as:List Addr},ReadsAll h us ds as->us.any (eqP x h)=ds.any λe=>í e x
 |_,_,_,.nil=>rfl
 |_,_,_,.cons a b=>by
  rw[List.any_cons,List.any_cons,Ke a,oG b]
def nG{A:Around}{s:Shared}{x:D}{v:Value}{bs:List Addr}(rx:Reads s.heap v x bs)(cx:okD x=true)(hu:A.units+60<cLine):∀{us:List Value}{ds:List D}{as:List Addr},ReadsAll s.heap us ds as->ds.all okD=true->∀u∈us,SeqAt.EqAt A s u v (eqP x s.heap u)
 |_,_,_,.nil,_,u,hu'=>nomatch hu'
 |_,d::ds,_,.cons a b,c,u,hu'=>by
  simp only[List.all_cons,Û] at c
  rcases Ñ.mp hu' with rfl|hu'
  ·rw[Ke a]
   have c1:=c.1
   simp only[okD,Û,decide_eq_true_eq] at c1 cx
   exact SeqAt.eqAt_reads _ _ A s _ _ _ _ a rx c1.1 cx.1 (by omega)
  ·exact nG rx cx hu b c.2 u hu'
def nQ{A:Around}(hu:A.units+64<cLine):A.in1.units+60<cLine:=by
 have:A.in1.units<=A.units+1:=by first|exact Ì _|exact Ĺ _|(unfold Around.in1;simp)
 omega
def nO:∀{es:List D},es.all okD=true->Ĉ es=true
 |[],_=>rfl
 |e::es,h=>by
  simp only[List.all_cons,Û,okD] at h
  simp only[Ĉ,Û]
  exact⟨h.1.1,nO h.2⟩
def IK(hu:X.A.units+64<cLine):OpR X (compareOp .In) (Qg false):=by
 intro pins s σ H x y v u Q I rx ry h
 obtain⟨ok,ok',d,es,hd,hs,cd,ce,q⟩:=h
 have cd':=cd
 simp only[okD,Û,decide_eq_true_eq] at cd'
 obtain⟨bs,rb⟩:=hd.reads I rx cd'.1
 rcases hs with hs|hs
 ·obtain⟨c,vs,rfl,o,hc,rs⟩:=hs.bR
  cases ry
  obtain⟨its,r,pl,hz⟩:=I.list (SqL.of hc)
  obtain⟨as,ra⟩:=rs.reads I r (nO ce)
  refine SeqAt.in_listAt (eqP d s.heap) pl.isList (λw hw=>nG rb cd (nQ hu) ra ce w (by simpa using hw)) ⟨.bl _,H,I,rfl,?_⟩
  rw[show its.toArray.any (eqP d s.heap)=its.any (eqP d s.heap) by simp,oG ra]
  exact q
 ·obtain⟨c,vs,rfl,hc,rs⟩:=hs.eO
  cases ry
  obtain⟨its,r,pl,hz⟩:=I.tuple (SqT.of hc)
  obtain⟨as,ra⟩:=rs.reads I r (nO ce)
  refine SeqAt.in_tupleAt (eqP d s.heap) pl (λw hw=>nG rb cd (nQ hu) ra ce w (by simpa using hw)) ⟨.bl _,H,I,rfl,?_⟩
  rw[show its.toArray.any (eqP d s.heap)=its.any (eqP d s.heap) by simp,oG ra]
  exact q
def Fb(hu:X.A.units+64<cLine):OpR X (compareOp .NotIn) (Qg true):=by
 intro pins s σ H x y v u Q I rx ry h
 obtain⟨ok,ok',d,es,hd,hs,cd,ce,q⟩:=h
 have cd':=cd
 simp only[okD,Û,decide_eq_true_eq] at cd'
 obtain⟨bs,rb⟩:=hd.reads I rx cd'.1
 rcases hs with hs|hs
 ·obtain⟨c,vs,rfl,o,hc,rs⟩:=hs.bR
  cases ry
  obtain⟨its,r,pl,hz⟩:=I.list (SqL.of hc)
  obtain⟨as,ra⟩:=rs.reads I r (nO ce)
  refine SeqAt.notIn_listAt (eqP d s.heap) pl.isList (λw hw=>nG rb cd (nQ hu) ra ce w (by simpa using hw)) ⟨.bl _,H,I,rfl,?_⟩
  rw[show its.toArray.any (eqP d s.heap)=its.any (eqP d s.heap) by simp,oG ra]
  exact q
 ·obtain⟨c,vs,rfl,hc,rs⟩:=hs.eO
  cases ry
  obtain⟨its,r,pl,hz⟩:=I.tuple (SqT.of hc)
  obtain⟨as,ra⟩:=rs.reads I r (nO ce)
  refine SeqAt.notIn_tupleAt (eqP d s.heap) pl (λw hw=>nG rb cd (nQ hu) ra ce w (by simpa using hw)) ⟨.bl _,H,I,rfl,?_⟩
  rw[show its.toArray.any (eqP d s.heap)=its.any (eqP d s.heap) by simp,oG ra]
  exact q
def gIn(neg:Bool):G2:=λ_ d1 _ d2 P=>match d2 with
 |.list es=>okD d1=true/\es.all okD=true/\P .imm (.bool (if neg then !(es.any λe=>í e d1) else es.any λe=>í e d1))
 |.tuple es=>okD d1=true/\es.all okD=true/\P .imm (.bool (if neg then !(es.any λe=>í e d1) else es.any λe=>í e d1))
 |_=>False
def okIn(neg:Bool):Ok2 (gIn neg) (Qg neg):=by
 intro p H0 own Hb H x y k1 d1 k2 d2 P Q A r1 r2 t q
 cases d2 with
 |list es=>exact⟨_,_,d1,es,r1,.inl r2,t.1,t.2.1,q _ _ _ _ t.2.2 Kp.refl A.pen (.bl _)⟩
 |tuple es=>exact⟨_,_,d1,es,r1,.inr r2,t.1,t.2.1,q _ _ _ _ t.2.2 Kp.refl A.pen (.bl _)⟩
 |_=>exact t.elim
def yC(hu:X.A.units+64<cLine)(ha:PD X a ta)(hb:PD X b tb)(hm:behindInMarks .In b=false:=by rfl):PD X (.Compare a [.In] [b] pos) (t2 (gIn false) ta tb):=iQ (IK hu) (okIn false) ha hb hm
def dU(hu:X.A.units+64<cLine)(ha:PD X a ta)(hb:PD X b tb)(hm:behindInMarks .In b=false:=by rfl):PDT X (.Compare a [.In] [b] pos) (fX (t2 (gIn false) ta tb)):=eY (IK hu) (okIn false) ha hb hm
def o7(hu:X.A.units+64<cLine)(ha:PD X a ta)(hb:PD X b tb)(hm:behindInMarks .NotIn b=false:=by rfl):PDT X (.Compare a [.NotIn] [b] pos) (fX (t2 (gIn true) ta tb)):=eY (Fb hu) (okIn true) ha hb hm
end
variable [Gr]
section
variable {X:Cx}{pos p2:Pos}{a b c e:Expr}{es:List Expr}{ta tb tc te:DE}{t:DA}{st:Stmt}
abbrev DO:=List Sl->(Option Int->Prop)->Prop
def rY(t:DO):TO:=λσ H Q=>∃p H0 own ρ P,EnvD p H0 own σ H ρ/\t ρ P/\∀o H',P o->At p H0 own H H'->Q o H'
def PO.wk{e:Option Expr}{t t':TO}(h:PO X e t)(w:∀σ H Q,t' σ H Q->t σ H Q):PO X e t':=λpins s σ H Q I q=>h pins s σ H Q I (w σ H Q q)
def Jj:DO:=λ_ P=>P none
def Ji(te:DE):DO:=λρ P=>te ρ λ_ d=>match d with
 |.int i=>P (some i)
 |_=>False
def iY:PO X none (rY Jj):=PO.wk Lj (by
 rintro σ H Q ⟨p,H0,own,ρ,P,E,t,q⟩
 exact q _ _ t E.at)
def dJ(h:PD X e te):PO X (some e) (rY (Ji te)):=PO.wk (Li h) (by
 rintro σ H Q ⟨p,H0,own,ρ,P,E,t,q⟩
 refine⟨p,H0,own,ρ,_,E,t,λk d v H' h A r=>?_⟩
 cases d with
 |int i=>exact⟨i,r.int',q _ _ h A⟩
 |_=>exact h.elim)
def dg{α:Type}(ds:List α)(lo hi:Option Int):List α:=(ds.drop (HT.sIx ds.length 0 lo)).take (HT.sIx ds.length ds.length hi - HT.sIx ds.length 0 lo)
def Rps.cut{ok:Addr->Prop}{H:Hp}{vs:List V}{ds:List D}(r:Rps ok H vs ds)(lo hi:Option Int):Rps ok H (sY vs lo hi) (dg ds lo hi):=by
 unfold sY dg
 rw[r.length]
 exact(r.drop _).take _
def Sg(te:DE)(tl th:DO):DE:=λρ P=>te ρ λk d=>tl ρ λlo=>th ρ λhi=>match d with
 |.list ds=>newP k (dg ds lo hi) λk'=>P k' (.list (dg ds lo hi))
 |_=>False
def Ah{lo hi:Option Expr}{tl th:DO}(he:PD X e te)(hl:PO X lo (rY tl))(hh:PO X hi (rY th)):PD X (.Subscript e (.Slice lo hi none p2) pos) (Sg te tl th):=PE.wk (yx Cq he hl hh) (by
 rintro σ H Q ⟨p,H0,own,ρ,P,E,t,q⟩
 refine⟨p,H0,own,ρ,_,E,t,λk d v H1 h A r=>?_⟩
 refine⟨p,H0,own,ρ,_,E.go A.kp A.pen,h,λo1 H2 h2 A2=>?_⟩
 refine⟨p,H0,own,ρ,_,(E.go A.kp A.pen).go A2.kp A2.pen,h2,λo2 H3 h3 A3=>?_⟩
 have A4:=(A.base A2).base A3
 have r3:=mU (A.base A2) A3.kp (mU A A2.kp r)
 cases d with
 |list ds =>
  obtain⟨x,xs,e1,o,h1,rs⟩:=Rp.bR r3
  subst e1
  refine⟨x,xs,rfl,SqL.of h1,λl hl=>?_⟩
  obtain⟨k2,i2,nw⟩:=A4.new hl (.lst (sY xs o1 o2))
  obtain⟨k',hk',rk'⟩:=j9 A4 (bZ A4 k2 (rs.cut o1 o2)) nw au h3
  exact q _ _ _ _ hk' (A4.go k2 i2) rk'
 |_=>exact h3.elim)
def Ng:G2:=λk1 d1 k2 d2 P=>match d1,d2 with
 |.list ds,.list es=>ds.length+es.length<=1000/\newP (k1.join k2) (ds++es) λk=>P k (.list (ds++es))
 |_,_=>False
def Ob:Ok2 Ng Tw:=by
 intro p H0 own Hb H x y k1 d1 k2 d2 P Q A r1 r2 t q
 unfold Ng at t
 split at t
 ·obtain⟨c1,xs,e1,o1,h1,rs1⟩:=r1.bR
  obtain⟨c2,ys,e2,o2,h2,rs2⟩:=r2.bR
  subst e1 e2
  have h24:=ô
  refine⟨c1,c2,xs,ys,rfl,rfl,h1,h2,by rw[rs1.length,rs2.length];omega,λl hl=>?_⟩
  obtain⟨k3,i3,nw⟩:=A.new hl (.lst (xs++ys))
  have j:=eZ k1 k2
  have m:∀{k vs ds},k.le (k1.join k2)=true->Rps (okK p H0 own Hb k) H vs ds->Rps (okK p H0 own Hb (k1.join k2)) H vs ds:=λhk z=>z.mono (λa o=>cj A hk o) (λ_ _ _ e=>e) λ_ _ e=>e
  obtain⟨k',hk',rk'⟩:=j9 A (bZ A k3 ((m j.1 rs1).app (m j.2 rs2))) nw au t.2
  exact q _ _ _ _ hk' k3 i3 rk'
 ·exact t.elim
def Ij(ha:PD X a ta)(hb:PD X b tb):PD X (.BinOp a .Add b pos) (t2 Ng ta tb):=lB Ja Ob ha hb
def JQ:G2:=λk1 d1 k2 d2 P=>match d1,d2 with
 |.tuple ds,.tuple es=>ds.length+es.length<=1000/\P (norm (k1.join k2) (.tuple (ds++es))) (.tuple (ds++es))
 |_,_=>False
def QT:Ok2 JQ Nz:=by
 intro p H0 own Hb H x y k1 d1 k2 d2 P Q A r1 r2 t q
 unfold JQ at t
 split at t
 ·obtain⟨c1,xs,e1,h1,rs1⟩:=r1.eO
  obtain⟨c2,ys,e2,h2,rs2⟩:=r2.eO
  subst e1 e2
  have h24:=ô
  refine⟨c1,c2,xs,ys,rfl,rfl,h1,h2,by rw[rs1.length,rs2.length];omega,λl H' sm hl=>?_⟩
  have K:Kp p H H':=Kp.of sm
  have j:=eZ k1 k2
  have m:∀{k vs ds},k.le (k1.join k2)=true->Rps (okK p H0 own Hb k) H vs ds->Rps (okK p H0 own Hb (k1.join k2)) H vs ds:=λhk z=>z.mono (λa o=>cj A hk o) (λ_ _ _ e=>e) λ_ _ e=>e
  exact q _ _ _ _ t.2 K (p.mono H H' A.pen λb o _ e=>sm b o e) (aY (.tup hl (bZ A K ((m j.1 rs1).app (m j.2 rs2)))))
 ·exact t.elim
def PB(ta:DE):DE:=λρ P=>ta ρ λ_ d=>match d with
 |.int i=>P .imm (.int (-i))
 |_=>False
def lQ(ha:PD X a ta):PD X (.UnaryOp .USub a pos) (PB ta):=PE.wk (NQ GJ ha) (by
 rintro σ H Q ⟨p,H0,own,ρ,P,E,t,q⟩
 refine⟨p,H0,own,ρ,_,E,t,λk d v H' h A r=>?_⟩
 cases d with
 |int i=>exact⟨i,r.int',q _ _ _ _ h A (.int _)⟩
 |_=>exact h.elim)
def Vd(te:DE)(g:DG):DS:=λP ρ=>te ρ λk d=>g (norm (elK k) d) d ρ P.nx
def Ub{p:Pn}{H0 Hb H:Hp}{own:Addr->Option Nat}(A:At p H0 own Hb H){k:Kd}{v:V}{d:D}(r:Rp (okK p H0 own Hb k) H v d):Rp (okB p H0 own (norm (elK k) d)) H v d:=by
 refine jy (r.mono (λa o=>?_) (λ_ _ _ e=>e) λ_ _ e=>e)
 cases k with
 |imm=>exact o
 |new=>exact⟨A.h0 o,A.nfb o,A.Io o⟩
 |reg q=>exact o
 |n0=>trivial
 |snw=>exact o
 |shr=>exact o
 |wk=>trivial
def Bq{g:DG}(h:PS X st (qL (bx te) (JC g))):PDS X st (Vd te g):=PS.wk' h (by
 rintro Q σ H ⟨p,H0,own,ρ,P,E,t,w⟩
 refine⟨p,H0,own,ρ,_,E,t,λk d v H1 h A r=>?_⟩
 exact⟨p,H0,own,ρ,_,d,P.nx,E.go A.kp A.pen,Ub A r,h,λσ' ρ' E' n=>w.nx own σ' H1 ρ' E' A.frs n⟩)
def RP(i:Nat)(te:DE):DS:=λP ρ=>match ρ[i]? with
 |some (.dw r (.list ds))=>te ρ λk d=>match d with
  |.list es=>(k.le .new || dH es)=true/\ds.length+es.length<=1000/\P.nx ((forget r ρ).set i (.dw r (.list (ds++es))))
  |_=>False
 |_=>False
def Dc{te:DE}{ρ:List Sl}{R:Kd->D->Prop}(t:te ρ R):bQ te je ρ (λks=>∃k d,ks=[(k,d)]/\R k d):=by
 show te ρ λk d=>∃k' d',[((k,d):Kd×D)]=[(k',d')]/\R k' d'
 have e:(λk d=>∃k' d',[((k,d):Kd×D)]=[(k',d')]/\R k' d')=R:=by
  funext k d
  apply propext
  constructor
  ·rintro⟨k',d',e,h⟩
   cases e
   exact h
  ·exact λh=>⟨k,d,rfl,h⟩
 rw[e]
 exact t
def yr{ok ok':Addr->Prop}{H H2:Hp}(f:∀{w:V}{d:D},Rp ok H w d->Rp ok' H2 w d):∀{vs:List V}{ds:List D},Rps ok H vs ds->Rps ok' H2 vs ds
 |_,_,.nil=>.nil
 |_,_,.cons h t=>.cons (f h) (yr f t)
def cJ{i:Nat}(h:PS X st (qI (tBM X.K "list" CJ (iH i) (jj (bQ te je))))):PDS X st (RP i te):=PS.wk' h (by
 rintro Q σ H ⟨p,H0,own,ρ,P,E,t,w⟩
 unfold RP at t
 split at t
 ·rename_i r ds hr
  obtain⟨v,hv,x⟩:=E.slot i _ hr
  obtain⟨l,vs,rfl,hl,ho,rs⟩:=x.bR
  refine⟨.ref l,hv,.inl ⟨rfl,vs,SqL.of ho⟩,p,H0,own,ρ,_,E,Dc t,?_⟩
  rintro ks ws H1 ⟨k,d,rfl,hh⟩ A rk
  cases d with
  |list es =>
   obtain⟨hk,hlen,hn⟩:=hh
   obtain⟨y,rfl,ry⟩:=fY rk
   obtain⟨b,zs,e1,o1,hb,rz⟩:=Rp.bR ry
   subst e1
   have rz2:Rps (okK p H0 own H .new) H1 zs es:=by
    rcases Bool.or_eq_true_iff.mp hk with q|q
    ·exact rz.mono (λa o=>cj A q o) (λ_ _ _ e=>e) λ_ _ e=>e
    ·exact(Rps.imm rz q).mono (λa o=>o.elim) (λ_ _ _ e=>e) λ_ _ e=>e
   have h1:H1 l=some (.lst vs):=A.kp l _ ho (E.ow l r hl).2.1
   have h24:=ô
   have l1:=rs.length
   have l2:=rz.length
   refine⟨l,b,vs,zs,rfl,rfl,h1,hb,by omega,?_⟩
   obtain⟨E2,F2⟩:=E.qU (vs':=vs++zs) (ds':=ds++es) A hv hl ho rs λH2 f g=>(mQ f rs λd hd=>jY hd).app (yr g rz2)
   exact w.nx _ σ _ _ E2 F2 hn
  |_=>exact hh.elim
 ·exact t.elim)
def Vb(i:Nat)(tj te:DE):DS:=λP ρ=>match ρ[i]? with
 |some (.dw r (.list ds))=>tj ρ λ_ dj=>te ρ λk d=>match dj with
  |.int j=>(norm k d).le .new=true/\0<=j/\j.toNat<=ds.length/\ds.length<1000/\P.nx ((forget r ρ).set i (.dw r (.list (ds.take j.toNat++d::ds.drop j.toNat))))
  |_=>False
 |_=>False
def FQ{i:Nat}{tj:DE}(h:PS X st (qI (tBM X.K "list" vL (iH i) (jj (bQ tj (bQ te je)))))):PDS X st (Vb i tj te):=PS.wk' h (by
 rintro Q σ H ⟨p,H0,own,ρ,P,E,t,w⟩
 unfold Vb at t
 split at t
 ·rename_i r ds hr
  obtain⟨v,hv,x⟩:=E.slot i _ hr
  obtain⟨l,vs,rfl,hl,ho,rs⟩:=x.bR
  refine⟨.ref l,hv,.inl ⟨rfl,vs,SqL.of ho⟩,p,H0,own,ρ,λks=>∃k1 dj k d,ks=[(k1,dj),(k,d)]/\(match dj with
   |.int j=>(norm k d).le .new=true/\0<=j/\j.toNat<=ds.length/\ds.length<1000/\P.nx ((forget r ρ).set i (.dw r (.list (ds.take j.toNat++d::ds.drop j.toNat))))
   |_=>False),E,?_,?_⟩
  ·show tj ρ λk1 dj=>te ρ λk d=>∃k1' dj' k' d',[((k1,dj):Kd×D),(k,d)]=[(k1',dj'),(k',d')]/\_
   have e:∀(k1:Kd) (dj:D),(λk d=>∃k1' dj' k' d',[((k1,dj):Kd×D),(k,d)]=[(k1',dj'),(k',d')]/\(match dj' with
    |.int j=>(norm k' d').le .new=true/\0<=j/\j.toNat<=ds.length/\ds.length<1000/\P.nx ((forget r ρ).set i (.dw r (.list (ds.take j.toNat++d'::ds.drop j.toNat))))
    |_=>False))=λk d=>(match dj with
    |.int j=>(norm k d).le .new=true/\0<=j/\j.toNat<=ds.length/\ds.length<1000/\P.nx ((forget r ρ).set i (.dw r (.list (ds.take j.toNat++d::ds.drop j.toNat))))
    |_=>False):=λk1 dj=>by
    funext k d
    apply propext
    constructor
    ·rintro⟨k1',dj',k',d',e,h⟩
     cases e
     exact h
    ·exact λh=>⟨k1,dj,k,d,rfl,h⟩
   simp only[e]
   exact t
  ·rintro ks ws H1 ⟨k1,dj,k,d,rfl,hh⟩ A rk
   cases dj with
   |int j =>
    obtain⟨hk,h0,hj,hlen,hn⟩:=hh
    obtain⟨y1,y,rfl,ry1,ry⟩:=Hi rk
    have ry:=mR A hk (aY ry)
    have e1:=Rp.int' ry1
    have h1:H1 l=some (.lst vs):=A.kp l _ ho (E.ow l r hl).2.1
    have h24:=ô
    have l1:=rs.length
    refine⟨l,vs,j.toNat,y,rfl,?_,h1,by omega,by omega,?_⟩
    ·rw[e1]
     have:((j.toNat:Nat):Int)=j:=by omega
     rw[this]
    obtain⟨E2,F2⟩:=E.qU (vs':=vs.take j.toNat++y::vs.drop j.toNat) (ds':=ds.take j.toNat++d::ds.drop j.toNat) A hv hl ho rs λH2 f g=>by
     have m:=mQ f rs λd hd=>jY hd
     exact(m.take _).app (.cons (g ry) (m.drop _))
    exact w.nx _ σ _ _ E2 F2 hn
   |_=>exact hh.elim
 ·exact t.elim)
end
variable [Gr]
structure Cal(P:Program)(w:World)(K:Ú)(mg:Str->Option Value)(base:Heap)(k:Nat)(x:Str)(ps:List Str)(sp:Sp):Prop where
 ex:∃f fd,FnOk P w K mg base CX0 k f fd ps sp/\Binds K fd ps []/\W.keepIn K (.ref f)=true/\mg x=some (.ref f)
section
variable {X:Cx}{k j:Nat}{x:Str}{ps:List Str}{e:Expr}{es:List Expr}{t:DA}{p pos pq:Pos}
def pcS{sp:Sp}{ta:TA}(C:Cal X.prog X.w X.K X.mg X.base k x ps sp)(hr:Room j X.A)(ha:PA X (e::es) ta)(hk:k<=j)(hg:Gl X x)(hdb:zB x)(he:zS X e es)(hpl:zP X pos es) :
  PE X (.Call (.Name x p) (e::es) [] pos) (ug sp [] E0 ta):=by
 obtain⟨f,fd,F,b,kp,m⟩:=C.ex
 exact Ln F (hr.mono hk) hg m kp b .nil NT ha hdb he hpl
def dc{f:List D->(D->Prop)->Prop}(C:Cal X.prog X.w X.K X.mg X.base k x ps (spD f))(hr:Room j X.A)(ha:PDA X (e::es) t)(hk:k<=j:=by decide)(hg:Gl X x:=by rfl)(hdb:zB x:=by decide)(he:zS X e es:=by rfl)(hpl:zP X pos es:=by rfl) :
  PD X (.Call (.Name x p) (e::es) [] pos) (tFn f t):=PE.wk (pcS C hr ha hk hg hdb he hpl) Mz
def dcP{C:Pn->Prop}{i:Nat}{f:List D->(D->Prop)->Prop}{y:Str}{py:Pos}(CC:Cal X.prog X.w X.K X.mg X.base k x ps (spP C f))(hr:Room j X.A)(hi:PE X (.Name y py) (iH i))(ha:PDA X es t)(hk:k<=j:=by decide)(hg:Gl X x:=by rfl)(hdb:zB x:=by decide)(he:starEach (.Name y py::es) X.env=(false,eval (.Name y py) X.env)::starEach es X.env:=by rfl)(hpl:zP X pos es:=by rfl) :
  PD X (.Call (.Name x p) (.Name y py::es) [] pos) (PX C f i t):=PE.wk (pcS CC hr (dB hi ha) hk hg hdb he hpl) Jy
def dv(i:Nat){x:Str}{pos:Pos}(hN:X.N[i]?=some x:=by rfl)(hv:Vis X.env.scope x:=by first|exact ć rfl|exact Or.inr (ć rfl)|exact Or.inr (Or.inr rfl))(hd:zB x:=by decide)(hcd:(x == ("__classdict__":Str))=false:=by decide):PD X (.Name x pos) (tV i):=Qq (pv i hN hv hd hcd)
end
structure Bn(mg:Str->Option Value):Prop where
 isinstance:mg "isinstance"=none
 int:mg "int"=none
 bool:mg "bool"=none
 tuple:mg "tuple"=none
 list:mg "list"=none
 len:mg "len"=none
 all:mg "all"=none
 min:mg "min"=none
 max:mg "max"=none
 sorted:mg "sorted"=none
 range:mg "range"=none
 abs:mg "abs"=none
def boot_all:bootBuiltins "all"=some (.builtin "all"):=by decide +kernel
def boot_abs:bootBuiltins "abs"=some (.builtin "abs"):=by decide +kernel
def GQ{i:Nat}{ρ:List Sl}{d:D}{P:DK}(h:ρ[i]?=some (bw d))(q:∀k,P k d):tV i ρ P:=by
 unfold tV
 rw[h]
 unfold bw
 by_cases hi:gb d=true
 ·rw[if_pos hi];exact q _
 ·rw[if_neg hi];exact q _
def MF{f:List D->(D->Prop)->Prop}{n:Nat}(hn:∀ds P,f ds P->ds.length=n:=by intro _ _ h;repeat (first|(obtain⟨rfl,_⟩:=h;rfl)|obtain⟨_,h⟩:=h)):∀vs H Q E,spD f vs H Q E->vs.length=n:=λvs H Q E h=>by
 obtain⟨ds,P,r,t,_⟩:=h
 rw[r.length]
 exact hn ds P t
def aR{f:List D->(D->Prop)->Prop}{T:DS}{N:List Str}{vs:List V}{H:Hp}{Q:VK}{E:XK}(h:spD f vs H Q E)(body:∀ds P,f ds P->∃ρ,ds.map bw++É (N.length - ds.length) .any=ρ/\T { nx:=λ_=>P .none,rt:=P } ρ)(g:Gr.G dR H:=by trivial):nM T { nx:=λ_ H'=>Q .non H',rt:=Q } (L2.start N vs) H :=
 w6 h (λds P t=>by
  obtain⟨ρ,e,q⟩:=body ds P t
  rw[e]
  exact q) g
def aD(n:Int)(us:List Tie):D:=.tuple [.int n,.tuple (us.map pD)]
def d7(n:Int)(us:List Tie):gb (aD n us)=true:=by
 show(gb (.int n)&&(dH (us.map pD)&&true))=true
 rw[cX]
 rfl
def bL(n:Int)(us:List Tie):bw (aD n us)=.im (aD n us):=if_pos (d7 n us)
def isW:D->Bool
 |.int _=>true
 |_=>false
def JZ(ds:List D)(P:D->Prop):Prop:=∃d,ds=[d]/\P (.bool (isW d))
def cR(m:Int):D->Bool
 |.int i=>decide (0<=i/\i<m)
 |_=>false
def Bo(ds:List D)(P:D->Prop):Prop:=∃m d,ds=[.int m,d]/\P (.bool (cR m d))
def enterQ{C:Pn->Prop}{f:List D->(D->Prop)->Prop}{T:DS}{N:List Str}{vs:List V}{H:Hp}{Q:VK}{E:XK}(h:spP C f vs H Q E)(body:∀ds P,f ds P->∃ρ,ds.map bw++É (N.length - (ds.length+1)) .any=ρ/\T { nx:=λ_=>P .none,rt:=P } (.pen C::ρ))(g:∀p,Gr.G p H:=by intro _;trivial):nM T { nx:=λ_ H'=>Q .non H',rt:=Q } (L2.start N vs) H :=
 RJ h (λds P t=>by
  obtain⟨ρ,e,q⟩:=body ds P t
  rw[e]
  exact q) g
variable [Gr]
def wW{α β:Type}{ds:List α}{i:Nat}{d:α}(p:α->Bool)(f:α->β)(h:ds[i]?=some d):((ds.take (i+1)).filter p).map f=((ds.take i).filter p).map f++(if p d=true then [f d] else []):=by
 rw[Ľ,h,List.filter_append,Ù]
 congr 1
 by_cases hp:p d=true
 ·simp[hp]
 ·simp[hp]
def pF{α β:Type}{ds:List α}{i:Nat}{d:α}(f:α->β)(h:ds[i]?=some d):(ds.take (i+1)).map f=(ds.take i).map f++[f d]:=by
 rw[Ľ,h,Ù]
 rfl
def cC{α β:Type}{l:List α}{g:α->β}{i:Nat}{d:β}(h:(l.map g)[i]?=some d):∃x,l[i]?=some x/\g x=d:=by
 rw[ß] at h
 cases e:l[i]? with
 |none=>rw[e] at h;cases h
 |some x=>rw[e] at h;exact⟨x,rfl,á h⟩
def take_all{α:Type}(l:List α){n:Nat}(h:l.length<=n):l.take n=l:=ū h
def bK:∀l:List Int,(l.map Â).all okD=true
 |[]=>rfl
 |x::l=>by
  rw[à,List.all_cons,bK l]
  rfl
def any_ints(x:Int):∀l:List Int,((l.map Â).any λe=>í e (.int x))=decide (x∈l)
 |[]=>rfl
 |y::l=>by
  rw[à,List.any_cons,any_ints x l]
  have e:í (.int y) (.int x)=(y == x):=rfl
  rw[e,ġ,Bool.or_eq_true,beq_iff_eq,decide_eq_true_eq,decide_eq_true_eq,Ñ]
  constructor
  ·rintro(h|h)
   ·exact .inl h.symm
   ·exact .inr h
  ·rintro(h|h)
   ·exact .inl h.symm
   ·exact .inr h
def Ft(lo:Int)(n:Nat):(qg lo n).length=n:=by unfold qg;simp
def Fz{lo:Int}{n i:Nat}{d:D}(h:(qg lo n)[i]?=some d):i<n/\d=.int (lo+((i:Nat):Int)):=by
 unfold qg at h
 obtain⟨x,hx,e⟩:=cC h
 obtain⟨h1,h2⟩:=Ê.mp hx
 have h3:i<n:=by simpa using h1
 have h4:x=i:=by simpa using h2.symm
 subst h4
 exact⟨h3,e.symm⟩
variable [Gr]
section
variable {X:Cx}{pos p2:Pos}{a b e:Expr}{ta tb te:DE}
def Rps.rep{ok:Addr->Prop}{H:Hp}{vs:List V}{ds:List D}(r:Rps ok H vs ds):∀k:Nat,Rps ok H (É k vs).flatten (É k ds).flatten
 |0=>.nil
 |k+1=>by
  rw[Ą,Ą,ë,ë]
  exact r.app (Rps.rep r k)
def M6:G2:=λk1 d1 _ d2 P=>match d1,d2 with
 |.list ds,.int k=>0<=k/\k<1000/\ds.length * k.toNat<=1000/\newP k1 (É k.toNat ds).flatten λk'=>P k' (.list (É k.toNat ds).flatten)
 |_,_=>False
def N6:Ok2 M6 Tr:=by
 intro p H0 own Hb H x y k1 d1 k2 d2 P Q A r1 r2 t q
 unfold M6 at t
 split at t
 ·rename_i ds k
  obtain⟨c1,xs,e1,o1,h1,rs1⟩:=r1.bR
  subst e1
  have h24:=ô
  refine⟨c1,k,xs,rfl,r2.int',h1,by omega,by omega,by rw[rs1.length];omega,λl hl=>?_⟩
  obtain⟨k3,i3,nw⟩:=A.new hl (.lst (É k.toNat xs).flatten)
  obtain⟨k',hk',rk'⟩:=j9 A (bZ A k3 (rs1.rep k.toNat)) nw au t.2.2.2
  exact q _ _ _ _ hk' k3 i3 rk'
 ·exact t.elim
def Qs(ha:PD X a ta)(hb:PD X b tb):PD X (.BinOp a .Mult b pos) (t2 M6 ta tb):=lB Ir N6 ha hb
def Nb:G2:=λ_ d1 _ d2 P=>match d1,d2 with
 |.bool i,.bool j=>P .imm (.bool (decide (i=j)))
 |_,_=>False
def Uc:Ok2 Nb (λx y H Q=>∃a b,x=.bl a/\y=.bl b/\Q (.bl (decide (a=b))) H):=by
 intro p H0 own Hb H x y k1 d1 k2 d2 P Q A r1 r2 t q
 unfold Nb at t
 split at t
 ·cases r1
  cases r2
  exact⟨_,_,rfl,rfl,q _ _ _ _ t Kp.refl A.pen (.bl _)⟩
 ·exact t.elim
def Aj(ha:PD X a ta)(hb:PD X b tb):PD X (.Compare a [.Is] [b] pos) (t2 Nb ta tb):=iQ Iz Uc ha hb (bM _)
end
def mY(ns:List Int):∀k,k<=ns.length->PySem.preSum (λi=>ns.getD i 0) k=(ns.take k).sum
 |0,_=>rfl
 |k+1,h=>by
  show PySem.preSum _ k+ns.getD k 0=_
  have hk:k<ns.length:=by omega
  have e:ns.take (k+1)=ns.take k++[ns[k]]:=by rw[Ľ,Ç hk];rfl
  have e2:ns.getD k 0=ns[k]:=by rw[Ð,Ç hk];rfl
  rw[mY ns k (by omega),e,e2,List.sum_append,ò,List.sum_nil,Int.add_zero]
def oO:∀(ns:List Int) (b:Int),(∀x∈ns,-b<=x/\x<=b)->-(b * ns.length)<=ns.sum/\ns.sum<=b * ns.length
 |[],b,_=>by simp
 |x::ns,b,h=>by
  obtain⟨h1,h2⟩:=oO ns b λy hy=>h y (Ã _ hy)
  have hx:=h x Æ
  have e:b * ((x::ns).length:Int)=b * ns.length+b:=by
   rw[ã]
   have:(((ns.length+1:Nat)):Int)=(ns.length:Int)+1:=by omega
   rw[this,Int.mul_add,Int.mul_one]
  rw[e,ò]
  omega
section
variable {X:Cx}{pos:Pos}{a:Expr}{t:DA}
def Gb(hc:X.calm=true):bI X (.builtin "sum") (λxs H Q=>∃(p:Addr) (ns:List Int),xs=[.ref p]/\SqL X.K H p (ns.map V.int)/\ns.length<=1000/\(∀x∈ns,-1000000<=x/\x<=1000000)/\Q (.int ns.sum) H):=by
 intro pins s σ H xs us Q I r h
 obtain⟨p,ns,rfl,hp,hl,hs,q⟩:=h
 obtain⟨u,rfl,rx⟩:=vals1 r
 cases rx
 obtain⟨its,rv,pl,hz⟩:=I.list hp
 have hlen:its.length=ns.length:=by have:=rv.length;rw[Á] at this;exact this.symm
 have hlt:p≠s.heap.objs.size:=by obtain⟨o,ho,_⟩:=pl.isList;exact â (Ï ho)
 have hltp:p<s.heap.objs.size:=by obtain⟨o,ho,_⟩:=pl.isList;exact Ï ho
 have at':∀i v,its[i]?=some v->∃t,v=Ō (ns.getD i 0) t:=λi v e=>by
  have hi:i<its.length:=(Ê.mp e).1
  have hv:(ns.map V.int)[i]?=some (V.int ns[i]):=by rw[ß,Ç (show i<ns.length by omega)];rfl
  obtain⟨u,eu,ru⟩:=rv.get hv
  rw[e] at eu
  cases eu
  obtain⟨t,rfl⟩:=ru
  exact⟨t,by rw[Ð,Ç (show i<ns.length by omega)];rfl⟩
 refine call_sum_walk (wpAny_pyIter_list pl.isList ?_)
 refine⟨_,_,_,_,_,_,λi=>ns.getD i 0,rfl,Walks.list (A:=X.A.in1) (I.ok.hd hc) _ p hlt _,⟨⟨_,ä _ rfl,rfl,rfl⟩,pl.isList.push _⟩,?_,λi v e=>at' i v (by simpa using e),λj hj=>?_,λh' tk t' hk=>?_⟩
 ·intro b hb
  show b<(s.heap.push _).objs.size
  rw[Ť]
  simp at hb
  rcases hb with rfl|rfl
  ·exact Ũ _
  ·exact ċ hltp
 ·have hj:j<ns.length:=by simpa[hlen] using hj
  have e:ns.getD j 0=ns[j]:=by rw[Ð,Ç hj];rfl
  have b1:=hs _ (ģ hj)
  have b2:=oO (ns.take (j+1)) 1000000 λx hx=>hs x (List.mem_of_mem_take hx)
  have b3:(ns.take (j+1)).length<=1000:=by rw[Ģ];omega
  rw[mY ns (j+1) hj]
  refine⟨?_,?_⟩
  ·show -(2 ^ 63)<=ns.getD j 0/\ns.getD j 0<2 ^ 63
   rw[e]
   omega
  ·show -(2 ^ 63)<=(ns.take (j+1)).sum/\(ns.take (j+1)).sum<2 ^ 63
   omega
 ·have e:PySem.preSum (λi=>ns.getD i 0) its.toArray.size=ns.sum:=by
   rw[Í,hlen,mY ns ns.length (Ì _),ē]
  rw[e]
  refine⟨.int ns.sum,H,I.kept λb o eb=>hk b o ?_ (Ó _ eb),⟨_,rfl⟩,q⟩
  intro hm
  have:b=s.heap.objs.size:=by simpa using hm
  exact absurd (this ▸ Ï eb) (č _)
variable [Gr]
def boot_sum:bootBuiltins "sum"=some (.builtin "sum"):=by decide +kernel
end
variable [Gr]
section
variable {X:Cx}{pos:Pos}{a b e:Expr}{ta tb te:DE}
end
variable [Gr]
section
variable {X:Cx}{pos:Pos}{a b e:Expr}{ta tb te:DE}
end
variable [Gr]
section
variable {X:Cx}{pos:Pos}{st:Stmt}
end
@[reducible] def grX(H:Hp):Gr:=⟨λp H0=>p=dR/\H0=H⟩
structure Cal1(P:Program)(w:World)(K:Ú)(mg:Str->Option Value)(base:Heap)(k:Nat)(x:Str)(ps:List Str)(sp:Sp):Prop where
 ex:∃f fd,FnOk P w K mg base (CX1 P w) k f fd ps sp/\Binds K fd ps []/\W.keepIn K (.ref f)=true/\mg x=some (.ref f)
section
variable {X:Cx}{E:XK}{k j:Nat}{x:Str}{ps:List Str}{e:Expr}{es:List Expr}{p pos:Pos}
end
variable [Gr]
section
variable {X:Cx}{pos:Pos}{a b e:Expr}{ta tb te:DE}{t:DA}
end
end Dl
namespace L2
open PySem PyProof.Rows
def yU:∀{ns:List Int}{us:List Value},Vals (ns.map V.int) us->IntsAre us ns
 |[],_,.nil=>.nil
 |n::ns,_,.cons r t=>by
  obtain⟨k,rfl⟩:=r
  exact .cons n k (yU t)
def once(ns:List Int):List Int:=ns.foldl step_dedup []
def Bl(ns:List Int){m:Nat}(hm:m=ns.length):firstMet (λi=>ns.getD i 0) m=once ns:=by
 subst hm
 unfold firstMet once
 congr 1
 refine List.ext_getElem (by simp) λi h1 h2=>?_
 simp at h1
 simp[Ð,h1]
section
variable {X:Cx}
def zx(hc:X.calm=true):bI X (.type "set") (λxs H Q=>∃p ns,xs=[.ref p]/\SqL X.K H p (ns.map V.int)/\ns.length<=1000/\∀l S,H l=none->Q (.ref l) (upd H l (.set S (once ns).length))):=by
 intro pins s σ H xs us Q I r h
 obtain⟨p,ns,rfl,hq,hl,q⟩:=h
 obtain⟨u,rfl,rx⟩:=vals1 r
 cases rx
 obtain⟨its,r',pl,hz⟩:=I.list hq
 have hlen:=r'.length
 rw[Á] at hlen
 refine call_set_list (items:=its.toArray) (ns:=ns) (I.ok.hd hc) pl.isList (by simpa using yU r') ?_ λh' tk st k=>?_
 ·show its.toArray.size+1<scanBound
  rw[Í,←hlen]
  exact Nat.lt_of_le_of_lt (Nat.add_le_add_right hl 1) (by decide)
 ·rw[Bl ns (by rw[Í,←hlen])] at st
  refine⟨.ref s.heap.objs.size,_,I.laid (t':=tk) (λb o e=>k b o (Ï e) e) (Ì _) (show bY X.prog X.w _ h' _ (.set _ (once ns).length) from st),rfl,q _ _ (I.hok.fresh (Ì _))⟩
def tZ:bI X (.builtin "len") (λxs H Q=>∃p S n,xs=[.ref p]/\H p=some (.set S n)/\n<=1000/\Q (.int (n:Int)) H):=by
 intro pins s σ H xs us Q I r h
 obtain⟨p,S,n,rfl,hq,hl,q⟩:=h
 obtain⟨u,rfl,rx⟩:=vals1 r
 cases rx
 obtain⟨o,es,ep,t,e1,e2,e3,_,_,_,e6,e7⟩:=I.hok p _ hq
 refine call_len_set e1 e2 e3 e6 (by rw[e7];omega) ?_
 rw[e7]
 exact⟨.int n,H,I.tok _,⟨_,rfl⟩,q⟩
end
def jD:∀(ns acc:List Int),(ns.foldl step_dedup acc).length<=acc.length+ns.length
 |[],acc=>Ì _
 |n::ns,acc=>by
  rw[List.foldl_cons]
  have h:=jD ns (step_dedup acc n)
  have:(step_dedup acc n).length<=acc.length+1:=by
   unfold step_dedup
   split
   ·omega
   ·rw[È];exact Ì _
  rw[ã]
  omega
def yF:∀(ns acc:List Int),((ns.foldl step_dedup acc).length=acc.length+ns.length)↔(ns.Nodup/\∀x∈ns,x∉acc)
 |[],acc=>by simp
 |n::ns,acc=>by
  rw[List.foldl_cons,ã,ś]
  by_cases hn:n∈acc
  ·have e:step_dedup acc n=acc:=by
    unfold step_dedup
    rw[if_pos (List.any_eq_true.mpr ⟨n,hn,by simp⟩)]
   rw[e]
   have:=jD ns acc
   constructor
   ·intro h;omega
   ·rintro⟨_,h⟩
    exact absurd hn (h n Æ)
  ·have e:step_dedup acc n=acc++[n]:=by
    unfold step_dedup
    rw[if_neg (λz=>by
     obtain⟨x,hx,ex⟩:=List.any_eq_true.mp z
     have:x=n:=by simpa using ex
     exact hn (this ▸ hx))]
   rw[e]
   have ih:=yF ns (acc++[n])
   rw[È,Ü] at ih
   constructor
   ·intro h
    obtain⟨a,b⟩:=ih.mp (by omega)
    refine⟨⟨λz=>b n z (ì _ (Ô.mpr rfl)),a⟩,λx hx=>?_⟩
    rcases Ñ.mp hx with z|z
    ·rw[z];exact hn
    ·exact λy=>b x z (ī _ y)
   ·rintro⟨⟨a,b⟩,c⟩
    have:=ih.mpr ⟨b,λx hx z=>by
     rcases å.mp z with y|y
     ·exact c x (Ã _ hx) y
     ·rw[Ô.mp y] at hx;exact a hx⟩
    omega
def Al(ns:List Int):(once ns).length=ns.length↔ns.Nodup:=by
 have:=yF ns []
 simp at this
 exact this
end L2
namespace Dl
open PySem L2 PyProof.Rows
variable [Gr]
section
variable {X:Cx}{pos pos':Pos}{a:Expr}{t:DA}
def boot_set:bootBuiltins "set"=some (.type "set"):=by decide +kernel
def M8:GC:=λks P=>∃k ns,ks=[(k,.list (ns.map Â))]/\ns.length<=1000/\P .imm (.int ((once ns).length:Nat))
def EY{ps ps':Pos}(hc:X.calm=true)(hs:X.mg "set"=none)(hl:X.mg "len"=none)(ha:PDA X [a] t)(hgs:Gl X "set":=by rfl)(hgl:Gl X "len":=by rfl)(he:zS X a []:=by rfl)(hpl:zP X pos []:=by rfl)(he':starEach [Expr.Call (.Name "set" ps) [a] [] pos] X.env=(false,eval (Expr.Call (.Name "set" ps) [a] [] pos) X.env)::starEach [] X.env:=by rfl)(hpl':(backTo pos' (starEach [] X.env)).any (·.1)=false:=by rfl) :
  PD X (.Call (.Name "len" ps') [.Call (.Name "set" ps) [a] [] pos] [] pos') (tCl M8 t) :=
 PE.wk (eE tZ hgl hl PySem.boot_len (dB (uD (zx hc) hgs hs boot_set ha (by decide) (by decide) he hpl) pA he') (by decide) (by decide) he' hpl') (by
  rintro σ H Q ⟨p,H0,own,ρ,P,E,t,q⟩
  refine⟨p,H0,own,ρ,_,E,t,λks vs H1 h A r=>?_⟩
  obtain⟨k,ns,rfl,hn,h⟩:=h
  obtain⟨v,rfl,r'⟩:=fY r
  obtain⟨c,ws,rfl,o,hc',rs⟩:=r'.bR
  have ew:=rs.ints
  subst ew
  refine⟨c,ns,rfl,SqL.of hc',hn,λl S hl'=>?_⟩
  obtain⟨k2,i2,nw⟩:=A.new hl' (.set S (once ns).length)
  have h1:=jD ns []
  exact⟨l,S,_,rfl,au,by unfold once;simp at h1;omega,q _ _ _ _ h (A.go k2 i2) (.int _)⟩)
end
variable [Gr]
section
variable {X:Cx}{pos p2:Pos}{a b c e:Expr}{es:List Expr}{ta tb tc te:DE}{t:DA}{st:Stmt}
def OpR.or{f:Value->Value->Sem Value}{r r':R2}(h:OpR X f r)(h':OpR X f r'):OpR X f (λx y H Q=>r x y H Q\/r' x y H Q):=by
 intro pins s σ H x y v u Q I rx ry q
 rcases q with q|q
 ·exact h pins s σ H x y v u Q I rx ry q
 ·exact h' pins s σ H x y v u Q I rx ry q
def bI.or{f:Value}{r r':List V->Hp->VK->Prop}(h:bI X f r)(h':bI X f r'):bI X f (λx H Q=>r x H Q\/r' x H Q):=by
 intro pins s σ H x v Q I rx q
 rcases q with q|q
 ·exact h pins s σ H x v Q I rx q
 ·exact h' pins s σ H x v Q I rx q
def Ih(ha:PD X a ta)(hb:PD X b tb)(hs:oJ b:=by exact λ_ _=>rfl):PD X (.Subscript a b pos) (t2 gIx ta tb):=PE.wk (fL (IxR.or cQ wQ) ha hb hs) (uM (by
 intro p H0 own Hb H x y k1 d1 k2 d2 P Q A r1 r2 t q
 unfold gIx at t
 split at t
 ·rename_i ds i
  obtain⟨d,hd,t⟩:=t
  obtain⟨c,vs,rfl,o,hc,rs⟩:=r1.bR
  obtain⟨v,hv,rv⟩:=rs.atI hd
  exact .inl ⟨c,vs,i,v,rfl,r2.int',SqL.of hc,hv,q _ _ _ _ t Kp.refl A.pen (aY rv)⟩
 ·rename_i ds i
  obtain⟨d,hd,t⟩:=t
  obtain⟨c,vs,rfl,hc,rs⟩:=r1.eO
  obtain⟨v,hv,rv⟩:=rs.atI hd
  exact .inr ⟨c,vs,i,v,rfl,r2.int',SqT.of hc,hv,q _ _ _ _ t Kp.refl A.pen (aY rv)⟩
 ·exact t.elim))
def Ou:G2:=λk1 d1 k2 d2 P=>match d1 with
 |.int i=>(match d2 with
  |.int j=>P .imm (.int (i+j))
  |_=>False)
 |.list ds=>Ng k1 (.list ds) k2 d2 P
 |.tuple ds=>JQ k1 (.tuple ds) k2 d2 P
 |_=>False
def vV(ha:PD X a ta)(hb:PD X b tb):PD X (.BinOp a .Add b pos) (t2 Ou ta tb):=lB (OpR.or iT (OpR.or Ja Lw)) (by
 intro p H0 own Hb H x y k1 d1 k2 d2 P Q A r1 r2 t q
 cases d1 with
 |int i =>
  cases d2 with
  |int j=>exact .inl ⟨i,j,r1.int',r2.int',q _ _ _ _ t Kp.refl A.pen (.int _)⟩
  |_=>exact t.elim
 |list ds=>exact .inr (.inl (Ob p H0 own Hb H x y k1 _ k2 d2 P Q A r1 r2 t q))
 |tuple ds=>exact .inr (.inr (QT p H0 own Hb H x y k1 _ k2 d2 P Q A r1 r2 t q))
 |_=>exact t.elim) ha hb
def JM:G2:=λk1 d1 k2 d2 P=>match d1 with
 |.int i=>(match d2 with
  |.int j=>KN i j/\P .imm (.int (i * j))
  |_=>False)
 |.list ds=>M6 k1 (.list ds) k2 d2 P
 |_=>False
def fM(ha:PD X a ta)(hb:PD X b tb):PD X (.BinOp a .Mult b pos) (t2 JM ta tb):=lB (OpR.or lU Ir) (by
 intro p H0 own Hb H x y k1 d1 k2 d2 P Q A r1 r2 t q
 cases d1 with
 |int i =>
  cases d2 with
  |int j=>exact .inl ⟨i,j,r1.int',r2.int',t.1,q _ _ _ _ t.2 Kp.refl A.pen (.int _)⟩
  |_=>exact t.elim
 |list ds=>exact .inr (N6 p H0 own Hb H x y k1 _ k2 d2 P Q A r1 r2 t q)
 |_=>exact t.elim) ha hb
def nW(neg:Bool):G2:=λk1 d1 k2 d2 P=>match scD d1 d2 with
 |some b=>P .imm (.bool (if neg then !b else b))
 |none=>Uv neg k1 d1 k2 d2 P
def Oa{K:Ú}:Ok2 (nW false) (λx y H Q=>rEq x y H Q\/Ho K false x y H Q):=by
 intro p H0 own Hb H x y k1 d1 k2 d2 P Q A r1 r2 t q
 cases e:scD d1 d2 with
 |some b =>
  have t':gEq false k1 d1 k2 d2 P:=by
   unfold nW at t
   unfold gEq
   rw[e] at t ⊢
   exact t
  exact .inl (QS p H0 own Hb H x y k1 d1 k2 d2 P Q A r1 r2 t' q)
 |none =>
  unfold nW at t
  rw[e] at t
  exact .inr (N8 false p H0 own Hb H x y k1 d1 k2 d2 P Q A r1 r2 t q)
def N7{K:Ú}:Ok2 (nW true) (λx y H Q=>rNe x y H Q\/Ho K true x y H Q):=by
 intro p H0 own Hb H x y k1 d1 k2 d2 P Q A r1 r2 t q
 cases e:scD d1 d2 with
 |some b =>
  have t':gEq true k1 d1 k2 d2 P:=by
   unfold nW at t
   unfold gEq
   rw[e] at t ⊢
   exact t
  exact .inl (QM p H0 own Hb H x y k1 d1 k2 d2 P Q A r1 r2 t' q)
 |none =>
  unfold nW at t
  rw[e] at t
  exact .inr (N8 true p H0 own Hb H x y k1 d1 k2 d2 P Q A r1 r2 t q)
def rC(hu:X.A.units+64<cLine)(ha:PD X a ta)(hb:PD X b tb):PD X (.Compare a [.Eq] [b] pos) (t2 (nW false) ta tb):=iQ (OpR.or uG (IW hu)) Oa ha hb (bM _)
def vW(hu:X.A.units+64<cLine)(ha:PD X a ta)(hb:PD X b tb):PD X (.Compare a [.NotEq] [b] pos) (t2 (nW true) ta tb):=iQ (OpR.or CZ (Iw hu)) N7 ha hb (bM _)
def gq(hu:X.A.units+64<cLine)(ha:PD X a ta)(hb:PD X b tb):PDT X (.Compare a [.Eq] [b] pos) (fX (t2 (nW false) ta tb)):=eY (OpR.or uG (IW hu)) Oa ha hb (bM _)
def vU(hu:X.A.units+64<cLine)(ha:PD X a ta)(hb:PD X b tb):PDT X (.Compare a [.NotEq] [b] pos) (fX (t2 (nW true) ta tb)):=eY (OpR.or CZ (Iw hu)) N7 ha hb (bM _)
end
section
variable {n:Nat}{g:DG}{tt:DT}{te:DE}{ρ:List Sl}{k:Kd}{ds:List D}{R:Kd->List D->Prop}
def Mq{α β:Type}(f:α->β){l:List α}{i:Nat}{x:α}(h:l[i]?=some x):(l.take (i+1)).map f=(l.take i).map f++[f x]:=by
 rw[Ľ,h]
 simp
def pH{α:Type}(xs:List α)(e f:α->D)(ke:Kd)(hd:ds=xs.map e)(hl:xs.length<=1000)(step:∀x∈xs,∀(A:D->Prop) (B:Prop),A (f x)->g (norm (elC k) (e x)) (e x) (É n .any++ρ) λρ'=>if true=true then te ρ' λk' d'=>(norm k' d').le ke=true/\A d' else B)(q:R ke (xs.map f)) :
  ds.length<=1000/\∃(ke:Kd) (Iv:Nat->List D->Prop),Iv 0 [] /\
   (∀i d ys,ds[i]?=some d->Iv i ys->g (norm (elC k) d) d (É n .any++ρ) λρ'=>if true=true then te ρ' λk' d'=>(norm k' d').le ke=true/\Iv (i+1) (ys++[d']) else Iv (i+1) ys) /\
   ∀ys,Iv ds.length ys->R ke ys:=by
 subst hd
 refine⟨by rw[Á];exact hl,ke,λi ys=>ys=(xs.take i).map f,rfl,?_,?_⟩
 ·rintro i d ys hd rfl
  rw[ß] at hd
  cases hx:xs[i]? with
  |none=>rw[hx] at hd;cases hd
  |some x =>
   rw[hx] at hd
   have hd:=á hd
   subst hd
   exact step x (Î hx) (λd'=>(xs.take i).map f++[d']=(xs.take (i+1)).map f) _ (Mq f hx).symm
 ·rintro ys rfl
  rw[Á,ē]
  exact q
def sy{α:Type}(xs:List α)(e:α->D)(p:α->Bool)(f:α->D)(ke:Kd)(hd:ds=xs.map e)(hl:xs.length<=1000)(step:∀x∈xs,∀(A:D->Prop) (B:Prop),(p x=true->A (f x))->(p x=false->B)->g (norm (elC k) (e x)) (e x) (É n .any++ρ) λρ'=>tt ρ' λb=>if b=true then te ρ' λk' d'=>(norm k' d').le ke=true/\A d' else B)(q:R ke ((xs.filter p).map f)) :
  ds.length<=1000/\∃(ke:Kd) (Iv:Nat->List D->Prop),Iv 0 [] /\
   (∀i d ys,ds[i]?=some d->Iv i ys->g (norm (elC k) d) d (É n .any++ρ) λρ'=>tt ρ' λb=>if b=true then te ρ' λk' d'=>(norm k' d').le ke=true/\Iv (i+1) (ys++[d']) else Iv (i+1) ys) /\
   ∀ys,Iv ds.length ys->R ke ys:=by
 subst hd
 refine⟨by rw[Á];exact hl,ke,λi ys=>ys=((xs.take i).filter p).map f,rfl,?_,?_⟩
 ·rintro i d ys hd rfl
  rw[ß] at hd
  cases hx:xs[i]? with
  |none=>rw[hx] at hd;cases hd
  |some x =>
   rw[hx] at hd
   have hd:=á hd
   subst hd
   have sn:((xs.take (i+1)).filter p).map f=((xs.take i).filter p).map f++if p x=true then [f x] else []:=by
    rw[Ľ,hx,List.filter_append,Ù]
    cases hp:p x <;> simp[hp]
   refine step x (Î hx) (λd'=>((xs.take i).filter p).map f++[d']=((xs.take (i+1)).filter p).map f) _ (λh=>?_) (λh=>?_)
   ·rw[sn,if_pos h]
   ·show _=_
    rw[sn,h,if_neg Ò,ð]
 ·rintro ys rfl
  rw[Á,ē]
  exact q
end
section
variable {g:DG}{tb:DS}{k:Kd}{ds:List D}{ρ:List Sl}{P:DEnds}
end
variable [Gr]
section
variable {X:Cx}{scope:Scope}{tg iter elt:Expr}{ifs:List Expr}{pos:Pos}{ti:DI}{g:DG}{tt:DT}{te:DE}
def Qj(own:List Str){i:Nat}{y:Str}{py spos:Pos}(hc:X.calm=true)(hN:X.N.Nodup)(hiN:X.N[i]?=some y)(hx:Loc X.env.scope y)(hi:PDI X tg iter ti)(hg:∀c,PDG (X.comp own scope c) tg g)(ht:∀c,BX (X.comp own scope c) ifs tt)(he:∀c,PD (X.comp own scope c) elt te)(hsw:swapsWith (.ListComp elt [⟨tg,iter,ifs,0⟩] scope pos) (some (.Name y py)) spos.line X.env=pure true:=by rfl)(hk:gJ X.env scope X.N=true:=by rfl)(hs:zF X iter:=by intro _;rfl)(hf:zL X y:=by first|exact .inl rfl|exact .inr rfl|assumption) :
  PS X (.Assign [.Name y py] (.ListComp elt [⟨tg,iter,ifs,0⟩] scope pos) spos) (qL (bx (dLC own.length ti g tt te)) (jM i)):=PS.wk' (NK own hc hN hiN hx hi hg ht he hsw hk hs hf) λD σ H q=>nJ σ H _ q
def Lh(own M:List Str){i:Nat}{y:Str}{py spos:Pos}(hc:X.calm=true)(hN:X.N.Nodup)(hiN:X.N[i]?=some y)(hx:Loc X.env.scope y)(hi:PDI X tg iter ti)(hg:∀c,PDG (X.aQ own M scope c) tg g)(ht:∀c,BX (X.aQ own M scope c) ifs tt)(he:∀c,PD (X.aQ own M scope c) elt te)(hsw:swapsWith (.ListComp elt [⟨tg,iter,ifs,0⟩] scope pos) (some (.Name y py)) spos.line X.env=pure true:=by rfl)(hk:aV X.env scope X.N M=true:=by rfl)(hs:zF X iter:=by intro _;rfl)(hf:zL X y:=by first|exact .inl rfl|exact .inr rfl|assumption) :
  PS X (.Assign [.Name y py] (.ListComp elt [⟨tg,iter,ifs,0⟩] scope pos) spos) (qL (bx (dLC own.length ti g tt te)) (jM i)):=PS.wk' (Ht own M hc hN hiN hx hi hg ht he hsw hk hs hf) λD σ H q=>nJ σ H _ q
end
section
variable {n:Nat}{g:DG}{tt:DT}{te:DE}{ρ:List Sl}{k:Kd}{ds:List D}{R:Kd->List D->Prop}
end
variable [Gr]
section
variable {X:Cx}{pos:Pos}{st:Stmt}{rest:List Stmt}{te tj:DE}{ti:DI}{t:DS}
def RN(i:Nat)(t:DS):DS:=λP ρ=>match ρ[i]? with
 |some (.dw r d)=>g8 r ρ i=true/\t P (ρ.set i (.sn d))
 |some (.rw r L)=>g8 r ρ i=true/\t P (ρ.set i (.sn (.list (L.map Ŀ))))
 |some (.sp r b ds)=>g8 r ρ i=true/\t P (ρ.set i (if b=true then .sn (.list ds) else .sh (.list ds)))
 |_=>False
def EnvD.freeze{p:Pn}{H0 H:Hp}{own:Addr->Option Nat}{σ:L2.St}{ρ:List Sl}{i r:Nat}{d:D}{v:V}(E:EnvD p H0 own σ H ρ)(hf:g8 r ρ i=true)(hv:σ[i]?=some (some v))(x:Rp (λa=>own a=some r) H v d) :
  EnvD p H0 (aW r own) σ H (ρ.set i (.sn d)):=by
 have E2:EnvD p H0 (aW r own) σ H (ρ.set i .any):=(E.drop (i:=i)).clear hf
 have E3:=E2.put (v:=v) (i:=i) (s:=.sn d) ⟨v,hv,x.mono (λa o=>⟨(E.ow a r o).1,(E.ow a r o).2.1,by unfold aW;rw[if_pos o]⟩) (λ_ _ _ e=>e) λ_ _ e=>e⟩
 rw[List.set_set] at E3
 exact E3
def sU(i:Nat)(h:gK X rest t):gK X rest (RN i t):=PSs.wk' h (by
 rintro Q σ H ⟨p,H0,own,ρ,P,E,q,w⟩
 unfold RN at q
 split at q
 ·rename_i r d e
  obtain⟨v,hv,x⟩:=E.slot i _ e
  exact⟨p,H0,_,_,P,E.freeze q.1 hv x,q.2,w.go iB⟩
 ·rename_i r L e
  obtain⟨st,as,hv,x⟩:=E.slot i _ e
  exact⟨p,H0,_,_,P,E.freeze q.1 hv x.rp,q.2,w.go iB⟩
 ·rename_i r b ds e
  obtain⟨l,vs,hv,o,h,z⟩:=E.slot i _ e
  have E2:EnvD p H0 (aW r own) σ H (ρ.set i .any):=(E.drop (i:=i)).clear q.1
  have c0:∀a,own a=none->aW r own a=none:=λa n=>by unfold aW;rw[n];simp
  have cl:aW r own l=none:=by unfold aW;rw[if_pos o]
  have E3:EnvD p H0 (aW r own) σ H ((ρ.set i .any).set i (if b=true then .sn (.list ds) else .sh (.list ds))):=E2.put (v:=.ref l) (by
   cases b with
   |true=>exact⟨_,hv,.lst ⟨(E.ow l r o).1,(E.ow l r o).2.1,cl⟩ h (z.mono (λc n=>⟨n.1 rfl,n.2.1,c0 c n.2.2⟩) (λ_ _ _ e=>e) λ_ _ e=>e)⟩
   |false=>exact⟨_,hv,.lst ⟨(E.ow l r o).2.1,cl⟩ h (z.mono (λc n=>⟨n.2.1,c0 c n.2.2⟩) (λ_ _ _ e=>e) λ_ _ e=>e)⟩)
  rw[List.set_set] at E3
  exact⟨p,H0,_,_,P,E3,q.2,w.go iB⟩
 ·exact q.elim)
def dSp(i:Nat)(b:Bool)(t:DS):DS:=λP ρ=>match ρ[i]? with
 |some (.dw r (.list ds))=>dH ds=true/\t P (ρ.set i (.sp r b ds))
 |_=>False
def Kf(i:Nat)(b:Bool)(h:gK X rest t):gK X rest (dSp i b t):=PSs.wk' h (by
 rintro Q σ H ⟨p,H0,own,ρ,P,E,q,w⟩
 unfold dSp at q
 split at q
 ·rename_i r ds e
  obtain⟨v,hv,x⟩:=E.slot i _ e
  obtain⟨l,vs,rfl,o,h,z⟩:=x.bR
  exact⟨p,H0,own,_,P,E.put (v:=.ref l) (i:=i) (s:=.sp r b ds) ⟨l,vs,hv,o,h,(z.imm q.1).mono (λ_ o=>o.elim) (λ_ _ o=>o.elim) λ_ _ e=>e⟩,q.2,w⟩
 ·exact q.elim)
def spK(b:Bool):Kd:=if b=true then .snw else .shr
def Je{p:Pn}{H0 Hb H:Hp}{own:Addr->Option Nat}{b:Bool}(A:At p H0 own Hb H){k:Kd}(hk:k.le (spK b)=true){v:V}{d:D}{H2:Hp}(r:Rp (okK p H0 own Hb k) H2 v d):Rp (okS p H0 own b) H2 v d:=by
 have r2:=mR A hk r
 cases b with
 |true=>exact r2.mono (λa o=>⟨λ_=>o.1,o.2.1,o.2.2⟩) (λ_ _ _ e=>e) λ_ _ e=>e
 |false=>exact r2.mono (λa o=>⟨λz=>(nomatch z),o.1,o.2⟩) (λ_ _ _ e=>e) λ_ _ e=>e
def EnvD.Cy{p:Pn}{H0 H:Hp}{own:Addr->Option Nat}{σ:L2.St}{ρ:List Sl}{i r:Nat}{b:Bool}{l:Addr}{vs vs':List V}{ds':List D}(E:EnvD p H0 own σ H ρ)(hv:σ[i]?=some (some (.ref l)))(o:own l=some r)(h:H l=some (.lst vs))(z:Rps (okS p H0 own b) H vs' ds') :
  EnvD p H0 own σ (upd H l (.lst vs')) ((forget r ρ).set i (.sp r b ds'))/\FrS p own H own (upd H l (.lst vs')):=by
 refine⟨(E.write (o':=.lst vs') o h λxs z=>nomatch z).put (v:=.ref l) ⟨l,vs',hv,o,au,z.mono (λ_ o=>o) (λc u n e=>?_) λa xs e=>?_⟩,ud o h λxs z=>nomatch z⟩
 ·rw[aq];exact e
  intro y;subst y;rw[n.2.2] at o;cases o
 ·rw[aq];exact e
  intro y;subst y;rw[h] at e;cases e
def Ws(i:Nat)(te:DE):DS:=λP ρ=>match ρ[i]? with
 |some (.sp r b ds)=>te ρ λk d=>(norm k d).le (spK b)=true/\ds.length<1000/\P.nx ((forget r ρ).set i (.sp r b (ds++[d])))
 |_=>False
def Ko(i:Nat)(tj te:DE):DS:=λP ρ=>match ρ[i]? with
 |some (.sp r b ds)=>tj ρ λ_ dj=>te ρ λk d=>match dj with
  |.int j=>(norm k d).le (spK b)=true/\0<=j/\j.toNat<=ds.length/\ds.length<1000/\P.nx ((forget r ρ).set i (.sp r b (ds.take j.toNat++d::ds.drop j.toNat)))
  |_=>False
 |_=>False
def KY{tj te:DE}{ρ:List Sl}{R:Kd->D->Kd->D->Prop}(t:tj ρ λk1 d1=>te ρ λk2 d2=>R k1 d1 k2 d2):bQ tj (bQ te je) ρ (λks=>∃k1 d1 k2 d2,ks=[(k1,d1),(k2,d2)]/\R k1 d1 k2 d2):=by
 show tj ρ λk1 d1=>te ρ λk2 d2=>∃k1' d1' k2' d2',[((k1,d1):Kd×D),(k2,d2)]=[(k1',d1'),(k2',d2')]/\R k1' d1' k2' d2'
 have e:∀(k1:Kd) (d1:D),(λk2 d2=>∃k1' d1' k2' d2',[((k1,d1):Kd×D),(k2,d2)]=[(k1',d1'),(k2',d2')]/\R k1' d1' k2' d2')=λk2 d2=>R k1 d1 k2 d2:=λk1 d1=>by
  funext k d
  apply propext
  constructor
  ·rintro⟨k1',d1',k',d',e,h⟩
   cases e
   exact h
  ·exact λh=>⟨k1,d1,k,d,rfl,h⟩
 simp only[e]
 exact t
def xr{i:Nat}(h:PS X st (qI (tBM X.K "list" vL (iH i) (jj (bQ tj (bQ te je)))))):PDS X st (Ko i tj te):=PS.wk' h (by
 rintro Q σ H ⟨p,H0,own,ρ,P,E,t,w⟩
 unfold Ko at t
 split at t
 ·rename_i r b ds hr
  obtain⟨l,vs,hv,o,ho,rs⟩:=E.slot i _ hr
  refine⟨.ref l,hv,.inl ⟨rfl,vs,SqL.of ho⟩,p,H0,own,ρ,_,E,KY t,?_⟩
  rintro ks ws H1 ⟨k1,dj,k,d,rfl,hh⟩ A rk
  cases dj with
  |int j =>
   obtain⟨hk,h0,hj,hlen,hn⟩:=hh
   obtain⟨y1,y,rfl,ry1,ry⟩:=Hi rk
   have e1:=Rp.int' ry1
   have E1:=E.go A.kp A.pen
   have h1:H1 l=some (.lst vs):=A.kp l _ ho (E.ow l r o).2.1
   have rs1:Rps (okS p H0 own b) H1 vs ds:=rs.mono (λ_ o=>o) (λc u n e=>A.kp c u e n.2.1) A.tups
   have h24:=ô
   have hln:=rs.length
   refine⟨l,vs,j.toNat,y,rfl,?_,h1,by omega,by omega,?_⟩
   ·rw[e1]
    have:((j.toNat:Nat):Int)=j:=by omega
    rw[this]
   obtain⟨E2,F2⟩:=E1.Cy (b:=b) (vs':=vs.take j.toNat++y::vs.drop j.toNat) (ds':=ds.take j.toNat++d::ds.drop j.toNat) hv o h1 ((rs1.take _).app (.cons (Je A hk (aY ry)) (rs1.drop _)))
   exact w.nx _ σ _ _ E2 (A.frs.trans F2) hn
  |_=>exact hh.elim
 ·exact t.elim)
def EnvD.spine{p:Pn}{H0 H H1:Hp}{own:Addr->Option Nat}{σ:L2.St}{ρ:List Sl}{i r:Nat}{b:Bool}{l:Addr}{vs:List V}{ds:List D}(E:EnvD p H0 own σ H ρ)(A:At p H0 own H H1)(hf:g8 r ρ i=true)(hl:H1 l=none)(z:Rps (okS p H0 own b) H1 vs ds) :
  ∃own',EnvD p H0 own' (σ.set i (some (.ref l))) (upd H1 l (.lst vs)) (ρ.set i (.sp r b ds))/\FrS p own H own' (upd H1 l (.lst vs)):=by
 have E2:EnvD p H0 (aW r own) σ H (ρ.set i .any):=(E.drop (i:=i)).clear hf
 have E3:=E2.go A.kp A.pen
 have s1:Same H1 (upd H1 l (.lst vs)):=λb u q=>by rw[aq (aB q hl)];exact q
 have A8:At p H0 (aW r own) H1 (upd H1 l (.lst vs)):=⟨E3.k0,Kp.of s1,E3.pen,p.mono H1 _ E3.pen λb u _ q=>s1 b u q,E3.ow⟩
 have E4:=E3.adopt r A8
 have c0:∀a,own a=none->aW r own a=none:=λa n=>by unfold aW;rw[n];simp
 have E5:=E4.set (i:=i) (v:=.ref l) (s:=.sp r b ds) λhli=>⟨l,vs,Į hli,pP hl au,au,z.cW (λc u n e=>⟨⟨n.1,n.2.1,by rw[bD e];exact c0 c n.2.2⟩,s1 c u e⟩) λa xs e=>s1 a _ e⟩
 rw[List.set_set] at E5
 exact⟨_,E5,(A.frs.trans iB).trans (pQ A8)⟩
def RpK.okS{p:Pn}{H0 Hb H:Hp}{own:Addr->Option Nat}{b:Bool}(A:At p H0 own Hb H):∀{vs:List V}{ks:List (Kd×D)},RpK p H0 own Hb H vs ks->(ks.all λkd=>(norm kd.1 kd.2).le (spK b))=true->Rps (okS p H0 own b) H vs (ks.map (·.2))
 |_,_,.nil,_=>.nil
 |_,kd::ks,.cons h t,e=>by
  rw[List.all_cons,Û] at e
  exact .cons (Je A e.1 (aY h)) (RpK.okS A t e.2)
def O5(i r:Nat)(b:Bool)(t:DA):DS:=λP ρ=>t ρ λks=>ks.length<=1000/\(ks.all λkd=>(norm kd.1 kd.2).le (spK b))=true/\g8 r ρ i=true/\P.nx (ρ.set i (.sp r b (ks.map (·.2))))
def xg{i:Nat}{t:DA}(r:Nat)(b:Bool)(h:PS X st (qL (SJ (jj t)) (jM i))):PDS X st (O5 i r b t):=PS.wk' h (by
 rintro Q σ H ⟨p,H0,own,ρ,P,E,q,w⟩
 refine⟨p,H0,own,ρ,_,E,q,λks vs H1 h A rk=>?_⟩
 have h24:=ô
 have hln:=rk.length
 refine⟨by have:=h.1;omega,λl hl=>?_⟩
 obtain⟨own',E2,F2⟩:=E.spine A h.2.2.1 hl (RpK.okS A rk h.2.1)
 exact w.nx _ _ _ _ E2 F2 h.2.2.2)
def Bw(js:List Nat)(t:DS):DS:=λP ρ=>t P (js.foldl (λρ j=>ρ.set j .any) ρ)
def EnvD.drops{p:Pn}{H0 H:Hp}{own:Addr->Option Nat}{σ:L2.St}:∀(js:List Nat) {ρ:List Sl},EnvD p H0 own σ H ρ->EnvD p H0 own σ H (js.foldl (λρ j=>ρ.set j .any) ρ)
 |[],_,E=>E
 |_::js,_,E=>EnvD.drops js E.drop
def sV(js:List Nat)(h:gK X rest t):gK X rest (Bw js t):=PSs.wk' h (by
 rintro Q σ H ⟨p,H0,own,ρ,P,E,q,w⟩
 exact⟨p,H0,own,_,P,E.drops js,q,w⟩)
end
@[reducible] def grL(K:Ú)(sc:Addr)(ns:List Int):Gr:=⟨λp H0=>SqL K H0 sc (ns.map V.int)/\∀b,p.fp b->H0 b=none⟩
def SX(K:Ú):Sp:=λvs H Q _=>∃(a:Addr) (ns:List Int),vs=[.ref a]/\SqL K H a (ns.map V.int)/\∀H',Q (.bl true) H'
section
variable {X:Cx}{k1 k2 j:Nat}{x y z:Str}{ps1 ps2:List Str}{e:Expr}{es1 es2:List Expr}{p1 p2 p3 pos pos1:Pos}{K:Ú}{sc:Addr}{ns:List Int}{C:Pn->Prop}{pre:List D->Prop}{g:List D->(D->Prop)->Prop}{i:Nat}
end
variable [Gr]
section
variable {X:Cx}{pos pos':Pos}{a b:Expr}{t:DA}
end
variable [Gr]
mutual
inductive Tm where
 |int (i:Int)
 |neg (i:Int)
 |bl (b:Bool)
 |non
 |str (s:Str)
 |var (i:Nat)
 |lst (ts:Tms)
 |tup (ts:Tms)
 |dct
inductive Tms where
 |nil
 |cons (t:Tm) (ts:Tms)
end
def Vr(sc:Scope)(x:Str):Bool:=sc.names.lookup x == some .local || sc.names.lookup x == some .cell || sc.names.lookup x == some .free
mutual
def okT(N:List Str)(sc:Scope):Tm->Expr->Bool
 |.int i,.Constant (.int j) _ _=>i == j
 |.neg i,.UnaryOp .USub (.Constant (.int j) _ _) _=>i == j
 |.bl b,.Constant (.bool c) _ _=>b == c
 |.non,.Constant .none _ _=>true
 |.str s,.Constant (.str u) _ _=>s == u
 |.var i,.Name x _=>N[i]? == some x&&(Vr sc x&&(!(x == ("__debug__":Str))&&!(x == ("__classdict__":Str))))
 |.lst ts,.List es _=>QL N sc ts es
 |.tup ts,.Tuple es _ _=>QL N sc ts es
 |.dct,.Dict [] [] _=>true
 |_,_=>false
def QL(N:List Str)(sc:Scope):Tms->List Expr->Bool
 |.nil,[]=>true
 |.cons t ts,e::es=>okT N sc t e&&QL N sc ts es
 |_,_=>false
end
mutual
def evT(ρ:List Sl):Tm->Option (Kd×D)
 |.int i=>some (.imm,.int i)
 |.neg i=>some (.imm,.int (-i))
 |.bl b=>some (.imm,.bool b)
 |.non=>some (.imm,.none)
 |.str s=>some (.imm,.str s)
 |.var i=>match ρ[i]? with
  |some (.im d)=>some (.imm,d)
  |some (.sh d)=>some (.shr,d)
  |some (.sn d)=>some (.snw,d)
  |some (.dw r d)=>some (.reg r,d)
  |_=>none
 |.lst ts=>match RB ρ ts with
  |some ks=>some ((joins ks).join .new,.list (ks.map (·.2)))
  |none=>none
 |.tup ts=>match RB ρ ts with
  |some ks=>some (norm (joins ks) (.tuple (ks.map (·.2))),.tuple (ks.map (·.2)))
  |none=>none
 |.dct=>some (.new,.dict [])
def RB(ρ:List Sl):Tms->Option (List (Kd×D))
 |.nil=>some []
 |.cons t ts=>match evT ρ t,RB ρ ts with
  |some k,some ks=>some (k::ks)
  |_,_=>none
end
mutual
def smT:Tm->Bool
 |.lst ts=>Qd 1000 ts
 |.tup ts=>Qd 1000 ts
 |_=>true
def Qd:Nat->Tms->Bool
 |_,.nil=>true
 |n+1,.cons t ts=>smT t&&Qd n ts
 |0,.cons _ _=>false
end
section
variable {X:Cx}{e:Expr}{es:List Expr}
section
variable {N:List Str}{sc:Scope}
end
end
end Dl
namespace L2
open PySem PySem.Spec PyProof.Rows HT
section
variable {X:Cx}{e:Expr}{te:TE}{p1 p2 p3 pos:Pos}
end
end L2
namespace Dl
open PySem L2 PyProof.Rows
variable [Gr]
section
variable {X:Cx}{pos p1 p2 p3:Pos}{a b e:Expr}{es:List Expr}{ta tb te:DE}{t:DA}
def Sh(te:DE)(tl th:DO):DE:=λρ P=>te ρ λk d=>tl ρ λlo=>th ρ λhi=>match d with
 |.list ds=>newP k (dg ds lo hi) λk'=>P k' (.list (dg ds lo hi))
 |.tuple ds=>¬(HT.sIx ds.length 0 lo=0/\HT.sIx ds.length ds.length hi=ds.length)/\P (norm k (.tuple (dg ds lo hi))) (.tuple (dg ds lo hi))
 |_=>False
def uE{lo hi:Option Expr}{tl th:DO}(he:PD X e te)(hl:PO X lo (rY tl))(hh:PO X hi (rY th)):PD X (.Subscript e (.Slice lo hi none p2) pos) (Sh te tl th):=PE.wk (yx (SlR.or Cq Qe) he hl hh) (by
 rintro σ H Q ⟨p,H0,own,ρ,P,E,t,q⟩
 refine⟨p,H0,own,ρ,_,E,t,λk d v H1 h A r=>?_⟩
 refine⟨p,H0,own,ρ,_,E.go A.kp A.pen,h,λo1 H2 h2 A2=>?_⟩
 refine⟨p,H0,own,ρ,_,(E.go A.kp A.pen).go A2.kp A2.pen,h2,λo2 H3 h3 A3=>?_⟩
 have A4:=(A.base A2).base A3
 have r3:=mU (A.base A2) A3.kp (mU A A2.kp r)
 cases d with
 |list ds =>
  obtain⟨x,xs,e1,o,h1,rs⟩:=Rp.bR r3
  subst e1
  refine .inl ⟨x,xs,rfl,SqL.of h1,λl hl=>?_⟩
  obtain⟨k2,i2,nw⟩:=A4.new hl (.lst (sY xs o1 o2))
  obtain⟨k',hk',rk'⟩:=j9 A4 (bZ A4 k2 (rs.cut o1 o2)) nw au h3
  exact q _ _ _ _ hk' (A4.go k2 i2) rk'
 |tuple ds =>
  obtain⟨x,xs,e1,h1,rs⟩:=Rp.eO r3
  subst e1
  refine .inr ⟨x,xs,rfl,SqT.of h1,by rw[rs.length];exact h3.1,λl hl=>?_⟩
  obtain⟨k2,i2,nw⟩:=A4.new hl (.tup (sY xs o1 o2))
  exact q _ _ _ _ h3.2 (A4.go k2 i2) (aY (.tup au (bZ A4 k2 (rs.cut o1 o2))))
 |_=>exact h3.elim)
end
variable [Gr]
section
variable {X:Cx}{pos pos' p2:Pos}{a b e:Expr}{ta tb te tj tm:DE}{st st2:Stmt}{rest:List Stmt}{ti:DI}{g:DG}{t:DS}
end
variable [Gr]
section
variable {X:Cx}{te te1 te2 tj tm:DE}{st st2:Stmt}{rest:List Stmt}{t:DS}
end
variable [Gr]
section
variable {X:Cx}{te tj:DE}{st:Stmt}{t:DS}
end
end Dl
namespace L2
open PySem PySem.Spec PyProof.Rows
end L2
namespace Dl
open PySem L2 PyProof.Rows
variable [Gr]
section
variable {X:Cx}{tg:Expr}{pos:Pos}{ta:DA}
end
section
variable {X:Cx}
def Ge(hc:X.calm=true):bI X (.builtin "min") (λxs H Q=>∃(p:Addr) (ns:List Int),xs=[.ref p]/\SqL X.K H p (ns.map V.int)/\ns≠[]/\∀M,M∈ns->(∀a∈ns,M<=a)->Q (.int M) H):=by
 intro pins s σ H xs us Q I r h
 obtain⟨p,ns,rfl,hp,hne,q⟩:=h
 obtain⟨u,rfl,rx⟩:=vals1 r
 cases rx
 obtain⟨its,rv,pl,hz⟩:=I.list hp
 have hi:IntsAre its ns:=intsAre_of rv
 obtain⟨zs,e⟩:=hi.allInts.items
 have hns:ns=zs.toList.map (·.1):=by rw[←hi.numsOf,←nums_intItems,←e]
 have hsz:0<zs.size:=by
  have h3:=List.length_pos_iff.mpr hne
  rw[hns,Á,ľ] at h3;exact h3
 have hl:=pl.isList
 rw[e] at hl
 refine min_intList (I.ok.hd hc) hl hsz λv h' tk hv hk=>?_
 obtain⟨t,rfl⟩:=intItems_at hv
 obtain⟨h1,h2⟩:=argBest_lt (numAt zs) (zs.size - 1)
 refine⟨.int _,H,I.kept λb o eb=>hk b o eb,⟨_,rfl⟩,q _ ?_ λa ha=>?_⟩
 ·rw[hns,numAt_eq];refine getD_mem ?_;rw[Á,ľ];omega
 ·rw[hns] at ha
  obtain⟨j,hj,rfl⟩:=mem_getD ha
  rw[Á,ľ] at hj
  have h3:=h2 j (by omega)
  rw[←numAt_eq];exact h3
def Ga(hc:X.calm=true):bI X (.builtin "sum") (λxs H Q=>∃(p:Addr) (ns:List Int),xs=[.ref p]/\SqT X.K H p (ns.map V.int)/\ns.length<=1000/\(∀x∈ns,-1000000<=x/\x<=1000000)/\Q (.int ns.sum) H):=by
 intro pins s σ H xs us Q I r h
 obtain⟨p,ns,rfl,hp,hl,hs,q⟩:=h
 obtain⟨u,rfl,rx⟩:=vals1 r
 cases rx
 obtain⟨its,rv,pl,hz⟩:=I.tuple hp
 have hlen:its.length=ns.length:=by have:=rv.length;rw[Á] at this;exact this.symm
 have hltp:p<s.heap.objs.size:=by obtain⟨o,ho,_⟩:=pl;exact Ï ho
 have at':∀i v,its[i]?=some v->∃t,v=Ō (ns.getD i 0) t:=λi v e=>by
  have hi:i<its.length:=(Ê.mp e).1
  have hv:(ns.map V.int)[i]?=some (V.int ns[i]):=by rw[ß,Ç (show i<ns.length by omega)];rfl
  obtain⟨u,eu,ru⟩:=rv.get hv
  rw[e] at eu
  cases eu
  obtain⟨t,rfl⟩:=ru
  exact⟨t,by rw[Ð,Ç (show i<ns.length by omega)];rfl⟩
 refine call_sum_walk (wpAny_pyIter_tuple pl ?_)
 refine⟨_,_,_,_,_,_,λi=>ns.getD i 0,rfl,Walks.tuple (A:=X.A.in1) (I.ok.hd hc) _ p (â hltp) _,⟨⟨_,ä _ rfl,rfl,rfl⟩,pl.push _⟩,?_,λi v e=>at' i v (by simpa using e),λj hj=>?_,λh' tk t' hk=>?_⟩
 ·intro b hb
  show b<(s.heap.push _).objs.size
  rw[Ť]
  simp at hb
  rcases hb with rfl|rfl
  ·exact Ũ _
  ·exact ċ hltp
 ·have hj:j<ns.length:=by simpa[hlen] using hj
  have e:ns.getD j 0=ns[j]:=by rw[Ð,Ç hj];rfl
  have b1:=hs _ (ģ hj)
  have b2:=oO (ns.take (j+1)) 1000000 λx hx=>hs x (List.mem_of_mem_take hx)
  have b3:(ns.take (j+1)).length<=1000:=by rw[Ģ];omega
  rw[mY ns (j+1) hj]
  refine⟨?_,?_⟩
  ·show -(2 ^ 63)<=ns.getD j 0/\ns.getD j 0<2 ^ 63
   rw[e]
   omega
  ·show -(2 ^ 63)<=(ns.take (j+1)).sum/\(ns.take (j+1)).sum<2 ^ 63
   omega
 ·have e:PySem.preSum (λi=>ns.getD i 0) its.toArray.size=ns.sum:=by
   rw[Í,hlen,mY ns ns.length (Ì _),ē]
  rw[e]
  refine⟨.int ns.sum,H,I.kept λb o eb=>hk b o ?_ (Ó _ eb),⟨_,rfl⟩,q⟩
  intro hm
  have:b=s.heap.objs.size:=by simpa using hm
  exact absurd (this ▸ Ï eb) (č _)
end
section
variable {prog:Program}{w:World}{A:Around}{E:Value->Shared->Prop}
end
section
variable {X:Cx}{pos:Pos}
variable [Gr]
end
section
variable {X:Cx}{pos:Pos}{a:Expr}{t:DA} [Gr]
def Ro(f:Int->Int->Int)(le:Int->Int->Prop):GC:=λks P=>match ks with
 |[(_,.tuple [.int i,.int j])]=>P .imm (.int (f i j))
 |[(_,.list ds)]=>∃ns:List Int,ds=ns.map Â/\ns≠[]/\∀M,M∈ns->(∀a∈ns,le M a)->P .imm (.int M)
 |_=>False
def vZ{ps:Pos}(hc:X.calm=true)(hm:X.mg "min"=none)(ha:PDA X [a] t)(hg:Gl X "min":=by rfl)(he:zS X a []:=by rfl)(hpl:zP X pos []:=by rfl):PD X (.Call (.Name "min" ps) [a] [] pos) (tCl (Ro (λi j=>if j<i then j else i) (λM a=>M<=a)) t) :=
 cN (bI.or (Gd hc) (Ge hc)) (by
  intro p H0 own Hb H vs ks P Q A r t q
  unfold Ro at t
  split at t
  ·rename_i k i j
   obtain⟨v,rfl,r'⟩:=fY r
   obtain⟨x,xs,e1,h1,rs1⟩:=Rp.eO r'
   obtain⟨v1,v2,e2,q1,q2⟩:=Rps.two rs1
   subst e1 e2
   rw[q1.int',q2.int'] at h1
   exact .inl ⟨x,i,j,rfl,SqT.of h1,q _ _ _ _ t Kp.refl A.pen (.int _)⟩
  ·obtain⟨ns,rfl,hne,t⟩:=t
   obtain⟨v,rfl,r'⟩:=fY r
   obtain⟨x,xs,e1,o1,h1,rs1⟩:=Rp.bR r'
   subst e1
   have e2:=Rps.ints rs1
   subst e2
   exact .inr ⟨x,ns,rfl,SqL.of h1,hne,λM h1 h2=>q _ _ _ _ (t M h1 h2) Kp.refl A.pen (.int _)⟩
  ·exact t.elim) hg hm boot_min ha (by decide) (by decide) he hpl
def JN:GC:=λks P=>match ks with
 |[(_,.list ds)]=>∃ns:List Int,ds=ns.map Â/\ns.length<=1000/\(∀x∈ns,-1000000<=x/\x<=1000000)/\P .imm (.int ns.sum)
 |[(_,.tuple ds)]=>∃ns:List Int,ds=ns.map Â/\ns.length<=1000/\(∀x∈ns,-1000000<=x/\x<=1000000)/\P .imm (.int ns.sum)
 |_=>False
def nq{ps:Pos}(hc:X.calm=true)(hm:X.mg "sum"=none)(ha:PDA X [a] t)(hg:Gl X "sum":=by rfl)(he:zS X a []:=by rfl)(hpl:zP X pos []:=by rfl):PD X (.Call (.Name "sum" ps) [a] [] pos) (tCl JN t) :=
 cN (bI.or (Gb hc) (Ga hc)) (by
  intro p H0 own Hb H vs ks P Q A r t q
  unfold JN at t
  split at t
  ·obtain⟨ns,rfl,hl,hb,t⟩:=t
   obtain⟨v,rfl,r'⟩:=fY r
   obtain⟨x,xs,e1,o1,h1,rs1⟩:=Rp.bR r'
   subst e1
   have e2:=Rps.ints rs1
   subst e2
   exact .inl ⟨x,ns,rfl,SqL.of h1,hl,hb,q _ _ _ _ t Kp.refl A.pen (.int _)⟩
  ·obtain⟨ns,rfl,hl,hb,t⟩:=t
   obtain⟨v,rfl,r'⟩:=fY r
   obtain⟨x,xs,e1,h1,rs1⟩:=Rp.eO r'
   subst e1
   have e2:=Rps.ints rs1
   subst e2
   exact .inr ⟨x,ns,rfl,SqT.of h1,hl,hb,q _ _ _ _ t Kp.refl A.pen (.int _)⟩
  ·exact t.elim) hg hm boot_sum ha (by decide) (by decide) he hpl
variable {b:Expr}{ta tb:DE}
end
section
variable {X:Cx}
end
section
variable {X:Cx}{pos:Pos}{a e:Expr}{te ta:DE}{t:DA}{st st2:Stmt}{rest:List Stmt} [Gr]
end
section
variable {X:Cx}{tg iter c:Expr}{pos pos1:Pos}{ret:Stmt}{ti:DI}{g:DG}{tc:DT} [Gr]
end
end Dl
namespace L2
open PySem PyProof.Rows
def Asc(xs:Array Nat):Prop:=xs.toList.Pairwise (·<·)
structure Good(w:World)(t:SetTable):Prop where
 asc:Asc t.place
 dum:t.dummies=#[]
 led:t.led=!w.params.followText "set-order"
section
variable {w:World}{t:SetTable}
end
section
variable {P:Program}{w:World}{A:Around}{E:Value->Shared->Prop}{s:Shared}
end
section
variable {P:Program}{w:World}{A:Around}{R:Result->Shared->Prop}{I:Addr}{fp wr:List Addr}{G:Array GenState->Array GenState->Prop}{n:Nat}{W:Nat->Value->Prop}{St:Nat->Shared->Prop}
end
section
variable {P:Program}{w:World}{A:Around}{E:Value->Shared->Prop}{s:Shared}
end
section
variable {P:Program}{w:World}{A:Around}{E:Value->Shared->Prop}{s:Shared}{I a:Addr}{f:Value}{i n ep:Nat}{o:Obj}{es:Array (Int×Value)}{t:SetTable}
end
section
variable {P:Program}{w:World}{A:Around}{E:Value->Shared->Prop}{s:Shared}
variable {a:Addr}{i ep:Nat}{o:Obj}{es:Array (Int×Value)}{t:SetTable}
end
section
variable {P:Program}{w:World}{A:Around}{E:Value->Shared->Prop}{s:Shared}{I a:Addr}{ep:Nat}{o:Obj}{es:Array (Int×Value)}{t:SetTable}
end
end L2
namespace L2
open PySem PySem.Spec PyProof.Rows
section
variable {P:Program}{w:World}{A:Around}{E:Value->Shared->Prop}{s:Shared}{a:Addr}{S:Int->Bool}{n:Nat}
end
end L2
set_option autoImplicit true
set_option relaxedAutoImplicit true
namespace Wr
open PySem L2 PyProof.Rows Dl
structure WD[Gr](X:Cx)(e:Expr)(t:DE):Prop where
 h:PD X e t
structure WDT[Gr](X:Cx)(e:Expr)(t:DT):Prop where
 h:PDT X e t
structure WDW[Gr](X:Cx)(e:Expr)(t:DT):Prop where
 h:PDW X e t
structure WDA[Gr](X:Cx)(e:List Expr)(t:DA):Prop where
 h:PDA X e t
structure WDS[Gr](X:Cx)(e:Stmt)(t:DS):Prop where
 h:PDS X e t
structure WDSs[Gr](X:Cx)(e:List Stmt)(t:DS):Prop where
 h:gK X e t
structure WDI[Gr](X:Cx)(tg e:Expr)(t:DI):Prop where
 h:PDI X tg e t
structure WDG[Gr](X:Cx)(e:Expr)(t:DG):Prop where
 h:PDG X e t
structure WDGs[Gr](X:Cx)(e:List Expr)(t:DGs):Prop where
 h:PGs X e (rZ t)
structure WDTs[Gr](X:Cx)(e:List Expr)(t:DT):Prop where
 h:BX X e t
structure WDO[Gr](X:Cx)(e:Option Expr)(t:DO):Prop where
 h:PO X e (rY t)
structure WV(X:Cx)(e:Expr)(i:Nat):Prop where
 h:PE X e (iH i)
structure WC(X:Cx)(e:Expr)(v:V):Prop where
 h:PE X e (tC v)
section
variable [Gr]
def wv(i:Nat){x:Str}{pos:Pos}(hN:X.N[i]?=some x:=by rfl)(hv:Vis X.env.scope x:=by first|exact ć rfl|exact Or.inr (ć rfl)|exact Or.inr (Or.inr rfl))(hd:zB x:=by decide)(hcd:(x == ("__classdict__":Str))=false:=by decide):WV X (.Name x pos) i:=⟨pv i hN hv hd hcd⟩
def wpt{t:DT}(h:WDW X e t):WDT X e t:=⟨PDW.pt h.h⟩
def wty{x:Str}{T:String}(hg:Gl X x)(hm:X.mg x=none)(hv:bootBuiltins x=some (.type T))(hn:x≠"__name__":=by decide)(hd:zB x:=by decide):WC X (.Name x ps) (.ty T):=⟨ni hg hm hv rfl hn hd⟩
def bH{i:Nat}{x:Str}{e:Expr}{te:DE}{pos' pos:Pos}(rg:Option Nat)(hN:X.N.Nodup)(hi:X.N[i]?=some x)(hx:Loc X.env.scope x)(he:WD X e te)(hs:swapsWith e (some (.Name x pos')) pos.line X.env=pure false:=by rfl)(hf:zL X x:=by first|exact .inl rfl|exact .inr rfl|assumption) :
  WDS X (.Assign [.Name x pos'] e pos) (Bt i rg te):=⟨Dl.bH rg (Aa hN hi hx he.h hs hf)⟩
def iy(rg:Option Nat)(own:List Str){i:Nat}{y:Str}{py spos:Pos}(hc:X.calm=true)(hN:X.N.Nodup)(hiN:X.N[i]?=some y)(hx:Loc X.env.scope y)(hi:WDI X tg iter ti)(hg:∀c,WDG (X.comp own scope c) tg g)(ht:∀c,WDTs (X.comp own scope c) ifs tt)(he:∀c,WD (X.comp own scope c) elt te)(hsw:swapsWith (.ListComp elt [⟨tg,iter,ifs,0⟩] scope pos) (some (.Name y py)) spos.line X.env=pure true:=by rfl)(hk:gJ X.env scope X.N=true:=by rfl)(hs:zF X iter:=by intro _;rfl)(hf:zL X y:=by first|exact .inl rfl|exact .inr rfl|assumption) :
  WDS X (.Assign [.Name y py] (.ListComp elt [⟨tg,iter,ifs,0⟩] scope pos) spos) (Bt i rg (dLC own.length ti g tt te)):=⟨Dl.bH rg (Qj own hc hN hiN hx hi.h (λc=>(hg c).h) (λc=>(ht c).h) (λc=>(he c).h) hsw hk hs hf)⟩
def FP(rg:Option Nat)(own M:List Str){i:Nat}{y:Str}{py spos:Pos}(hc:X.calm=true)(hN:X.N.Nodup)(hiN:X.N[i]?=some y)(hx:Loc X.env.scope y)(hi:WDI X tg iter ti)(hg:∀c,WDG (X.aQ own M scope c) tg g)(ht:∀c,WDTs (X.aQ own M scope c) ifs tt)(he:∀c,WD (X.aQ own M scope c) elt te)(hsw:swapsWith (.ListComp elt [⟨tg,iter,ifs,0⟩] scope pos) (some (.Name y py)) spos.line X.env=pure true:=by rfl)(hk:aV X.env scope X.N M=true:=by rfl)(hs:zF X iter:=by intro _;rfl)(hf:zL X y:=by first|exact .inl rfl|exact .inr rfl|assumption) :
  WDS X (.Assign [.Name y py] (.ListComp elt [⟨tg,iter,ifs,0⟩] scope pos) spos) (Bt i rg (dLC own.length ti g tt te)):=⟨Dl.bH rg (Lh own M hc hN hiN hx hi.h (λc=>(hg c).h) (λc=>(ht c).h) (λc=>(he c).h) hsw hk hs hf)⟩
def xg{i:Nat}{x:Str}{es:List Expr}{t:DA}{pos' pos lp:Pos}(r:Nat)(b:Bool)(hN:X.N.Nodup)(hi:X.N[i]?=some x)(hx:Loc X.env.scope x)(he:WDA X es t)(hs:swapsWith (.List es lp) (some (.Name x pos')) pos.line X.env=pure false:=by rfl)(hf:zL X x:=by first|exact .inl rfl|exact .inr rfl|assumption) :
  WDS X (.Assign [.Name x pos'] (.List es lp) pos) (O5 i r b t):=⟨Dl.xg r b (Aa hN hi hx (jA he.h) hs hf)⟩
def Bq{tg e:Expr}{te:DE}{g:DG}(he:WD X e te)(hg:WDG X tg g)(hs:swapsWithSole [tg] e pos.line X.env=pure false:=by rfl)(hw:swappedStores [tg] e X.env=pure none:=by rfl)(h1:(assignEach [tg] X.env).map (·.2)=[assign tg X.env]:=by rfl):WDS X (.Assign [tg] e pos) (Vd te g):=⟨Dl.Bq (oY he.h hg.h hs hw h1)⟩
def cZ{i:Nat}{x:Str}{e:Expr}{es:List Expr}{apos cpos np pos:Pos}(hv:WV X (.Name x np) i)(ha:WDA X (e::es) (bQ te je))(hbase:attributeBase (.Name x np) "append" X.env (eval (.Name x np) X.env)=eval (.Name x np) X.env:=by rfl)(hfew:zW X cpos (e::es):=by rfl)(hline:(apos.endLine == cpos.line)=true:=by rfl)(hst:zS X e es:=by rfl)(hplain:zP X cpos es:=by rfl)(hs:swapsWith (.Call (.Attribute (.Name x np) "append" apos) (e::es) [] cpos) none pos.line X.env=pure false:=by rfl) :
  WDS X (.Expr (.Call (.Attribute (.Name x np) "append" apos) (e::es) [] cpos) pos) (RQ i te):=⟨Dl.cZ (cu (gP ù Ś Ř gZ hv.h ha.h hbase hfew hline hst hplain) hs)⟩
def cJ{i:Nat}{x:Str}{e:Expr}{es:List Expr}{apos cpos np pos:Pos}(hv:WV X (.Name x np) i)(ha:WDA X (e::es) (bQ te je))(hbase:attributeBase (.Name x np) "extend" X.env (eval (.Name x np) X.env)=eval (.Name x np) X.env:=by rfl)(hfew:zW X cpos (e::es):=by rfl)(hline:(apos.endLine == cpos.line)=true:=by rfl)(hst:zS X e es:=by rfl)(hplain:zP X cpos es:=by rfl)(hs:swapsWith (.Call (.Attribute (.Name x np) "extend" apos) (e::es) [] cpos) none pos.line X.env=pure false:=by rfl) :
  WDS X (.Expr (.Call (.Attribute (.Name x np) "extend" apos) (e::es) [] cpos) pos) (RP i te):=⟨Dl.cJ (cu (gP ù ř ŗ gY hv.h ha.h hbase hfew hline hst hplain) hs)⟩
def xr{i:Nat}{x:Str}{e:Expr}{es:List Expr}{apos cpos np pos:Pos}(hv:WV X (.Name x np) i)(ha:WDA X (e::es) (bQ tj (bQ te je)))(hbase:attributeBase (.Name x np) "insert" X.env (eval (.Name x np) X.env)=eval (.Name x np) X.env:=by rfl)(hfew:zW X cpos (e::es):=by rfl)(hline:(apos.endLine == cpos.line)=true:=by rfl)(hst:zS X e es:=by rfl)(hplain:zP X cpos es:=by rfl)(hs:swapsWith (.Call (.Attribute (.Name x np) "insert" apos) (e::es) [] cpos) none pos.line X.env=pure false:=by rfl) :
  WDS X (.Expr (.Call (.Attribute (.Name x np) "insert" apos) (e::es) [] cpos) pos) (Ko i tj te):=⟨Dl.xr (cu (gP ù PySem.F.slot_list_insert PySem.F.type_list_insert uJ hv.h ha.h hbase hfew hline hst hplain) hs)⟩
def aU{i:Nat}{x:Str}(hN:X.N.Nodup)(hi:X.N[i]?=some x)(hx:Loc X.env.scope x)(hf:zL X x:=by first|exact .inl rfl|exact .inr rfl|assumption):WDG X (.Name x pos) (gNm i):=⟨Dl.aU (CT hN hi hx hf)⟩
def aG{i:Int}{j:Nat}:WD X (.Constant (.int i) j pos) (tK (.int i)):=⟨Dl.aG ⟩
def jh{i:Bool}{j:Nat}:WD X (.Constant (.bool i) j pos) (tK (.bool i)):=⟨Dl.jh ⟩
def dW{x:Str}{j:Nat}:WD X (.Constant (.str x) j pos) (tK (.str x)):=⟨Dl.dW ⟩
def bC{e:Expr}{t:DE}(h:WD X e t)(he:∀whole,isTrue e X.env whole=(do let v ←whole;standAt e.pos;holding [v] (truthy v)):=by intro _;rfl):WDT X e (fX t):=⟨Dl.bC (h:=h.h) (he:=he)⟩
def bJ{t:DT}(ha:WDT X a t):WDT X (.UnaryOp .Not a pos) (Va t):=⟨Dl.bJ (ha:=ha.h)⟩
def eF(ha:WDT X a t):WDW X (.BoolOp .And [a] pos) t:=⟨Dl.eF (ha:=ha.h)⟩
def eX(ha:WDT X a t):WDW X (.BoolOp .Or [a] pos) t:=⟨Dl.eX (ha:=ha.h)⟩
def gn{rest:List Expr}(ha:WDT X a t)(hb:WDW X (.BoolOp .And (b::rest) pos) u):WDW X (.BoolOp .And (a::b::rest) pos) (RV t u):=⟨Dl.gn (ha:=ha.h) (hb:=hb.h)⟩
def gC{rest:List Expr}(ha:WDT X a t)(hb:WDW X (.BoolOp .Or (b::rest) pos) u):WDW X (.BoolOp .Or (a::b::rest) pos) (dOr t u):=⟨Dl.gC (ha:=ha.h) (hb:=hb.h)⟩
def ak :WDA X [] je:=⟨Dl.ak ⟩
def aj(ha:WD X e te)(hr:WDA X es t)(hs:zS X e es:=by rfl):WDA X (e::es) (bQ te t):=⟨Dl.aj (ha:=ha.h) (hr:=hr.h) (hs:=hs)⟩
def dZ(h:WDA X es t):WD X (.List es pos) (Nt t):=⟨Dl.dZ (h:=h.h)⟩
def cM{x1}(h:WDA X es t):WD X (.Tuple es x1 pos) (vh t):=⟨Dl.cM (h:=h.h)⟩
def o8(ha:WD X a ta)(hb:WD X b tb):WD X (.BinOp a .Sub b pos) (t2 (gI0 λi j=>.int (i - j)) ta tb):=⟨Dl.o8 (ha:=ha.h) (hb:=hb.h)⟩
def Ig(ha:WD X a ta)(hb:WD X b tb):WD X (.Compare a [.LtE] [b] pos) (t2 (gI0 λi j=>.bool (decide (i<=j))) ta tb):=⟨Dl.Ig (ha:=ha.h) (hb:=hb.h)⟩
def Ii(ha:WD X a ta)(hb:WD X b tb):WD X (.Compare a [.GtE] [b] pos) (t2 (gI0 λi j=>.bool (decide (j<=i))) ta tb):=⟨Dl.Ii (ha:=ha.h) (hb:=hb.h)⟩
def Af(ha:WD X a ta)(hb:WD X b tb):WDT X (.Compare a [.Lt] [b] pos) (fX (t2 (gI0 λi j=>.bool (decide (i<j))) ta tb)):=⟨Dl.Af (ha:=ha.h) (hb:=hb.h)⟩
def iK(ha:WD X a ta)(hb:WD X b tb):WDT X (.Compare a [.Gt] [b] pos) (fX (t2 (gI0 λi j=>.bool (decide (j<i))) ta tb)):=⟨Dl.iK (ha:=ha.h) (hb:=hb.h)⟩
def Ag(ha:WD X a ta)(hb:WD X b tb):WDT X (.Compare a [.GtE] [b] pos) (fX (t2 (gI0 λi j=>.bool (decide (j<=i))) ta tb)):=⟨Dl.Ag (ha:=ha.h) (hb:=hb.h)⟩
def dz{ps:Pos}(hm:X.mg "len"=none)(ha:WDA X [a] t)(hg:Gl X "len":=by rfl)(he:zS X a []:=by rfl)(hpl:zP X pos []:=by rfl):WD X (.Call (.Name "len" ps) [a] [] pos) (tCl M9 t):=⟨Dl.dz (hm:=hm) (ha:=ha.h) (hg:=hg) (he:=he) (hpl:=hpl)⟩
def v7{ps:Pos}(hm:X.mg "int"=none)(hv:bootBuiltins "int"=some (.type "int"))(ha:WDA X [a] t)(hg:Gl X "int":=by rfl)(he:zS X a []:=by rfl)(hpl:zP X pos []:=by rfl):WD X (.Call (.Name "int" ps) [a] [] pos) (tCl Rq t):=⟨Dl.v7 (hm:=hm) (hv:=hv) (ha:=ha.h) (hg:=hg) (he:=he) (hpl:=hpl)⟩
def gH :WDSs X [] Eb:=⟨Dl.gH ⟩
def aK{st:Stmt}{rest:List Stmt}(h1:WDS X st t)(h2:WDSs X rest u):WDSs X (st::rest) (Bu t u):=⟨Dl.aK (h1:=h1.h) (h2:=h2.h)⟩
def aL{st:Stmt}(h1:WDS X st t):WDSs X [st] t:=⟨Dl.aL (h1:=h1.h)⟩
def n6{st:Stmt}:WDS X st (λ_ _=>False):=⟨Dl.n6 ⟩
def bB(he:WD X e te):WDS X (.Return (some e) pos) (Bv te):=⟨Dl.bB (he:=he.h)⟩
def cY{c:Expr}{a b:List Stmt}{tc:DT}(hc:WDT X c tc)(ha:WDSs X a t)(hb:WDSs X b u):WDS X (.If c a b pos) (dIf tc t u):=⟨Dl.cY (hc:=hc.h) (ha:=ha.h) (hb:=hb.h)⟩
def qF(he:WD X e te)(hs:swapsWith e none pos.line X.env=pure false:=by rfl):WDS X (.Expr e pos) (O7 te):=⟨Dl.qF (he:=he.h) (hs:=hs)⟩
def dM :WDGs X [] Dt:=⟨Dl.dM ⟩
def jQ{g:DG}{gs:DGs}(h1:WDG X e g)(h2:WDGs X es gs)(hs:(assignEach (e::es) X.env).map (·.2)=assign e X.env::(assignEach es X.env).map (·.2):=by rfl):WDGs X (e::es) (lY g gs):=⟨Dl.jQ (h1:=h1.h) (h2:=h2.h) (hs:=hs)⟩
def fW{gs:DGs}{k n:Nat}(hc:X.calm=true)(h:WDGs X es gs)(hn:(assignEach es X.env).length=n:=by rfl)(hst:(assignEach es X.env).findIdx? (·.1)=none:=by rfl):WDG X (.Tuple es k pos) (gTp n gs):=⟨Dl.fW (hc:=hc) (h:=h.h) (hn:=hn) (hst:=hst)⟩
def dY(hl:WD X l tl):WDI X tg l (iSq tl):=⟨Dl.dY (hl:=hl.h)⟩
def aN{a:Expr}{ps:Pos}(hm:X.mg "range"=none)(ha:WDA X [a] ta)(hg:Gl X "range":=by rfl)(hs:starEach [a] X.env=[(false,eval a X.env)]:=by rfl):WDI X tg (.Call (.Name "range" ps) [a] [] pos) (iR1 ta):=⟨Dl.aN (hm:=hm) (ha:=ha.h) (hg:=hg) (hs:=hs)⟩
def iW{body:List Stmt}(hp:PassesOwn (model X.prog X.w) X.A X.env X.xe)(hc:X.calm=true)(hi:WDI X tg iter ti)(hg:WDG X tg g)(hb:WDSs X body tb)(hs:zF X iter:=by intro _;rfl):WDS X (.For tg iter body [] pos) (Vc ti g tb):=⟨Dl.iW (hp:=hp) (hc:=hc) (hi:=hi.h) (hg:=hg.h) (hb:=hb.h) (hs:=hs)⟩
def nZ{body:List Stmt}{c:Expr}{tc:DT}(hp:PassesOwn (model X.prog X.w) X.A X.env X.xe)(hc:WDT X c tc)(hb:WDSs X body tb):WDS X (.While c body [] pos) (Bs tc tb):=⟨Dl.nZ (hp:=hp) (hc:=hc.h) (hb:=hb.h)⟩
def d8{X:Cx}:WDTs X [] (λ_ P=>P true):=⟨Dl.d8 ⟩
def cI{X:Cx}{c:Expr}{t:DT}(hc:WDT X c t):WDTs X [c] t:=⟨Dl.cI (hc:=hc.h)⟩
def cB(own:List Str)(hc:X.calm=true)(hi:WDI X tg iter ti)(hg:∀c,WDG (X.comp own scope c) tg g)(ht:∀c,WDTs (X.comp own scope c) ifs tt)(he:∀c,WD (X.comp own scope c) elt te)(hk:gJ X.env scope X.N=true:=by rfl)(hs:zF X iter:=by intro _;rfl):WD X (.ListComp elt [⟨tg,iter,ifs,0⟩] scope pos) (dLC own.length ti g tt te):=⟨Dl.cB (own:=own) (hc:=hc) (hi:=hi.h) (hg:=λc=>(hg c).h) (ht:=λc=>(ht c).h) (he:=λc=>(he c).h) (hk:=hk) (hs:=hs)⟩
def o9(own M:List Str)(hc:X.calm=true)(hi:WDI X tg iter ti)(hg:∀c,WDG (X.aQ own M scope c) tg g)(ht:∀c,WDTs (X.aQ own M scope c) ifs tt)(he:∀c,WD (X.aQ own M scope c) elt te)(hk:aV X.env scope X.N M=true:=by decide +kernel)(hs:zF X iter:=by intro _;rfl):WD X (.ListComp elt [⟨tg,iter,ifs,0⟩] scope pos) (dLC own.length ti g tt te):=⟨Dl.o9 (own:=own) (M:=M) (hc:=hc) (hi:=hi.h) (hg:=λc=>(hg c).h) (ht:=λc=>(ht c).h) (he:=λc=>(he c).h) (hk:=hk) (hs:=hs)⟩
def gD{op}(h:WD X a ta):WD X (.BoolOp op [a] pos) ta:=⟨Dl.gD (h:=h.h)⟩
def fO{rest:List Expr}(ha:WD X a ta)(hb:WD X (.BoolOp .And (b::rest) pos) tb):WD X (.BoolOp .And (a::b::rest) pos) (Cg ta tb):=⟨Dl.fO (ha:=ha.h) (hb:=hb.h)⟩
def gQ{u:DT}(hc:WDT X c u)(ha:WD X a ta)(hb:WD X b tb):WD X (.IfExp c a b pos) (PJ u ta tb):=⟨Dl.gQ (hc:=hc.h) (ha:=ha.h) (hb:=hb.h)⟩
def lR{ps:Pos}(hc:X.calm=true)(hm:X.mg "all"=none)(hv:bootBuiltins "all"=some (.builtin "all"))(ha:WDA X [a] t)(hg:Gl X "all":=by rfl)(he:zS X a []:=by rfl)(hpl:zP X pos []:=by rfl):WD X (.Call (.Name "all" ps) [a] [] pos) (tCl Rr t):=⟨Dl.lR (hc:=hc) (hm:=hm) (hv:=hv) (ha:=ha.h) (hg:=hg) (he:=he) (hpl:=hpl)⟩
def j7{ps:Pos}(hc:X.calm=true)(hm:X.mg "max"=none)(ha:WDA X [a,b] t)(hg:Gl X "max":=by rfl)(he:starEach [a,b] X.env=(false,eval a X.env)::starEach [b] X.env:=by rfl)(hpl:(backTo pos (starEach [b] X.env)).any (·.1)=false:=by rfl):WD X (.Call (.Name "max" ps) [a,b] [] pos) (tCl (gMM λi j=>if j > i then j else i) t):=⟨Dl.j7 (hc:=hc) (hm:=hm) (ha:=ha.h) (hg:=hg) (he:=he) (hpl:=hpl)⟩
def nu{ps:Pos}(hc:X.calm=true)(hm:X.mg "min"=none)(ha:WDA X [a,b] t)(hg:Gl X "min":=by rfl)(he:starEach [a,b] X.env=(false,eval a X.env)::starEach [b] X.env:=by rfl)(hpl:(backTo pos (starEach [b] X.env)).any (·.1)=false:=by rfl):WD X (.Call (.Name "min" ps) [a,b] [] pos) (tCl (gMM λi j=>if j<i then j else i) t):=⟨Dl.nu (hc:=hc) (hm:=hm) (ha:=ha.h) (hg:=hg) (he:=he) (hpl:=hpl)⟩
def nA{ps:Pos}(hm:X.mg "list"=none)(ha:WDA X [a] t)(hg:Gl X "list":=by rfl)(he:zS X a []:=by rfl)(hpl:zP X pos []:=by rfl):WD X (.Call (.Name "list" ps) [a] [] pos) (tCl M7 t):=⟨Dl.nA (hm:=hm) (ha:=ha.h) (hg:=hg) (he:=he) (hpl:=hpl)⟩
def iM{ps:Pos}(hm:X.mg "tuple"=none)(ha:WDA X [a] t)(hg:Gl X "tuple":=by rfl)(he:zS X a []:=by rfl)(hpl:zP X pos []:=by rfl):WD X (.Call (.Name "tuple" ps) [a] [] pos) (tCl Dv t):=⟨Dl.iM (hm:=hm) (ha:=ha.h) (hg:=hg) (he:=he) (hpl:=hpl)⟩
def rB{ps:Pos}(hm:X.mg "sorted"=none)(ha:WDA X [a] t)(hg:Gl X "sorted":=by rfl)(he:zS X a []:=by rfl)(hpl:zP X pos []:=by rfl):WD X (.Call (.Name "sorted" ps) [a] [] pos) (tCl Bk t):=⟨Dl.rB (hm:=hm) (ha:=ha.h) (hg:=hg) (he:=he) (hpl:=hpl)⟩
def qZ{ps:Pos}(hm:X.mg "sorted"=none)(ha:WDA X [a] t)(hg:Gl X "sorted":=by rfl)(he:zS X a []:=by rfl)(hpl:zP X pos []:=by rfl):WD X (.Call (.Name "sorted" ps) [a] [] pos) (tCl Bj t):=⟨Dl.qZ (hm:=hm) (ha:=ha.h) (hg:=hg) (he:=he) (hpl:=hpl)⟩
def eG{ps:Pos}(hm:X.mg "sorted"=none)(ha:WDA X [a] t)(hg:Gl X "sorted":=by rfl)(he:zS X a []:=by rfl)(hpl:zP X pos []:=by rfl):WD X (.Call (.Name "sorted" ps) [a] [] pos) (tCl wU t):=⟨Dl.eG (hm:=hm) (ha:=ha.h) (hg:=hg) (he:=he) (hpl:=hpl)⟩
def yC(hu:X.A.units+64<cLine)(ha:WD X a ta)(hb:WD X b tb)(hm:behindInMarks .In b=false:=by rfl):WD X (.Compare a [.In] [b] pos) (t2 (gIn false) ta tb):=⟨Dl.yC (hu:=hu) (ha:=ha.h) (hb:=hb.h) (hm:=hm)⟩
def dU(hu:X.A.units+64<cLine)(ha:WD X a ta)(hb:WD X b tb)(hm:behindInMarks .In b=false:=by rfl):WDT X (.Compare a [.In] [b] pos) (fX (t2 (gIn false) ta tb)):=⟨Dl.dU (hu:=hu) (ha:=ha.h) (hb:=hb.h) (hm:=hm)⟩
def o7(hu:X.A.units+64<cLine)(ha:WD X a ta)(hb:WD X b tb)(hm:behindInMarks .NotIn b=false:=by rfl):WDT X (.Compare a [.NotIn] [b] pos) (fX (t2 (gIn true) ta tb)):=⟨Dl.o7 (hu:=hu) (ha:=ha.h) (hb:=hb.h) (hm:=hm)⟩
def iY :WDO X none Jj:=⟨Dl.iY ⟩
def dJ(h:WD X e te):WDO X (some e) (Ji te):=⟨Dl.dJ (h:=h.h)⟩
def lQ(ha:WD X a ta):WD X (.UnaryOp .USub a pos) (PB ta):=⟨Dl.lQ (ha:=ha.h)⟩
def dc{f:List D->(D->Prop)->Prop}(C:Cal X.prog X.w X.K X.mg X.base k x ps (spD f))(hr:Room j X.A)(ha:WDA X (e::es) t)(hk:k<=j:=by decide)(hg:Gl X x:=by rfl)(hdb:zB x:=by decide)(he:zS X e es:=by rfl)(hpl:zP X pos es:=by rfl):WD X (.Call (.Name x p) (e::es) [] pos) (tFn f t):=⟨Dl.dc (C:=C) (hr:=hr) (ha:=ha.h) (hk:=hk) (hg:=hg) (hdb:=hdb) (he:=he) (hpl:=hpl)⟩
def dcP{C:Pn->Prop}{i:Nat}{f:List D->(D->Prop)->Prop}{y:Str}{py:Pos}(CC:Cal X.prog X.w X.K X.mg X.base k x ps (spP C f))(hr:Room j X.A)(hi:WV X (.Name y py) i)(ha:WDA X es t)(hk:k<=j:=by decide)(hg:Gl X x:=by rfl)(hdb:zB x:=by decide)(he:starEach (.Name y py::es) X.env=(false,eval (.Name y py) X.env)::starEach es X.env:=by rfl)(hpl:zP X pos es:=by rfl):WD X (.Call (.Name x p) (.Name y py::es) [] pos) (PX C f i t):=⟨Dl.dcP (CC:=CC) (hr:=hr) (hi:=hi.h) (ha:=ha.h) (hk:=hk) (hg:=hg) (hdb:=hdb) (he:=he) (hpl:=hpl)⟩
def dv(i:Nat){x:Str}{pos:Pos}(hN:X.N[i]?=some x:=by rfl)(hv:Vis X.env.scope x:=by first|exact ć rfl|exact Or.inr (ć rfl)|exact Or.inr (Or.inr rfl))(hd:zB x:=by decide)(hcd:(x == ("__classdict__":Str))=false:=by decide):WD X (.Name x pos) (tV i):=⟨Dl.dv (i:=i) (hN:=hN) (hv:=hv) (hd:=hd) (hcd:=hcd)⟩
def Aj(ha:WD X a ta)(hb:WD X b tb):WD X (.Compare a [.Is] [b] pos) (t2 Nb ta tb):=⟨Dl.Aj (ha:=ha.h) (hb:=hb.h)⟩
def Ih(ha:WD X a ta)(hb:WD X b tb)(hs:oJ b:=by exact λ_ _=>rfl):WD X (.Subscript a b pos) (t2 gIx ta tb):=⟨Dl.Ih (ha:=ha.h) (hb:=hb.h) (hs:=hs)⟩
def vV(ha:WD X a ta)(hb:WD X b tb):WD X (.BinOp a .Add b pos) (t2 Ou ta tb):=⟨Dl.vV (ha:=ha.h) (hb:=hb.h)⟩
def fM(ha:WD X a ta)(hb:WD X b tb):WD X (.BinOp a .Mult b pos) (t2 JM ta tb):=⟨Dl.fM (ha:=ha.h) (hb:=hb.h)⟩
def rC(hu:X.A.units+64<cLine)(ha:WD X a ta)(hb:WD X b tb):WD X (.Compare a [.Eq] [b] pos) (t2 (nW false) ta tb):=⟨Dl.rC (hu:=hu) (ha:=ha.h) (hb:=hb.h)⟩
def vW(hu:X.A.units+64<cLine)(ha:WD X a ta)(hb:WD X b tb):WD X (.Compare a [.NotEq] [b] pos) (t2 (nW true) ta tb):=⟨Dl.vW (hu:=hu) (ha:=ha.h) (hb:=hb.h)⟩
def gq(hu:X.A.units+64<cLine)(ha:WD X a ta)(hb:WD X b tb):WDT X (.Compare a [.Eq] [b] pos) (fX (t2 (nW false) ta tb)):=⟨Dl.gq (hu:=hu) (ha:=ha.h) (hb:=hb.h)⟩
def vU(hu:X.A.units+64<cLine)(ha:WD X a ta)(hb:WD X b tb):WDT X (.Compare a [.NotEq] [b] pos) (fX (t2 (nW true) ta tb)):=⟨Dl.vU (hu:=hu) (ha:=ha.h) (hb:=hb.h)⟩
def sU{rest:List Stmt}(i:Nat)(h:WDSs X rest t):WDSs X rest (RN i t):=⟨Dl.sU (i:=i) (h:=h.h)⟩
def Kf{rest:List Stmt}(i:Nat)(b:Bool)(h:WDSs X rest t):WDSs X rest (dSp i b t):=⟨Dl.Kf (i:=i) (b:=b) (h:=h.h)⟩
def sV{rest:List Stmt}(js:List Nat)(h:WDSs X rest t):WDSs X rest (Bw js t):=⟨Dl.sV (js:=js) (h:=h.h)⟩
def uE{lo hi:Option Expr}{tl th:DO}(he:WD X e te)(hl:WDO X lo tl)(hh:WDO X hi th):WD X (.Subscript e (.Slice lo hi none p2) pos) (Sh te tl th):=⟨Dl.uE (he:=he.h) (hl:=hl.h) (hh:=hh.h)⟩
def vZ{ps:Pos}(hc:X.calm=true)(hm:X.mg "min"=none)(ha:WDA X [a] t)(hg:Gl X "min":=by rfl)(he:zS X a []:=by rfl)(hpl:zP X pos []:=by rfl):WD X (.Call (.Name "min" ps) [a] [] pos) (tCl (Ro (λi j=>if j<i then j else i) (λM a=>M<=a)) t):=⟨Dl.vZ (hc:=hc) (hm:=hm) (ha:=ha.h) (hg:=hg) (he:=he) (hpl:=hpl)⟩
def nq{ps:Pos}(hc:X.calm=true)(hm:X.mg "sum"=none)(ha:WDA X [a] t)(hg:Gl X "sum":=by rfl)(he:zS X a []:=by rfl)(hpl:zP X pos []:=by rfl):WD X (.Call (.Name "sum" ps) [a] [] pos) (tCl JN t):=⟨Dl.nq (hc:=hc) (hm:=hm) (ha:=ha.h) (hg:=hg) (he:=he) (hpl:=hpl)⟩
end
section
def cG[Gr]{T:String}{x:Str}{e:Expr}{te:DE}{ps pt pos:Pos}(hk:∀t:Value,(t=.type "NoneType"\/t=.type "bool"\/t=.type "int"\/t=.type "str"\/t=.type "list"\/t=.type "tuple"\/t=.type "dict")->∃n,t=.type n/\W.kitOne X.K t (.type T)=some (n == T || (T == "int"&&n == "bool")))(hm:X.mg "isinstance"=none)(he:WD X e te)(hT:WC X (.Name x pt) (.ty T))(hg:Gl X "isinstance":=by rfl)(h1:starEach [e,.Name x pt] X.env=(false,eval e X.env)::starEach [.Name x pt] X.env:=by rfl)(h2:starEach [.Name x pt] X.env=(false,eval (.Name x pt) X.env)::starEach [] X.env:=by rfl)(hpl:(backTo pos (starEach [.Name x pt] X.env)).any (·.1)=false:=by rfl) :
  WD X (.Call (.Name "isinstance" ps) [e,.Name x pt] [] pos) (tIs T te):=⟨Dl.cG hk hm he.h hT.h hg h1 h2 hpl⟩
end
end Wr
set_option autoImplicit false
set_option autoImplicit true
namespace Wr
open PySem L2 PyProof.Rows Dl
section
variable [Gr] {X:Cx}{tj te:DE}
end
section
variable [Gr] {X:Cx}{tj te te1 te2 ta:DE}{t:DS}
end
end Wr
namespace Dl
open PySem L2 PyProof.Rows
section
variable {X:Cx}{pins:List (Addr×Obj)}{σ:L2.St}{H:Hp}{s:Shared}{ok ok':Addr->Prop}
mutual
def Rp.lJ(f:∀a o,ok a->((∀xs,o≠.tup xs)/\¬Fxd o)->H a=some o->ok' a):∀{v:V}{d:D},Rp ok H v d->Rp ok' H v d
 |_,_,.non=>.non
 |_,_,.bl b=>.bl b
 |_,_,.int i=>.int i
 |_,_,.str x=>.str x
 |_,_,.lst o h r=>.lst (f _ _ o ⟨(λ_ z=>by cases z),λ⟨_,_,z⟩=>by cases z⟩ h) h (Rps.lJ f r)
 |_,_,.tup h r=>.tup h (Rps.lJ f r)
 |_,_,.dct o h r=>.dct (f _ _ o ⟨(λ_ z=>by cases z),λ⟨_,_,z⟩=>by cases z⟩ h) h (Rkv.lJ f r)
def Rps.lJ(f:∀a o,ok a->((∀xs,o≠.tup xs)/\¬Fxd o)->H a=some o->ok' a):∀{v:List V}{d:List D},Rps ok H v d->Rps ok' H v d
 |_,_,.nil=>.nil
 |_,_,.cons h r=>.cons (Rp.lJ f h) (Rps.lJ f r)
def Rkv.lJ(f:∀a o,ok a->((∀xs,o≠.tup xs)/\¬Fxd o)->H a=some o->ok' a):∀{v:List (Key×V)}{d:List (D×D)},Rkv ok H v d->Rkv ok' H v d
 |_,_,.nil=>.nil
 |_,_,.cons h r=>.cons (Rp.lJ f h) (Rkv.lJ f r)
end
end
section
variable {X:Cx}{pos:Pos}{a e:Expr}{te:DE}{t:DA} [Gr]
end
def spR(f:List D->(D->Prop)->Prop):Sp:=λvs H Q _=>∃ok ds P,Rps ok H vs ds/\f ds P/\∀d v H',P d->Same H H'->Rp (λa=>ok a\/H a=none) H' v d->Q v H'
def wN{f:List D->(D->Prop)->Prop}{n:Nat}(hn:∀ds P,f ds P->ds.length=n:=by intro _ _ h;repeat (first|(obtain⟨rfl,_⟩:=h;rfl)|obtain⟨_,h⟩:=h)):∀vs H Q E,spR f vs H Q E->vs.length=n:=λvs H Q E h=>by
 obtain⟨ok,ds,P,r,t,_⟩:=h
 rw[r.length]
 exact hn ds P t
section
variable [Gr]
abbrev DR:=(D->Prop)->List Sl->Prop
structure WishR(p:Pn)(own:Addr->Option Nat)(H:Hp)(P:D->Prop)(Q:Ends):Prop where
 rt:∀d v H',P d->p.PI H'->(∀b o,H b=some o->¬p.fp b->own b=none->H' b=some o)->Rp (λa=>¬p.fp a) H' v d->Q.rt v H'
def Oj(t:DR):TS:=λQ σ H=>∃p H0 own ρ P,EnvD p H0 own σ H ρ/\t P ρ/\WishR p own H P Q
structure WR(X:Cx)(ss:List Stmt)(t:DR):Prop where
 h:PSs X ss (Oj t)
def Tq(te:DE):DR:=λP ρ=>te ρ λ_ d=>P d
def Tp(t:DS)(u:DR):DR:=λP ρ=>t { nx:=u P,rt:=λ_=>False } ρ
variable {X:Cx}{pos:Pos}{e:Expr}{te:DE}{st:Stmt}{rest:List Stmt}{t:DS}{u:DR}
def zX(he:Wr.WD X e te):WR X [.Return (some e) pos] (Tq te):=⟨PSs.wk' (vO (fJ he.h)) (by
 rintro Q σ H ⟨p,H0,own,ρ,P,E,t,w⟩
 exact⟨p,H0,own,ρ,_,E,t,λk d v H' h A r=>w.rt d v H' h A.pen (λb o e n _=>A.kp b o e n) (r.mono (λa o=>j8 A o) (λ_ _ _ e=>e) λ_ _ e=>e)⟩)⟩
def vH(h1:Wr.WDS X st t)(h2:WR X rest u):WR X (st::rest) (Tp t u):=⟨PSs.wk' (qW h1.h h2.h) (by
 rintro Q σ H ⟨p,H0,own,ρ,P,E,t,w⟩
 refine⟨p,H0,own,ρ,_,E,t,⟨λo s h r e g n=>⟨p,H0,o,r,P,e,n,⟨λd v H' hP hI hk rp=>w.rt d v H' hP hI (λb ob e1 n1 o1=>?_) rp⟩⟩,λ_ _ _ n=>n.elim,λ_ _ _ _ _ _ n=>n.elim,λ_ _ _ _ _ _ n=>n.elim⟩⟩
 obtain⟨e2,o2⟩:=g.keep b ob e1 n1 o1
 exact hk b ob e2 n1 o2)⟩
def Bp{f:List D->(D->Prop)->Prop}{T:DR}{N:List Str}{vs:List V}{H:Hp}{Q:VK}{E:XK}(h:spR f vs H Q E)(body:∀ds P,f ds P->∃ρ,ds.map bw++É (N.length - ds.length) .any=ρ/\T P ρ)(g:∀p,Gr.G p H:=by intro _;trivial):Oj T { nx:=λ_ H'=>Q .non H',rt:=Q } (L2.start N vs) H:=by
 obtain⟨ok,ds,P,r,t,q⟩:=h
 obtain⟨ρ,e,b⟩:=body ds P t
 let p:Pn:=⟨λa=>¬ok a/\∃o,H a=some o/\(∀xs,o≠.tup xs)/\¬Fxd o,λH'=>∀b o,¬ok b->H b=some o->((∀xs,o≠.tup xs)/\¬Fxd o)->H' b=some o,.non,
  λH1 H2 h1 h2 b o n e1 e2=>h2 b o (.inl ⟨n,o,e1,e2⟩) (h1 b o n e1 e2),λH1 b h1 ⟨n,o,e1,e2⟩=>⟨o,h1 b o n e1 e2,e2⟩⟩
 have E:=iw (p:=p) (N:=N) (g p) (λb o _ e _=>e) (r.mono (ok':=λa=>¬p.fp a) (λa o z=>z.1 o) (λ_ _ _ e=>e) λ_ _ e=>e)
 rw[r.length] at E
 rw[e] at E
 refine⟨p,H,λ_=>none,_,_,E,b,⟨λd v H' hP hI hk rp=>?_⟩⟩
 have sm:Same H H':=λb o e=>by
  by_cases hf:p.fp b
  ·obtain⟨n,o',e1,e2⟩:=hf
   rw[e] at e1
   cases e1
   exact hI b o n e e2
  ·exact hk b o e hf rfl
 refine q d v H' hP sm (rp.lJ λa o n1 n2 e1=>?_)
 cases hx:H a with
 |none=>exact .inr rfl
 |some o' =>
  have e2:=sm a o' hx
  rw[e1] at e2
  cases e2
  exact .inl (ĉ λz=>n1 ⟨z,o,hx,n2⟩)
def VB(f:List D->(D->Prop)->Prop)(t:DA):DE:=λρ P=>t ρ λks=>(ks.all λk=>k.1.le .shr)=true/\f (ks.map (·.2)) λd=>P (norm .shr d) d
def Cv{p:Pn}{H0 Hb H H2:Hp}{own:Addr->Option Nat}(A:At p H0 own Hb H):∀{vs:List V}{ks:List (Kd×D)},RpK p H0 own Hb H2 vs ks->(ks.all λk=>k.1.le .shr)=true->Rps (okK p H0 own Hb .shr) H2 vs (ks.map (·.2))
 |_,_,.nil,_=>.nil
 |_,_,.cons h t,q=>by
  rw[List.all_cons,Û] at q
  exact .cons (mR A q.1 h) (Cv A t q.2)
variable {k j:Nat}{x:Str}{ps:List Str}{es:List Expr}{ta:DA}{p:Pos}
def dcR{f:List D->(D->Prop)->Prop}(C:Cal X.prog X.w X.K X.mg X.base k x ps (spR f))(hr:Room j X.A)(ha:Wr.WDA X (e::es) ta)(hk:k<=j:=by decide)(hg:Gl X x:=by rfl)(hdb:zB x:=by decide)(he:zS X e es:=by rfl)(hpl:zP X pos es:=by rfl) :
  Wr.WD X (.Call (.Name x p) (e::es) [] pos) (VB f ta):=⟨PE.wk (pcS C hr ha.h hk hg hdb he hpl) (by
 rintro σ H Q ⟨p,H0,own,ρ,P,E,t,q⟩
 refine⟨p,H0,own,ρ,_,E,t,λks vs H1 h A r=>?_⟩
 show spR f (vs++[]) H1 Q E0
 rw[ð]
 refine⟨_,ks.map (·.2),_,Cv A r h.1,h.2,λd v H' h2 s r2=>?_⟩
 have k2:Kp p H1 H':=Kp.of s
 refine q _ d v H' h2 (A.go k2 (p.mono H1 H' A.pen λb o _ e=>s b o e)) (aY ?_)
 refine r2.mono (λa o=>?_) (λ_ _ _ e=>e) λ_ _ e=>e
 rcases o with o|o
 ·exact o
 ·exact cj A (j:=.new) (k:=.shr) rfl (A.free o))⟩
end
end Dl
namespace Wr
open PySem L2 PyProof.Rows Dl
variable [Gr] {X:Cx}{pos:Pos}{a:Expr}{t:DA}
end Wr
namespace Dl
open PySem L2 PyProof.Rows
variable [Gr]
section
variable {X:Cx}{pos:Pos}{st:Stmt}{rest:List Stmt}{t u:DS}{te tj t1 t2:DE}
def pL(t u:DS):DS:=λP ρ=>∃M:List Sl->Prop,t { P with nx:=M } ρ/\∀ρ',M ρ'->u P ρ'
end
end Dl
namespace Wr
open PySem L2 PyProof.Rows Dl
section
variable [Gr] {X:Cx}{tj te t1 t2:DE}{t u:DS}
end
end Wr
set_option autoImplicit false
namespace L2
open PySem PySem.Spec PyProof.Rows
section
variable {X:Cx}{k:Nat}{f CF:Addr}{fd:FuncData}{ps:List Str}{sp:Sp}{E:XK}{x hx n:Str}{p np cpos epos hpos pos:Pos}{e:Expr}{es:List Expr}{t:TA}{b₀:Stmt}{suite:List Stmt}{ts:TS}{j:Nat}
end
section
variable {X:Cx}{k:Nat}{f CF:Addr}{fd:FuncData}{ps:List Str}{sp:Sp}{E:XK}{x hx n:Str}{p np cpos epos hpos pos:Pos}{e:Expr}{es:List Expr}{t:TA}{b₀:Stmt}{suite:List Stmt}{ts:TS}{j:Nat}
end
end L2
namespace Dl
open PySem L2 PyProof.Rows
section
variable [Gr] {X:Cx}{pos:Pos}{a:Expr}{t:DA}
def boot_str:bootBuiltins "str"=some (.type "str"):=by decide +kernel
end
end Dl
namespace Wr
open PySem L2 PyProof.Rows Dl
section
variable [Gr] {X:Cx}{pos:Pos}{a:Expr}{t:DA}
end
end Wr
namespace Dl
open PySem L2 PyProof.Rows
structure Ext(p q:Pn):Prop where
 pv:q.pv=p.pv
 fp:∀a,p.fp a->q.fp a
 pi:∀H,q.PI H->p.PI H
 go:∀H H',q.PI H->Kp p H H'->p.PI H'->q.PI H'
def CE(C:Pn->Prop)(q:Pn):Prop:=∃p,C p/\Ext p q
section
variable [Gr]
variable {X:Cx}{pos:Pos}{c:Expr}{a rest:List Stmt}{tc:DT}{t u:DR}
variable {k j i:Nat}{x y:Str}{ps:List Str}{es:List Expr}{ta:DA}{pp py:Pos}
end
end Dl
namespace L2
open PySem PySem.Spec PyProof.Rows Builtin
section
variable {X:Cx}
end
end L2
namespace Dl
open PySem L2 PyProof.Rows
section
variable [Gr]
variable {X:Cx}{pos:Pos}{a b e:Expr}{ta tb te:DE}{p1 p2 p3:Pos}
end
end Dl
namespace Wr
open PySem L2 PyProof.Rows Dl
section
variable [Gr] {X:Cx}{pos:Pos}{a b e:Expr}{ta tb te:DE}{p1 p2 p3:Pos}
end
end Wr
namespace L2
open PySem PySem.Spec PyProof.Rows Builtin
section
variable {X:Cx}
end
end L2
namespace Dl
open PySem L2 PyProof.Rows
section
variable [Gr] {X:Cx}{pos p2:Pos}{a b e:Expr}{t:DA}{ta tb te:DE}
end
end Dl
namespace Wr
open PySem L2 PyProof.Rows Dl
section
variable [Gr] {X:Cx}{pos p2:Pos}{a b e:Expr}{t:DA}{ta tb te:DE}
end
end Wr
namespace Dl
open PySem L2 PyProof.Rows
variable [Gr]
section
variable {X:Cx}{st st2:Stmt}{rest:List Stmt}{te1 te2:DE}{tt:DT}{tr:TS}{t:DS}
end
section
variable {X:Cx}{own:List Str}{scope:Scope}{tg iter elt:Expr}{ifs:List Expr}{pos:Pos}{g:DG}{tt:DT}{te:DE}
end
end Dl
namespace Wr
open PySem L2 PyProof.Rows Dl
variable [Gr]
section
variable {X:Cx}{te1 te2:DE}{tt:DT}{tr:TS}{t:DS}
end
end Wr
namespace PySem
open PySem.W PyProof.Rows PySem.Spec
section
variable {prog:Program}{w:World}{A:Around}{E:Value->Shared->Prop}{s:Shared}{it l:Addr}{items:Array Value}
end
end PySem
namespace L2
open PySem PySem.Spec PyProof.Rows
section
variable {X:Cx}
end
end L2
namespace Dl
open PySem L2 PyProof.Rows
section
variable [Gr] {X:Cx}{a:Expr}{t:DA}
end
end Dl
namespace Wr
open PySem L2 PyProof.Rows Dl
section
variable [Gr] {X:Cx}{a:Expr}{t:DA}
end
end Wr
namespace L2
open PySem PyProof.Rows
section
variable {X:Cx}{pins:List (Addr×Obj)}{σ:List (Option V)}{H:Hp}{s:Shared}
end
end L2
namespace Dl
open PySem L2 PyProof.Rows
variable [Gr]
section
variable {X:Cx}{pos pos':Pos}{a:Expr}{t:DA}
end
end Dl
namespace Wr
open PySem L2 PyProof.Rows Dl
section
variable [Gr] {X:Cx}{pos pos':Pos}{a:Expr}{t:DA}
end
end Wr
namespace L2
open PySem PySem.Spec PyProof.Rows
open PySem.AutoSeq1 (wpAny_loadPart')
open PySem.MeetsSeq PySem.MeetsSeq3
def Bc:List Int->List Int->Bool
 |[],[]=>false
 |[],_::_=>true
 |_::_,[]=>false
 |x::a,y::b=>if x=y then Bc a b else decide (x<y)
def lex_nil(b:List Int):Bc [] b=decide (0<b.length):=by cases b <;> rfl
def ints_get:∀{vs:List Value}{ns:List Int},IntsAre vs ns->∀{i:Nat}{x:Int},ns[i]?=some x->∃t,vs[i]?=some (.int x t)
 |_,_,.nil,i,x,e=>by simp at e
 |_,_,.cons y t r,0,x,e=>by
  have e:some y=some x:=e
  cases e
  exact⟨t,rfl⟩
 |_,_,.cons y t r,i+1,x,e=>by
  obtain⟨t',h⟩:=ints_get r (i:=i) (x:=x) (by simpa using e)
  exact⟨t',by simpa using h⟩
def Dq{items:Array Value}{ns:List Int}(h:IntsAre items.toList ns){i:Nat}{x:Int}(hx:ns[i]?=some x):∃t,items[((i:Nat):Int).toNat]?=some (.int x t):=by
 obtain⟨t,e⟩:=ints_get h hx
 exact⟨t,by simpa using e⟩
def Mr(l b:Addr)(items items2:Array Value)(n n2:Nat)(dd dd2:Option Addr)(sl sl2:Array (Option Value))(ns ms:List Int)(h1:IntsAre items.toList ns)(h2:IntsAre items2.toList ms)(k:Nat) :
  ∀i:Nat,i<=ns.length->i<=ms.length->ns.length - i=k->Meets (Builtin.«list.__eq__.loop» ⟨[.ref l,.ref b,rawInt i,rawInt 0],[]⟩)
   (λ_ R s=>s.heap.get? l=some { cls:=.type "list",dict:=dd,data:=.seq items n,slots:=sl }/\s.heap.get? b=some { cls:=.type "list",dict:=dd2,data:=.seq items2 n2,slots:=sl2 } /\
    R (.ok (.ret (.bool (Bc (ns.drop i) (ms.drop i))))) s):=by
 have s1:items.size=ns.length:=by have:=h1.length;simpa using this
 have s2:items2.size=ms.length:=by have:=h2.length;simpa using this
 induction k with
 |zero =>
  intro i i1 i2 hk prog w A R s h
  obtain⟨hp,g,d,tk,os⟩:=s;obtain⟨hl,hb,h⟩:=h
  wp_walk using İ hl,İ hb
  have hi1:items[((i:Nat):Int).toNat]?=none:=by simp;omega
  rw[hi1]
  have hd:ns.drop i=[]:=List.drop_eq_nil_of_le (by omega)
  rw[hd,lex_nil] at h
  wp_walk using İ hl,İ hb
  show R (.ok (.ret (.bool (decide (items.size<items2.size))))) _
  have e:decide (items.size<items2.size)=decide (0<(ms.drop i).length):=by
   rw[Ā]
   exact decide_eq_decide.mpr (by omega)
  rw[e]
  exact h
 |succ k ih =>
  intro i i1 i2 hk prog w A R s h
  obtain⟨hp,g,d,tk,os⟩:=s;obtain⟨hl,hb,h⟩:=h
  wp_walk using İ hl,İ hb
  have hlt:i<ns.length:=by omega
  have hx:=Ç hlt
  have dx:ns.drop i=ns[i]::ns.drop (i+1):=ŕ hlt
  rw[dx] at h
  generalize ns[i]=x at hx h
  obtain⟨t,ex⟩:=Dq h1 hx
  rw[ex]
  by_cases hlt2:i<ms.length
  ·have hy:=Ç hlt2
   have dy:ms.drop i=ms[i]::ms.drop (i+1):=ŕ hlt2
   rw[dy] at h
   generalize ms[i]=y at hy h
   obtain⟨u,ey⟩:=Dq h2 hy
   rw[ey]
   have hc:((i:Int)+1)=((i+1:Nat):Int):=by push_cast;rfl
   have h:R (.ok (.ret (.bool (if x=y then Bc (ns.drop (i+1)) (ms.drop (i+1)) else decide (x<y))))) _:=h
   refine Ä (wpAny_eqBool_int ?_)
   by_cases exy:x=y
   ·subst exy
    rw[if_pos rfl] at h
    rw[beq_self_eq_true]
    wp_walk
    rw[hc]
    exact⟨plainId_quiet plain_eq_loop _,ő entry_eq_loop (by
     rw[Ņ plain_eq_loop _]
     exact ih (i+1) (by omega) (by omega) (by omega) prog w A R _ ⟨hl,hb,h⟩)⟩
   ·rw[if_neg exy] at h
    rw[beq_eq_false_iff_ne.mpr exy]
    wp_walk using İ hl,İ hb
    rw[ex,ey]
    refine Ä ?_
    show wpAny _ _ (compareOp .Lt (.int x t) (.int y u)) _ _ _
    exact PyProof.Rows.lt_int (Ø h)
  ·have hi2:items2[((i:Nat):Int).toNat]?=none:=by simp;omega
   rw[hi2]
   have hd:ms.drop i=[]:=List.drop_eq_nil_of_le (by omega)
   rw[hd] at h
   have h:R (.ok (.ret (.bool false))) _:=h
   wp_walk using İ hl,İ hb
   show R (.ok (.ret (.bool (decide (items.size<items2.size))))) _
   rw[decide_eq_false (by omega)]
   exact h
def Mv(l b:Addr)(items items2:Array Value)(n n2:Nat)(dd dd2:Option Addr)(sl sl2:Array (Option Value))(ns ms:List Int)(h1:IntsAre items.toList ns)(h2:IntsAre items2.toList ms) :
  Meets (Builtin.«list.__lt__» ⟨[.ref l,.ref b],[]⟩)
   (λ_ R s=>s.heap.get? l=some { cls:=.type "list",dict:=dd,data:=.seq items n,slots:=sl }/\s.heap.get? b=some { cls:=.type "list",dict:=dd2,data:=.seq items2 n2,slots:=sl2 } /\
    R (.ok (.ret (.bool (Bc ns ms)))) s):=by
 intro prog w A R s h
 obtain⟨hp,g,d,tk,os⟩:=s;obtain⟨hl,hb,h⟩:=h
 have f3:=AutoSeq1.sub_list_list
 wp_walk using İ hl,İ hb
 exact⟨plainId_quiet plain_eq_loop _,ő entry_eq_loop (by
  rw[Ņ plain_eq_loop _]
  exact Mr l b items items2 n n2 dd dd2 sl sl2 ns ms h1 h2 _ 0 (ÿ _) (ÿ _) rfl prog w A R _ ⟨hl,hb,h⟩)⟩
def bA:Nat->List Int->Int
 |0,_=>0
 |_+1,[]=>0
 |k+1,x::l=>(x+1) * 64 ^ k+bA k l
def oK(l:List Int):Prop:=l.length<=40/\∀x∈l,0<=x/\x<62
def gO(k:Nat):(0:Int)<64 ^ k:=Int.pow_pos (by decide)
def jL:∀(k:Nat) (l:List Int),(∀x∈l,0<=x/\x<62)->0<=bA k l/\bA k l<64 ^ k
 |0,l,_=>⟨ā _,by show(0:Int)<64 ^ 0;decide⟩
 |k+1,[],_=>⟨ā _,gO _⟩
 |k+1,x::l,h=>by
  obtain⟨h1,h2⟩:=jL k l λy hy=>h y (Ã _ hy)
  have hx:=h x Æ
  have p:=gO k
  have e:(64:Int) ^ (k+1)=64 ^ k * 64:=Int.pow_succ ..
  show 0<=(x+1) * 64 ^ k+bA k l/\(x+1) * 64 ^ k+bA k l<64 ^ (k+1)
  rw[e]
  generalize (64:Int) ^ k=M at *
  have a1:0<=(x+1) * M:=Int.mul_nonneg (by omega) (by omega)
  have a2:(x+1) * M<=62 * M:=Int.mul_le_mul_of_nonneg_right (by omega) (by omega)
  omega
def yR:∀(k:Nat) (a b:List Int),a.length<=k->b.length<=k->(∀x∈a,0<=x/\x<62)->(∀x∈b,0<=x/\x<62)->Bc a b=decide (bA k a<bA k b)
 |0,[],[],_,_,_,_=>rfl
 |k+1,[],[],_,_,_,_=>rfl
 |k+1,[],y::b,_,_,_,hb=>by
  have h1:=(jL k b λz hz=>hb z (Ã _ hz)).1
  have hy:=hb y Æ
  have p:=gO k
  have e:(0:Int)<(y+1) * 64 ^ k+bA k b:=by
   have:0<(y+1) * 64 ^ k:=Int.mul_pos (by omega) p
   omega
  exact(decide_eq_true e).symm
 |k+1,x::a,[],_,_,ha,_=>by
  have h1:=(jL k a λz hz=>ha z (Ã _ hz)).1
  have hx:=ha x Æ
  have p:=gO k
  have e:¬(x+1) * 64 ^ k+bA k a<0:=by
   have:0<(x+1) * 64 ^ k:=Int.mul_pos (by omega) p
   omega
  exact(decide_eq_false e).symm
 |k+1,x::a,y::b,la,lb,ha,hb=>by
  have ih:=yR k a b (by simpa using la) (by simpa using lb) (λz hz=>ha z (Ã _ hz)) λz hz=>hb z (Ã _ hz)
  have h1:=jL k a λz hz=>ha z (Ã _ hz)
  have h2:=jL k b λz hz=>hb z (Ã _ hz)
  have p:=gO k
  show(if x=y then Bc a b else decide (x<y))=decide ((x+1) * 64 ^ k+bA k a<(y+1) * 64 ^ k+bA k b)
  generalize (64:Int) ^ k=M at *
  by_cases e:x=y
  ·subst e
   rw[if_pos rfl,ih]
   exact decide_eq_decide.mpr (by omega)
  ·rw[if_neg e]
   refine decide_eq_decide.mpr ⟨λh=>?_,λh=>?_⟩
   ·have a2:(x+1+1) * M<=(y+1) * M:=Int.mul_le_mul_of_nonneg_right (by omega) (by omega)
    have a3:(x+1+1) * M=(x+1) * M+M:=by rw[Int.add_mul (x+1) 1 M,Int.one_mul]
    omega
   ·by_cases hlt:x<y
    ·exact hlt
    ·have a2:(y+1+1) * M<=(x+1) * M:=Int.mul_le_mul_of_nonneg_right (by omega) (by omega)
     have a3:(y+1+1) * M=(y+1) * M+M:=by rw[Int.add_mul (y+1) 1 M,Int.one_mul]
     omega
 |0,_::_,_,h,_,_,_=>absurd h (Nat.not_succ_le_zero _)
 |0,[],_::_,_,h,_,_=>absurd h (Nat.not_succ_le_zero _)
def jk(h:Heap)(u:Value)(l:List Int):Prop:=∃a o its n,u=.ref a/\h.get? a=some o/\o.cls=.type "list"/\o.data=.seq its n/\IntsAre its.toList l
def jk.keep{h h':Heap}{u:Value}{l:List Int}(x:jk h u l)(k:∀a o,u=.ref a->h.get? a=some o->h'.get? a=some o):jk h' u l:=by
 obtain⟨a,o,its,n,e,ho,hc,hd,hi⟩:=x
 exact⟨a,o,its,n,e,k a o e ho,hc,hd,hi⟩
def TJ{α β:Type}{F G:α->β->Prop}{l₁:List α}{l₂:List β}(h:Paired F l₁ l₂)(f:∀a b,a∈l₁->F a b->G a b):Paired G l₁ l₂:=by
 induction h with
 |nil=>exact .nil
 |cons r t ih=>exact .cons (f _ _ Æ r) (ih λa b ha x=>f a b (Ã _ ha) x)
def TF{α β:Type}{F:α->β->Prop}{l₁:List α}{l₂:List β}(h:Paired F l₁ l₂):∀{a:α},a∈l₁->∃b,b∈l₂/\F a b:=by
 induction h with
 |nil=>intro a ha;cases ha
 |cons r t ih =>
  intro a ha
  rcases Ñ.mp ha with rfl|ha
  ·exact⟨_,Æ,r⟩
  ·obtain⟨b,hb,x⟩:=ih ha
   exact⟨b,Ã _ hb,x⟩
section
variable {prog:Program}{w:World}{A:Around}{E:Value->Shared->Prop}{s:Shared}
def Ba{M:Model}{us:List Value}{ts:List (List Int)}(hp:Paired (jk s.heap) us ts)(v:Value)(hv:v∈us):W.Looks M s.heap (typeOf v) (.type "list"):=by
 obtain⟨l,_,a,o,its,n,rfl,ho,hc,_⟩:=TF hp hv
 exact W.kitAt_ty M _ ⟨o,ho,hc⟩
def Ju{us:List Value}{ts:List (List Int)}(hp:Paired (jk s.heap) us ts){u:Value}(hv:u∈us):u≠.ref (s.heap.objs.size+1):=by
 obtain⟨l,_,a,o,its,n,rfl,ho,hc,_⟩:=TF hp hv
 intro z
 have z:a=s.heap.objs.size+1:=by injection z
 rw[z] at ho
 exact absurd (Ï ho) (Nat.not_lt.mpr (Ĺ _))
def Jt{x y:Value}{a b:List Int}{Q:Bool->Shared->Prop}(hu:A.units<cLine)(hx:jk s.heap x a)(hy:jk s.heap y b)(na:oK a)(nb:oK b)(h:Q (decide (bA 40 a<bA 40 b)) s):wpAny (model prog w) A (keyLt' oneType' x y) Q E s:=by
 obtain⟨p,⟨c1,d1,e1,f1⟩,its,n,rfl,ho,hc,hd,hi⟩:=hx
 obtain⟨p',⟨c2,d2,e2,f2⟩,its',n',rfl,ho',hc',hd',hi'⟩:=hy
 simp only at hc hd hc' hd'
 subst hc hd hc' hd'
 rw[←yR 40 a b na.1 nb.1 na.2 nb.2] at h
 rw[keyLt'_oneType,oneLt'_eq]
 simp only[if_true]
 refine Ä (wpAny_cRoomFor hu ?_)
 refine Ä (wpAny_callSpecialIfBound?_slot ⟨_,ho,rfl⟩ PySem.F.slot_list_lt (call_meets PySem.F.slot_list_lt ⟨_,ho,rfl⟩ PySem.F.entry_list_lt (PySem.F.args_list_lt_2 _ _) (Mv p p' its its' n n' d1 d2 f1 f2 a b hi hi') ⟨ho,ho',?_⟩))
 exact Ĩ h
def zU{a:Addr}{us:List Value}{ts:List (List Int)}{n:Nat}{P:PySem.Fin->Shared->Prop}(ho:s.heap.get? a=some (seqObj "list" us.toArray n))(hp:Paired (jk s.heap) us ts)(hna:∀u∈us,u≠.ref a)(hu:A.units<cLine)(hn:∀t∈ts,oK t)(h64:us.length<64)(h:∀p:List Nat,p.Perm (Þ us.length)->(∀i j,i<=j->j<us.length->bA 40 (ts.getD (p.getD i 0) [])<=bA 40 (ts.getD (p.getD j 0) [])) ->
   P (.done (.ret .none)) { s with heap:=sortedHeap s.heap a us (p.map λi=>us.getD i ė).toArray }) :
  wpAny (model prog w) A (Builtin.«list.sort» ⟨[.ref a],[]⟩) P E s:=by
 have hlen:=hp.length
 have h24:=ô
 rw[list_sort_plain]
 have ha:a<s.heap.objs.size:=Ï ho
 refine Ä (listItems_at ho rfl ?_)
 refine Ä (listUpdate_at ho rfl ?_ (by rw[Í,ô];omega) (ÿ _))
 obtain⟨e1,ho1⟩:∃e1,(s.heap.update a (Ý λ_=>(#[]:Array Value))).get? a=some (seqObj "list" #[] e1):=⟨_,get?_update_seq ho (λ_=>#[])⟩
 refine Ä (seqEpoch_at ho1 rfl ?_)
 refine Ä (wpAny_newTuple ?_ (by show us.length<=_;rw[ô];omega))
 refine Ä (wpAny_newList ?_ (ÿ _))
 refine Ė ?_
 have ho6:(((s.heap.update a (Ý λ_=>(#[]:Array Value))).push (seqObj "tuple" us.toArray 0)).push (seqObj "list" #[] 0)).get? a=some (seqObj "list" #[] e1):=by
  rw[ě _ _ _ (by rw[size_push',Ę];exact â (ċ ha)),ě _ _ _ (by rw[Ę];exact â ha)]
  exact ho1
 have kept:∀b o,s.heap.get? b=some o->b≠a->(((s.heap.update a (Ý λ_=>(#[]:Array Value))).push (seqObj "tuple" us.toArray 0)).push (seqObj "list" #[] 0)).get? b=some o:=λb o q hne=>by
  have hlt:b<s.heap.objs.size:=Ï q
  rw[ě _ _ _ (by rw[size_push',Ę];exact â (ċ hlt)),ě _ _ _ (by rw[Ę];exact â hlt),Heap.get?_update_ne _ _ _ _ hne]
  exact q
 show wpAny (model prog w) A _ P E { s with heap:=((s.heap.update a (Ý λ_=>(#[]:Array Value))).push (seqObj "tuple" us.toArray 0)).push (seqObj "list" #[] 0) }
 dsimp only
 have hsz:us.toArray.size=us.length:=by simp
 have hp6:Paired (jk (((s.heap.update a (Ý λ_=>(#[]:Array Value))).push (seqObj "tuple" us.toArray 0)).push (seqObj "list" #[] 0))) us ts:=TJ hp λu t hm x=>x.keep λb o ub q=>kept b o q λz=>hna u hm (by rw[ub,z])
 by_cases h2:us.toArray.size<2
 ·rw[if_pos h2,if_pos h2]
  refine Ä (Ø ?_)
  rw[StateT.run_pure]
  refine Ä (Ø ?_)
  dsimp only
  have eout:(arrOf (SortSt.mk' general' (us.toArray.zip us.toArray) #[] 7 none)).map (·.2)=((Þ us.length).map λi=>us.getD i ė).toArray:=by
   rw[dF]
   show(us.toArray.zip us.toArray).map (·.2)=us.toArray
   apply Array.toList_inj.mp
   simp
   exact Qc us
  rw[eout]
  refine Ä (seqEpoch_at ho6 rfl ?_)
  refine Ä (listUpdate_at ho6 rfl ?_ (ÿ _) (by rw[Í,Á,ō,ô];omega))
  simp only[bne_self_eq_false,Ĭ,if_false]
  refine Ø (h _ (List.Perm.refl _) λi j hij hj=>?_)
  have:i=j:=by omega
  subst this
  exact ā _
 ·rw[if_neg h2,if_neg h2]
  have h2':2<=us.length:=by omega
  refine Ä (W.kas_kind (T:=.type "list") h2' (λv hv=>Ba (s:={ s with heap:=((s.heap.update a (Ý λ_=>(#[]:Array Value))).push (seqObj "tuple" us.toArray 0)).push (seqObj "list" #[] 0) }) hp6 v hv) rfl rfl ?_)
  have hcmp:∀i j C,i<us.length->j<us.length->C (decide (bA 40 (ts.getD i [])<bA 40 (ts.getD j []))) { s with heap:=((s.heap.update a (Ý λ_=>(#[]:Array Value))).push (seqObj "tuple" us.toArray 0)).push (seqObj "list" #[] 0) } ->
    W.kas_cmp prog w A (oneType') (us.toArray.zip us.toArray) i j C { s with heap:=((s.heap.update a (Ý λ_=>(#[]:Array Value))).push (seqObj "tuple" us.toArray 0)).push (seqObj "list" #[] 0) }:=λi j C hi hj hC=>by
   unfold W.kas_cmp
   rw[W.kat_item rfl,W.kat_item rfl]
   have key:∀k,k<us.length->jk (((s.heap.update a (Ý λ_=>(#[]:Array Value))).push (seqObj "tuple" us.toArray 0)).push (seqObj "list" #[] 0)) (us.getD k ė) (ts.getD k [])/\oK (ts.getD k []):=λk hk=>by
    have hk':k<ts.length:=by omega
    have ek:ts.getD k []=ts[k]:=by simp[hk']
    obtain⟨u,eu,pu⟩:=Qk hp6 (i:=k) (b:=ts[k]) (by simp[hk'])
    have eu':us.getD k ė=u:=by rw[Ð,eu];rfl
    rw[ek,eu']
    exact⟨pu,hn _ (ģ hk')⟩
   exact Jt hu (key i hi).1 (key j hj).1 (key i hi).2 (key j hj).2 hC
  have G:=W.kas_runs (prog:=prog) (w:=w) (A:=A) (E:=E) (κ:=oneType') (it:=us.toArray.zip us.toArray) (n:=us.length) (s:={ s with heap:=((s.heap.update a (Ý λ_=>(#[]:Array Value))).push (seqObj "tuple" us.toArray 0)).push (seqObj "list" #[] 0) })
   (Q:=λ_ st' s'=>∃p:Array Nat,s'={ s with heap:=((s.heap.update a (Ý λ_=>(#[]:Array Value))).push (seqObj "tuple" us.toArray 0)).push (seqObj "list" #[] 0) }/\arrOf st'=p.map (W.kas_item (us.toArray.zip us.toArray))/\failedOf st'=none/\NfSort.Pm us.length p/\NfSort.Up (λi=>bA 40 (ts.getD i [])) p us.length)
   (G:=λp s'=>s'={ s with heap:=((s.heap.update a (Ý λ_=>(#[]:Array Value))).push (seqObj "tuple" us.toArray 0)).push (seqObj "list" #[] 0) }/\NfSort.Pm us.length p/\NfSort.Up (λi=>bA 40 (ts.getD i [])) p us.length) h2' h64 (λp' st' s' a1 a2 a3 a4=>⟨p',a4.1,a2,a3,a4.2⟩)
   (NfSort.qz hcmp (NfSort.bF (λp hp=>⟨rfl,hp⟩) (NfSort.Cp (by omega))))
  have est:SortSt.mk' (oneType') (us.toArray.zip us.toArray) #[] 7 none=W.kas_st (oneType') (us.toArray.zip us.toArray) (ņ (Þ us.length)):=by
   have e:=W.kas_range (us.toArray.zip us.toArray)
   rw[show(us.toArray.zip us.toArray).size=us.length by simp] at e
   show SortSt.mk' (oneType') (us.toArray.zip us.toArray) #[] 7 none=SortSt.mk' (oneType') ((ņ (Þ us.length)).map (W.kas_item (us.toArray.zip us.toArray))) #[] 7 none
   rw[e]
  rw[est]
  refine Ä (ň G ?_ λ_ _ e=>e)
  rintro⟨⟨⟩,st'⟩ s' ⟨p,rfl,har,hf,hpm,hup⟩
  dsimp only
  have hout:=W.kat_snds (ks:=us) (vs:=us) rfl har
  rw[hout]
  have hsz2:p.size=us.length:=hpm.size
  refine Ä (seqEpoch_at ho6 rfl ?_)
  refine Ä (listUpdate_at ho6 rfl ?_ (ÿ _) (by rw[Í,Á,ľ,hsz2,ô];omega))
  rw[hf]
  simp only[bne_self_eq_false,Ĭ,if_false]
  refine Ø (h p.toList ?_ λi j hij hj=>?_)
  ·have:=Array.perm_iff_toList_perm.mp hpm
   simpa using this
  ·have q:=hup i j hij hj
   unfold NfSort.kk at q
   have eg:∀k,p.toList.getD k 0=p.getD k 0:=λk=>by
    rw[NfSort.getD_eq,Ð]
    simp
   rw[eg,eg]
   exact q
def vC{l:Addr}{us:List Value}{ts:List (List Int)}{Q:Value->Shared->Prop}(hl:s.heap.IsList l us.toArray\/IsTup s.heap l us.toArray)(hu:A.units+8<cLine)(hp:Paired (jk s.heap) us ts)(hn:∀t∈ts,oK t)(h64:us.length<64)(h:∀p:List Nat,p.Perm (Þ us.length)->(∀i j,i<=j->j<us.length->bA 40 (ts.getD (p.getD i 0) [])<=bA 40 (ts.getD (p.getD j 0) [])) ->
   Q (.ref (s.heap.objs.size+1)) { s with heap:=sortedAll s.heap us (p.map λi=>us.getD i ė).toArray }) :
  wpAny (model prog w) A (call (.builtin "sorted") [.ref l]) Q E s:=by
 have h24:=ô
 refine Calls.call_function_entry kind_sorted plain_sorted entry_sorted (args_sorted1 _) ?_
 unfold Builtin.«sorted»
 refine Ä (m:=checkCount "sorted" 1 1 _) (Ø ?_)
 have hsz:((s.heap.push (seqObj "list" #[] 0)).update s.heap.objs.size (Ý (·++us.toArray))).objs.size=s.heap.objs.size+1:=by
  rw[Ę,size_push']
 have hoL:(((s.heap.push (seqObj "list" #[] 0)).update s.heap.objs.size (Ý (·++us.toArray))).push (seqObj "list" us.toArray 0)).get? (s.heap.objs.size+1)=some (seqObj "list" us.toArray 0):=by
  rw[←hsz];exact ä _ rfl
 have keep:∀b o,s.heap.get? b=some o->(((s.heap.push (seqObj "list" #[] 0)).update s.heap.objs.size (Ý (·++us.toArray))).push (seqObj "list" us.toArray 0)).get? b=some o:=λb o q=>by
  have hlt:b<s.heap.objs.size:=Ï q
  rw[ě _ _ _ (by rw[hsz];exact â (ċ hlt)),Heap.get?_update_ne _ _ _ _ (â hlt),ě _ _ _ (â hlt)]
  exact q
 have go:∀{Q':List Value->Shared->Prop},Q' us { s with heap:=(s.heap.push (seqObj "list" #[] 0)).update s.heap.objs.size (Ý (·++us.toArray)) }->wpAny (model prog w) A.in1 (collect (.ref l)) Q' (λe s'=>E e s') s:=λ{Q'} hq=>by
  rcases hl with hl|hl
  ·exact collect_list hl hq (by omega)
  ·exact jT hl hq (by omega)
 refine Ä (go ?_)
 refine Ä (wpAny_newList ?_ (by omega))
 show wpAny _ _ _ _ _ { s with heap:=((s.heap.push (seqObj "list" #[] 0)).update s.heap.objs.size (Ý (·++us.toArray))).push (seqObj "list" us.toArray 0) }
 rw[hsz]
 refine Ä (Ė (wpAny_call_entry slot_list_sort ⟨_,hoL,rfl⟩ entry_list_sort (zU hoL (Paired.Fp hp λu t x=>x.keep λa o _ e=>keep a o e) (λu hm=>Ju hp hm) (by simp only[Around.in1_units];omega) hn h64 λp a1 a2=>⟨_,rfl,?_⟩) (args_list_sort _)))
 exact Ø ⟨_,rfl,h p a1 a2⟩
end
section
variable {X:Cx}
def vA{ts:List (List Int)}{p:List Nat}(hp:p.Perm (Þ ts.length))(h:∀i j,i<=j->j<ts.length->bA 40 (ts.getD (p.getD i 0) [])<=bA 40 (ts.getD (p.getD j 0) [])) :
  (p.map λi=>ts.getD i []).Perm ts/\(p.map λi=>ts.getD i []).Pairwise (λa b=>bA 40 a<=bA 40 b):=by
 refine⟨?_,?_⟩
 ·have q:=hp.map λi=>ts.getD i []
  rw[dF] at q
  exact q
 ·have hl:p.length=ts.length:=by simpa using hp.length_eq
  rw[Ŕ]
  intro i j hi hj hij
  rw[Á] at hi hj
  have q:=h i j (by omega) (by omega)
  have ei:p.getD i 0=p[i]:=by simp[hi]
  have ej:p.getD j 0=p[j]:=by simp[hj]
  rw[ei,ej] at q
  simpa using q
def xH(hu:X.A.units+64<cLine):bI X (.builtin "sorted") (λxs H Q=>∃(p:Addr) (vs:List V) (ts:List (List Int)) (F:V->List Int->Prop),xs=[.ref p]/\SqL X.K H p vs/\Paired F vs ts/\(∀v l,F v l->∃a,v=.ref a/\H a=some (.lst (l.map V.int)))/\(∀t∈ts,oK t)/\ts.length<64 /\
  ∀l ws us,H l=none->Paired F ws us->us.Perm ts->us.Pairwise (λa b=>bA 40 a<=bA 40 b)->Q (.ref l) (upd H l (.lst ws))):=by
 intro pins s σ H xs us Q I r h
 obtain⟨p,vs,ts,F,rfl,hp,hpr,hF,hn,h64,q⟩:=h
 obtain⟨u,rfl,rx⟩:=vals1 r
 cases rx
 have h24:=ô
 have lists:∀{vs:List V}{ts:List (List Int)}{us:List Value},Paired F vs ts->Vals vs us->Paired (jk s.heap) us ts:=by
  intro vs ts us h
  induction h generalizing us with
  |nil=>intro r;cases r;exact .nil
  |cons x t ih =>
   intro r
   cases r with
   |cons r1 r2 =>
    refine .cons ?_ (ih r2)
    obtain⟨a,rfl,ha⟩:=hF _ _ x
    cases r1
    obtain⟨its,rv,pl,hz⟩:=I.list (SqL.of ha)
    obtain⟨o,ho,hc,n,hd⟩:=pl.isList
    exact⟨a,o,its.toArray,n,rfl,ho,hc,hd,intsAre_of rv⟩
 obtain⟨its,rv,pl,hz⟩:=I.list hp
 have hpv:=lists hpr rv
 have hlen:=hpr.length
 have hlen2:=rv.length
 refine vC (.inl pl.isList) (by omega) hpv hn (by omega) λpp hpp hord=>?_
 have eits:its.length=ts.length:=by omega
 rw[eits] at hpp hord
 obtain⟨hperm,hpw⟩:=vA hpp hord
 have hlt:∀i∈pp,i<ts.length:=λi hi=>Ī.mp (hpp.mem_iff.mp hi)
 have hw:=yw hpr V.non [] pp hlt
 have hvv:Vals (pp.map λi=>vs.getD i V.non) (pp.map λi=>its.getD i ė):=yw rv V.non ė pp λi hi=>by have:=hlt i hi;omega
 obtain⟨e,he⟩:=sortedAll_at s.heap its (pp.map λi=>its.getD i ė).toArray
 refine⟨.ref (s.heap.objs.size+1),upd H (s.heap.objs.size+1) (.lst (pp.map λi=>vs.getD i V.non)),I.laid (t':=s.toks) (λb o eb=>sortedAll_old eb) (Ĺ _) ?_,rfl,q _ _ _ (I.hok.fresh (Ĺ _)) hw hperm hpw⟩
 refine⟨?_,_,e,hvv,he⟩
 have hl3:pp.length=ts.length:=by simpa using hpp.length_eq
 rw[Á]
 omega
end
end L2
namespace Dl
open PySem L2 PyProof.Rows
section
variable {X:Cx}{pos:Pos}{a:Expr}{t:DA} [Gr]
def wV:GC:=λks P=>match ks with
 |[(k,.list ds)]=>∃ls:List (List Int),ds=ls.map iD/\ls.length<64/\(∀l∈ls,oK l)/\∀out:List (List Int),out.Perm ls->out.Pairwise (λa b=>bA 40 a<=bA 40 b)->P (k.join .new) (.list (out.map iD))
 |_=>False
def yp{ok:Addr->Prop}{H:Hp}:∀{vs:List V}{ls:List (List Int)},Rps ok H vs (ls.map iD)->Paired (λv l=>Rp ok H v (iD l)) vs ls
 |[],[],_=>.nil
 |_,l::ls,.cons h r=>.cons h (yp r)
def yE{ok:Addr->Prop}{H:Hp}:∀{vs:List V}{ls:List (List Int)},Paired (λv l=>Rp ok H v (iD l)) vs ls->Rps ok H vs (ls.map iD)
 |_,_,.nil=>.nil
 |_,_,.cons h r=>.cons h (yE r)
def q9{ps:Pos}(hu:X.A.units+64<cLine)(hm:X.mg "sorted"=none)(ha:PDA X [a] t)(hg:Gl X "sorted":=by rfl)(he:zS X a []:=by rfl)(hpl:zP X pos []:=by rfl):PD X (.Call (.Name "sorted" ps) [a] [] pos) (tCl wV t) :=
 cN (xH hu) (by
  intro p H0 own Hb H vs ks P Q A r t q
  unfold wV at t
  split at t
  ·rename_i k ds
   obtain⟨ls,rfl,hl,hn,t⟩:=t
   obtain⟨v,rfl,r'⟩:=fY r
   obtain⟨x,xs,e1,o1,h1,rs1⟩:=Rp.bR r'
   subst e1
   refine⟨x,xs,ls,λv l=>Rp (okK p H0 own Hb k) H v (iD l),rfl,SqL.of h1,yp rs1,λv l h=>?_,hn,hl,λl ws us hl' hw hp hs=>?_⟩
   ·obtain⟨b,zs,rfl,_,hb,rz⟩:=Rp.bR h
    have e:=Rps.ints rz
    subst e
    exact⟨b,rfl,hb⟩
   ·obtain⟨k2,i2,nw⟩:=A.new hl' (.lst ws)
    have j:=eZ k .new
    exact q _ _ _ _ (t us hp hs) k2 i2 (.lst (cj A j.2 nw) au ((bZ A k2 (yE hw)).mono (λa o=>cj A j.1 o) (λ_ _ _ e=>e) λ_ _ e=>e))
  ·exact t.elim) hg hm boot_sorted ha (by decide) (by decide) he hpl
end
end Dl
namespace L2
open PySem PySem.Spec PyProof.Rows
section
variable {prog:Program}{w:World}{A:Around}{E:Value->Shared->Prop}{s:Shared}
end
section
variable {X:Cx}
end
end L2
namespace Dl
open PySem L2 PyProof.Rows
section
variable {X:Cx}{pos:Pos}{a e:Expr}{t:DA} [Gr]
end
end Dl
namespace L2
open PySem PySem.Spec PyProof.Rows
open AutoSeq1 in
section
variable {X:Cx}
end
end L2
namespace Dl
open PySem L2 PyProof.Rows
variable [Gr]
section
variable {X:Cx}{st:Stmt}{te:DE}{pos:Pos}{ta:DA}
end
end Dl
namespace Wr
open PySem L2 PyProof.Rows Dl
section
variable [Gr] {X:Cx}{pos:Pos}{a:Expr}{ta t:DA}{te:DE}
def q9{ps:Pos}(hu:X.A.units+64<cLine)(hm:X.mg "sorted"=none)(ha:WDA X [a] t)(hg:Gl X "sorted":=by rfl)(he:zS X a []:=by rfl)(hpl:zP X pos []:=by rfl):WD X (.Call (.Name "sorted" ps) [a] [] pos) (tCl wV t):=⟨Dl.q9 hu hm ha.h hg he hpl⟩
end
end Wr
namespace Dl
open PySem L2 PyProof.Rows
variable [Gr]
section
variable {X:Cx}{st st2:Stmt}{rest:List Stmt}{tj te1 te2:DE}{tt:DT}{t:DS}{K:Ú}
end
end Dl
namespace Wr
open PySem L2 PyProof.Rows Dl
section
variable [Gr] {X:Cx}{tj te1 te2:DE}
end
end Wr
namespace L2
open PySem PySem.Spec PyProof.Rows
structure LamScope(ps ys:List Str)(sc:Scope)(cl:List (Str×Addr)):Prop where
 kind:sc.kind=.function
 co:sc.isCoroutine=false
 gen:sc.isGenerator=false
 nd:(ps++ys).Nodup
 par:∀x∈ps,sc.names.lookup x=some .local
 fre:∀y∈ys,sc.names.lookup y=some .free
 nocell:∀x∈sc.names,x.2≠.cell
 all:∀x,sc.names.lookup x=some .free->∃c,cl.lookup x=some c
 inj:∀x y c,cl.lookup x=some c->cl.lookup y=some c->x=y
def cxL(CX:CXT)(P:Program)(w:World)(K:Ú)(mg:Str->Option Value)(base:Heap)(N:List Str)(qual:Str)(scope:Scope)(f:Addr)(cd:Value)(cl:List (Str×Addr))(A:Around)(outer:List Env)(s:Shared)(H:Hp)(E:XK):Cx where
 prog:=P
 w:=w
 K:=K
 mg:=mg
 base:=base
 A:=A.deeper (W.envX qual scope s.heap.objs.size f cd cl)
 N:=N
 s₀:=s
 H₀:=H
 env:=W.envX qual scope s.heap.objs.size f cd cl
 outer:=outer
 stack:=W.envX qual scope s.heap.objs.size f cd cl::outer
 ex:=[]
 calm:=true
 fn:=λ_=>false
 pn:=[]
 xe:=λe s'=>wpAny (model P w) (A.deeper (W.envX qual scope s.heap.objs.size f cd cl)) (leaving (W.envX qual scope s.heap.objs.size f cd cl) e) (λ_ s''=>CX outer H s E e s'') (λe' s''=>CX outer H s E e' s'') s'
structure Caps(base:Heap)(cl:List (Str×Addr))(ys:List Str)(cvs:List V):Prop where
 len:cvs.length=ys.length
 cells:∀x c,cl.lookup x=some c->∃v,base.IsCell c v
 val:∀(j:Nat) (y:Str) (v:V),ys[j]?=some y->cvs[j]?=some v->∃c u,cl.lookup y=some c/\base.IsCell c (some u)/\RelV v u
def Bg{CX:CXT}{P:Program}{w:World}{K:Ú}{mg:Str->Option Value}{base:Heap}{ps ys:List Str}{qual:Str}{scope:Scope}{f:Addr}{cd:Value}{cl:List (Str×Addr)}{A:Around}{outer:List Env}{s:Shared}{h1:Heap}{tk:Nat}{H:Hp}{E:XK}{us:List Value}{vs cvs:List V}(S:LamScope ps ys scope cl)(hd:A.handled=none)(e0:Env0 P w K mg base A outer s H)(hl:vs.length=ps.length)(r:Vals vs us)(C:Caps base cl ys cvs)(hn:h1.Ns s.heap.objs.size (λx=>(ps.zip us).reverse.lookup x))(hk:∀b o,s.heap.get? b=some o->h1.get? b=some o) :
  Inv (cxL CX P w K mg base (ps++ys) qual scope f cd cl A outer s H E) [] (start (ps++ys) (vs++cvs)) H { s with heap:=h1,toks:=tk }:=by
 have noA:∀b:Addr,b∉(cxL CX P w K mg base (ps++ys) qual scope f cd cl A outer s H E).ex:=λb z=>absurd (show b∈([]:List Addr) from z) (by simp)
 have bk:∀b o,base.get? b=some o->h1.get? b=some o:=λb o e=>hk b o (e0.bs b o e).1
 have cne:∀x c,cl.lookup x=some c->H c=none:=λx c e=>by
  obtain⟨v,o,ho,_⟩:=C.cells x c e
  exact(e0.bs c o ho).2
 refine⟨⟨e0.mod,S.kind,rfl,rfl,Ì _,S.inj,λy hy=>?_,(λy c z _=>(nomatch z)),λ_=>hd,Around.frames_deeper e0.frames,.inr ⟨rfl,rfl⟩,λb z=>absurd z (noA b),e0.bs,e0.bsz,λb _ _=>noA b,λb z=>absurd z (noA b),e0.kZ,e0.frf,λq z=>nomatch (show q∈([]:List (Addr×Obj×HO)) from z)⟩,
  rfl,e0.bare,Un.kept hk,⟨_,hn,λi y v h1 h2 h3=>?_⟩,λy c h=>?_,e0.hok.fresh (Ì _),λy c h=>cne y c h,λp hp=>absurd (show p∈([]:List (Addr×Obj)) from hp) (by simp),e0.hok.kept hk,?_⟩
 ·have hy:scope.names.lookup y=some .cell\/scope.names.lookup y=some .free:=hy
  rcases hy with hy|hy
  ·exact absurd rfl (S.nocell _ (ă hy))
  ·exact S.all y hy
 ·have ha:(vs++cvs)[i]?=some v:=by
   unfold start at h2
   by_cases hi:i<(vs++cvs).length
   ·rw[ú (by simpa using hi),ß] at h2
    cases e:(vs++cvs)[i]? with
    |none=>rw[e] at h2;cases h2
    |some a=>rw[e] at h2;cases h2;rfl
   ·rw[é (by simpa using hi)] at h2
    rw[Ŏ] at h2
    split at h2 <;> cases h2
  have h1:(ps++ys)[i]?=some y:=h1
  by_cases hi:i<ps.length
  ·rw[ú (by omega)] at h1 ha
   obtain⟨u,hu,rv⟩:=r.get ha
   have ndP:ps.Nodup:=(ŷ.mp S.nd).1
   refine⟨u,rv,.inl ⟨S.par y (Î h1),?_⟩⟩
   have rl:∀(l:List (Str×Value)) (x:Str) (u:Value),(l.map (·.1)).Nodup->(x,u)∈l->l.lookup x=some u:=λl x u=>by
    induction l with
    |nil=>intro _ z;cases z
    |cons p l ih =>
     intro nd z
     obtain⟨a,b⟩:=p
     rw[à,ś] at nd
     rcases Ñ.mp z with z|z
     ·cases z;rw[Ċ];simp
     ·have:x≠a:=λe=>nd.1 (by rw[←e];exact ê.mpr ⟨(x,u),z,rfl⟩)
      rw[Ċ,show(x == a)=false by simpa using this]
      exact ih nd.2 z
   refine rl _ _ _ ?_ (List.mem_reverse.mpr ?_)
   ·rw[List.map_reverse,List.map_fst_zip (by rw[←r.length,hl];exact Ì _)]
    exact List.pairwise_reverse.mpr (ndP.imp λh e=>h e.symm)
   ·exact Î (i:=i) (by rw[List.getElem?_zip_eq_some];exact⟨h1,hu⟩)
  ·rw[é (by omega)] at h1 ha
   rw[hl] at ha
   obtain⟨c,u,e,hc,rv⟩:=C.val _ _ _ h1 ha
   exact⟨u,rv,.inr ⟨.inr (S.fre y (Î h1)),c,e,hc.keeps bk⟩⟩
 ·obtain⟨v,hc⟩:=C.cells y c h
  exact⟨v,hc.keeps bk⟩
 ·unfold start
  show _=(ps++ys).length
  rw[È,Á,ĥ,È,È,C.len,hl]
  omega
def Ve(x:Obj)(qual:Str):Prop:=∃vs t,x.data=.fields vs/\vs[1]?=some (.str qual t)
def qp(H:Hp)(c':Addr)(qual:Str):Prop:=∃x φ,H c'=some (.frz x (.ext φ))/\Ve x qual
def JV{CX:CXT}{P:Program}{w:World}{K:Ú}{mg:Str->Option Value}{base:Heap}{k:Nat}{f c':Addr}{name qual:Str}{params:Arguments}{body:Expr}{scope:Scope}{pm ctv:Value}{cl:List (Str×Addr)}{ps ys:List Str}{cvs:List V}{sp:Sp}(lk:base.get? f=some (ź name qual params body scope cl pm c' ctv))(hcd:∀vs H Q E,sp vs H Q E->qp H c' qual)(S:LamScope ps ys scope cl)(C:Caps base cl ys cvs)(len:∀vs H Q E,sp vs H Q E->vs.length=ps.length)(hbody:∀(A:Around) (outer:List Env) (s:Shared) (H:Hp) (vs:List V) (Q:VK) (E:XK),Room k (A.deeper (W.envX qual scope s.heap.objs.size f (.ref c') cl))->sp vs H Q E ->
   ∃t,PE (cxL CX P w K mg base (ps++ys) qual scope f (.ref c') cl A outer s H E) body t/\t (start (ps++ys) (vs++cvs)) H Q) :
  FnOk P w K mg base CX (k+1) f (W.kla_fn name qual params body scope cl pm (.ref c') ctv) ps sp:=by
 refine⟨len,λA outer s H args us vs Q E hr e0 hb r hsp=>?_⟩
 have hl:=len _ _ _ _ hsp
 have bk:∀b o,base.get? b=some o->s.heap.get? b=some o:=λb o e=>(e0.bs b o e).1
 have lim:s.heap.NoLimit:=e0.mod.nolimit.keeps bk
 have hcd':s.heap.CodeRec (.ref c') qual:=by
  obtain⟨x,φ,e,vs,t,h1,h2⟩:=hcd _ _ _ _ hsp
  exact⟨c',x,vs,t,rfl,(e0.hok _ _ e).1,h1,h2⟩
 refine W.kla_callFunE hr.depth (bk _ _ lk) rfl S.co S.gen rfl hcd' (hb _ _ _ _ ?_)
 have hloc:∀y∈ps.zip us,scope.names.lookup y.1=some .local:=λ⟨n,v⟩ hy=>S.par n (List.of_mem_zip hy).1
 refine wpAny_newFunctionEnv S.nocell hloc (λh₁ hns hsb=>?_) S.kind
 have hk₁:∀b o,s.heap.get? b=some o->h₁.get? b=some o:=λb o e=>hsb.extBut b o (â (Ï e)) (Ó _ e)
 refine⟨lim.keeps hk₁,?_⟩
 show codeAny _ _ (.expr body (W.envX qual scope s.heap.objs.size f (.ref c') cl)) _ _
 obtain⟨t,ht,hq⟩:=hbody A outer s H vs Q E (hr.deeper _) hsp
 have I:Inv (cxL CX P w K mg base (ps++ys) qual scope f (.ref c') cl A outer s H E) [] (start (ps++ys) (vs++cvs)) H { s with heap:=h₁,toks:=s.toks+(ps.zip us).length }:=Bg S hr.hd e0 hl r C hns hk₁
 refine W.kla_codeExpr (ň (ht [] _ _ H _ I hq) (λu s' hs=>?_) λe s' hs=>hs)
 obtain⟨v,H',J,rv,q⟩:=hs
 exact⟨v,H',J.os,J.bare,J.base,J.hok,rv,q⟩
def reb(base h:Heap)(L:List Addr):Heap:=W.hideAll h ((Þ h.objs.size).filter λb=>(base.get? b).isNone&&!decide (b∈L))
def vJ{base h:Heap}{L:List Addr}{b:Addr}:b∉((Þ h.objs.size).filter λb=>(base.get? b).isNone&&!decide (b∈L))↔(h.objs.size<=b\/(∃o,base.get? b=some o)\/b∈L):=by
 rw[ą,Ī,Û,Option.isNone_iff_eq_none,Bool.not_eq_true',decide_eq_false_iff_not]
 constructor
 ·intro z
  by_cases h1:b<h.objs.size
  ·cases e:base.get? b with
   |some o=>exact .inr (.inl ⟨o,rfl⟩)
   |none =>
    by_cases h2:b∈L
    ·exact .inr (.inr h2)
    ·exact absurd ⟨h1,e,h2⟩ z
  ·exact .inl (Nat.le_of_not_lt h1)
 ·rintro(z|⟨o,z⟩|z) ⟨a,b,c⟩
  ·exact absurd a (Nat.not_lt.mpr z)
  ·rw[z] at b;cases b
  ·exact c z
def vK{base h:Heap}{L:List Addr}{b:Addr}{o:Obj}(e:h.get? b=some o)(m:b∈L):(reb base h L).get? b=some o:=W.hideAll_get _ e (vJ.mpr (.inr (.inr m)))
def Hl{base h:Heap}{L:List Addr}(bk:∀b o,base.get? b=some o->h.get? b=some o):∀b o,base.get? b=some o->(reb base h L).get? b=some o:=λb o e=>W.hideAll_get _ (bk b o e) (vJ.mpr (.inr (.inl ⟨o,e⟩)))
def Jh{base h:Heap}{L:List Addr}{b:Addr}{o:Obj}(e:(reb base h L).get? b=some o):h.get? b=some o/\((∃o,base.get? b=some o)\/b∈L):=by
 have e1:=W.of_hideAll _ e
 refine⟨e1,?_⟩
 have n:b∉((Þ h.objs.size).filter λb=>(base.get? b).isNone&&!decide (b∈L)):=λz=>by
  have:=W.hideAll_none (h:=h) _ z
  rw[show(W.hideAll h ((Þ h.objs.size).filter λb=>(base.get? b).isNone&&!decide (b∈L))).get? b=some o from e] at this
  cases this
 exact(vJ.mp n).resolve_left (λz=>absurd (Ï e1) (Nat.not_lt.mpr z))
def Mod.reb{K:Ú}{mg:Str->Option Value}{base h:Heap}{L:List Addr}(m:Mod K mg base)(bk:∀b o,base.get? b=some o->h.get? b=some o):Mod K mg (reb base h L):=by
 have k:=Hl (L:=L) bk
 obtain⟨mb,hb,hx⟩:=m.blt
 exact⟨m.kin.keeps k,m.glob.keeps k,⟨mb,hb.keeps k,hx⟩,m.nolimit.keeps k⟩
def Env0.reb{P:Program}{w:World}{K:Ú}{mg:Str->Option Value}{base:Heap}{A:Around}{outer:List Env}{s:Shared}{H:Hp}{L:List Addr}(e:Env0 P w K mg base A outer s H)(hL:∀b∈L,H b=none)(hf:∀b∈L,b∉frs outer):Env0 P w K mg (reb base s.heap L) A outer s H:=by
 have bk:∀b o,base.get? b=some o->s.heap.get? b=some o:=λb o z=>(e.bs b o z).1
 refine⟨e.frames,e.mod.reb bk,λb o z=>?_,?_,?_,e.frf,e.hok,e.bare⟩
 ·obtain⟨h1,h2⟩:=Jh z
  refine⟨h1,?_⟩
  rcases h2 with ⟨o',h2⟩|h2
  ·exact(e.bs b o' h2).2
  ·exact hL b h2
 ·unfold L2.reb
  rw[W.hideAll_size]
  exact Ì _
 ·have all:∀l:List Env,(∀b∈L,b∉frs l)->s.heap.FunFrames base l->s.heap.FunFrames (L2.reb base s.heap L) l:=by
   intro l
   induction l with
   |nil=>intro _ _;trivial
   |cons env r ih =>
    intro hs hl
    obtain⟨hk,⟨F,o,hf,hn,ho,hd⟩,hr⟩:=hl
    refine⟨hk,⟨F,o,hf,?_,ho,hd⟩,ih (λb hb z=>hs b hb ?_) hr⟩
    ·cases q:(L2.reb base s.heap L).get? F with
     |none=>rfl
     |some u =>
      obtain⟨_,h2⟩:=Jh q
      rcases h2 with ⟨o',h2⟩|h2
      ·rw[hn] at h2;cases h2
      ·exact absurd (by unfold frs;rw[List.filterMap_cons,hf];exact Æ) (hs F h2)
    ·unfold frs at z ⊢
     rw[List.filterMap_cons,hf]
     exact Ã _ z
  exact all outer hf e.kZ
def GZ(i:Nat)(f:Addr)(sp:Sp)(E:XK)(t:TA):TE:=λσ H Q=>σ[i]?=some (some (.ref f))/\t σ H λvs H1=>sp vs H1 Q E
section
variable {X:Cx}{CX:CXT}{k i:Nat}{f:Addr}{fd:FuncData}{ps:List Str}{sp:Sp}{E:XK}{x:Str}{p pos:Pos}{e:Expr}{es:List Expr}{t:TA}
def HW(F:FnOk X.prog X.w X.K X.mg X.base CX k f fd ps sp)(hf:W.FnAt f X.base)(hr:Room k X.A)(hb:Binds X.K fd ps [])(hx:Passes CX X E)(hv:PE X (.Name x p) (iH i))(ha:PA X (e::es) t)(he:zS X e es:=by rfl)(hpl:zP X pos es:=by rfl) :
  PE X (.Call (.Name x p) (e::es) [] pos) (GZ i f sp E t):=by
 intro pins s σ H Q I ⟨hi,h⟩
 have fk:∀{σ':St}{H':Hp}{s':Shared},Inv X pins σ' H' s'->W.FnAt f s'.heap:=λ{σ' H' s'} I'=>by
  obtain⟨oc,od,fd,sl,e⟩:=hf
  exact⟨oc,od,fd,sl,I'.bk _ _ e⟩
 refine Ŋ (thn (hv pins s σ H (λv H'=>v=.ref f/\H'=H) I ⟨_,hi,rfl,rfl⟩) λu s1 ⟨v,H1,I1,rv,ev,eH⟩=>?_)
 subst ev
 subst eH
 obtain rfl:u=ŋ f:=rv
 refine W.callWith_F (fk I1) (thn (ha pos pins s1 σ H1 _ I1 h) λus s2 ⟨vs,H2,I2,r,q⟩=>⟨fk I2,?_⟩) he hpl
 exact Hf (dvs:=[]) (ds:=[]) F hr hb .nil hx I2 r (by rw[ð];exact q)
end
def lN(P:Addr)(pos:Pos)(qual:Str)(H:Hp):Prop:=∃ps,H P=some (.tbl ps)/\(ps=#[]\/∃c',ps=#[rawInt pos.line,rawInt pos.col,.ref c']/\qp H c' qual)
def Vg{h h':Heap}{L:Addr}{m:Str->Option Value}(x:h.Ns L m)(k:∀o,h.get? L=some o->h'.get? L=some o):h'.Ns L m:=by
 obtain⟨o,es,ep,ho,r⟩:=x
 exact⟨o,es,ep,k o ho,r⟩
section
variable {X:Cx}{pins:List (Addr×Obj)}{σ:St}{H:Hp}{s:Shared}{c P:Addr}{pos:Pos}{qual:Str}{params:Arguments}{body:Expr}{scope:Scope}{cl:List (Str×Addr)}{Q:Value->Shared->Prop}{E:Value->Shared->Prop}
def uK(I:Inv X pins σ H s)(hq:X.env.qual++"<lambda>"=qual)(hdef:defaultsOf params X.env=([],[]))(hcl:closureFor scope X.env=pure cl)(hcode:X.env.code=.ref c)(hC:X.K.In X.base->W.CodeHd X.base c P)(hB:X.K.In X.base->X.base.BuiltinsAt X.mg P)(T:lN P pos qual H)(h:∀f c' ctv pm s' H',Inv X pins σ H' s'->lN P pos qual H'->qp H' c' qual->H' f=none->s'.heap.get? f=some (ź "<lambda>" qual params body scope cl pm c' ctv)->f∉frs X.stack->(∀b o,H b=some o->b≠P->H' b=some o) ->
   (∀b o,s.heap.get? b=some o->H b=none->s'.heap.get? b=some o/\H' b=none)->Q (.ref f) s') :
  wpAny (model X.prog X.w) X.A (eval (.Lambda params body scope pos) X.env) Q E s:=by
 have hC:=hC I.ok.mod.kin
 have hB:=hB I.ok.mod.kin
 obtain⟨ps,hP,hps⟩:=T
 have hPh:s.heap.get? P=some (W.tabObj ps):=I.hok P _ hP
 have neP:∀b,H b=none->b≠P:=λb e z=>by rw[z,hP] at e;cases e
 have hgs:s.heap.Ns mainGlobals X.mg:=I.mod.glob.keeps I.bk
 have hgP:mainGlobals≠P:=by
  obtain⟨o,_,_,ho,_⟩:=I.mod.glob
  exact neP _ (I.bs _ _ ho).2
 have hB':s.heap.BuiltinsAt X.mg P:=by
  obtain⟨bm,o,h1,h2,h3,h4,h5,r⟩:=hB
  exact⟨bm,o,h1,h2,h3,h4,I.bk _ _ h5,r⟩
 have fsz:∀b,s.heap.objs.size<=b->b∉frs X.stack:=λb hb z=>by
  obtain⟨_,o,ho,_⟩:=I.stack.mem z
  exact absurd (Ï ho) (Nat.not_lt.mpr hb)
 refine W.kla_eval hdef ?_
 rw[hq]
 rcases hps with rfl|⟨c',rfl,kn⟩
 ·refine W.kla_makeFunction (mg:=X.mg) hcl I.ok.glob hgs hcode (hC.keeps I.bk) hPh (by trivial) (by rfl) hgP hB' λc' ctv h' tk hx hge hlt hrec htb=>?_
  obtain⟨c₂,oc,vs,t,e2,hoc,hd,hv⟩:=hrec
  cases e2
  have keep:∀b o,b≠P->s.heap.get? b=some o->(h'.push (ź "<lambda>" qual params body scope cl ((X.mg "__name__").getD .none) c' ctv)).get? b=some o:=λb o n e=>Ó _ (hx b o n e)
  have hc0:H c'=none:=I.hok.fresh hge
  have cP:c'≠P:=neP c' hc0
  have cS:∀b o,s.heap.get? b=some o->b≠c':=λb o e z=>by subst z;exact absurd (Ï e) (Nat.not_lt.mpr hge)
  have htb':(h'.push (ź "<lambda>" qual params body scope cl ((X.mg "__name__").getD .none) c' ctv)).get? P=some (W.tabObj (#[]++#[rawInt pos.line,rawInt pos.col,.ref c'])):=Ó _ htb
  have hoc':=Ó (ź "<lambda>" qual params body scope cl ((X.mg "__name__").getD .none) c' ctv) hoc
  let H':Hp:=upd (upd H P (.tbl #[rawInt pos.line,rawInt pos.col,.ref c'])) c' (.frz oc (.ext λ_=>True))
  have u0:∀b,b≠P->b≠c'->H' b=H b:=λb h1 h2=>by show upd _ _ _ b=_;rw[aq h2,aq h1]
  have uP:H' P=some (.tbl #[rawInt pos.line,rawInt pos.col,.ref c']):=by show upd _ _ _ P=_;rw[aq (Ĥ cP),au]
  have uc:H' c'=some (.frz oc (.ext λ_=>True)):=au
  have nc:∀b o,H b=some o->b≠c':=λb o e z=>by rw[z,hc0] at e;cases e
  have kn:qp H' c' qual:=⟨oc,_,uc,vs,t,hd,hv⟩
  have J:Inv X pins σ H' { s with heap:=h'.push (ź "<lambda>" qual params body scope cl ((X.mg "__name__").getD .none) c' ctv),toks:=tk }:=by
   refine I.step (g':=s.gens) (d':=s.drawn) (ch:=[]) (λ_ z=>nomatch z) (λb o _ _ _ e n=>keep b o (neP b n) e) (λb o _ _ _ e n=>⟨o.slots,keep b o (neP b n) e⟩) (λb o _ e n=>by rw[u0 b (neP b n) (cS b o e)];exact n) (λb o _ e=>?_) (λb xs e=>?_) (λb o u e=>?_) (λb ps e=>?_) (λm hm=>Vg hm λo e=>keep _ o (neP _ I.free) e) (λa o e=>?_) I.bare
   ·by_cases z:b=P
    ·subst z;exact⟨_,htb'⟩
    ·exact⟨o,keep b o z e⟩
   ·rw[u0 b (λz=>by rw[z,hP] at e;cases e) (nc b _ e)];exact e
   ·rw[u0 b (λz=>by rw[z,hP] at e;cases e) (nc b _ e)];exact e
   ·by_cases z:b=P
    ·subst z
     rw[hP] at e
     cases e
     exact⟨#[rawInt pos.line,rawInt pos.col,.ref c'],by rw[uP];simp⟩
    ·exact⟨#[],by rw[u0 b z (nc b _ e),e];simp⟩
   ·by_cases z:a=c'
    ·subst z
     rw[uc] at e
     cases e
     exact⟨hoc',trivial,⟨_,hoc'⟩,λ_ _ _ _=>trivial⟩
    ·by_cases z2:a=P
     ·subst z2
      rw[uP] at e
      cases e
      exact htb'
     ·rw[u0 a z2 z] at e
      have ow:∀b,H b=some (.own a)->b≠P:=λb q y=>by rw[y,hP] at q;cases q
      exact(I.hok a o e).stay (λb u hb q=>keep b u (hb.elim (λy=>y ▸ z2) (ow b)) q) (λb q=>by rw[u0 b (ow b q) (nc b _ q)];exact q) λb xs q=>by rw[u0 b (λy=>by rw[y,hP] at q;cases q) (nc b _ q)];exact q
  have hsz:s.heap.objs.size<=h'.objs.size:=Nat.le_of_lt (Nat.lt_of_le_of_lt hge hlt)
  have fP:h'.objs.size≠P:=λz=>absurd (Ï hPh) (Nat.not_lt.mpr (z ▸ hsz))
  refine h h'.objs.size c' ctv _ _ H' J ⟨_,uP,.inr ⟨c',rfl,kn⟩⟩ kn (by rw[u0 _ fP (Nat.ne_of_gt hlt)];exact I.hok.fresh hsz) (ä _ rfl) (fsz _ hsz) (λb o e n=>by rw[u0 b n (nc b _ e)];exact e) λb o e n=>⟨keep b o (neP b n) e,by rw[u0 b (neP b n) (cS b o e)];exact n⟩
 ·refine W.kla_makeFunctionHit (mg:=X.mg) (cv:=.ref c') hcl I.ok.glob hgs hcode (hC.keeps I.bk) hPh (by trivial) (codeAmong_snoc (pos:=pos) (c:=.ref c') [] trivial rfl) hB' λctv h' tk hk hsz=>?_
  have keep:∀b o,s.heap.get? b=some o->(h'.push { cls:=.type "function",data:=.func (W.kla_fn "<lambda>" qual params body scope cl ((X.mg "__name__").getD .none) (.ref c') ctv) }).get? b=some o:=λb o e=>Ó _ (hk b o e)
  exact h h'.objs.size c' ctv _ _ H (I.kept (t':=tk) keep) ⟨_,hP,.inr ⟨c',rfl,kn⟩⟩ kn (I.hok.fresh hsz) (ä _ rfl) (fsz _ hsz) (λb o e _=>e) λb o e n=>⟨keep b o e,n⟩
end
structure LamAt(base:Heap)(f c':Addr)(qual:Str)(params:Arguments)(body:Expr)(scope:Scope)(cl:List (Str×Addr))(ys:List Str)(cvs:List V)(H:Hp):Prop where
 fn:∃pm ctv,base.get? f=some (ź "<lambda>" qual params body scope cl pm c' ctv)
 caps:Caps base cl ys cvs
 kn:qp H c' qual
def Vx(N:List Str)(P:Addr)(lpos:Pos)(qual:Str)(params:Arguments)(body:Expr)(scope:Scope)(cl:List (Str×Addr))(ys:List Str)(sp:Heap->Sp)(te:TE):TE:=λσ H Q=>te σ H λv H1=>lN P lpos qual H1 /\
 ∃cvs:List V,cvs.length=ys.length/\(∀(j:Nat) (y:Str) (v:V),ys[j]?=some y->cvs[j]?=some v->∃i:Nat,N[i]?=some y/\σ[i]?=some (some v)) /\
  ∀base' f c' H',LamAt base' f c' qual params body scope cl ys cvs H'->lN P lpos qual H'->(∀b o,H1 b=some o->b≠P->H' b=some o)->sp base' [v,.ref f] H' Q E0
section
variable {X:Cx}{k:Nat}{fh c P:Addr}{fdh:FuncData}{ps ys:List Str}{sp:Heap->Sp}{x:Str}{p pos lpos:Pos}{e:Expr}{te:TE}{qual:Str}{params:Arguments}{body:Expr}{scope:Scope}{cl:List (Str×Addr)}
def Ae(F:∀base,FnOk X.prog X.w X.K X.mg base CX0 k fh fdh ps (sp base))(hr:Room k X.A)(hg:Gl X x)(hm:X.mg x=some (.ref fh))(hk:W.keepIn X.K (.ref fh)=true)(hb:Binds X.K fdh ps [])(ha:PE X e te)(hq:X.env.qual++"<lambda>"=qual)(hdef:defaultsOf params X.env=([],[]))(hcl:closureFor scope X.env=pure cl)(hcode:X.env.code=.ref c)(hC:X.K.In X.base->W.CodeHd X.base c P)(hB:X.K.In X.base->X.base.BuiltinsAt X.mg P)(hfn:∀x,X.fn x=true)(hsub:∀x c,cl.lookup x=some c->X.env.cells.lookup x=some c)(hys:∀y∈ys,X.env.scope.names.lookup y=some .cell/\∃c,cl.lookup y=some c)(hdb:zB x:=by decide)(he:starEach [e,.Lambda params body scope lpos] X.env=(false,eval e X.env)::(false,eval (.Lambda params body scope lpos) X.env)::[]:=by rfl)(hpl:(backTo pos (starEach [.Lambda params body scope lpos] X.env)).any (·.1)=false:=by rfl)(he1:starEach [e,.Lambda params body scope lpos] X.env=(false,eval e X.env)::starEach [.Lambda params body scope lpos] X.env:=by rfl) :
  PE X (.Call (.Name x p) [e,.Lambda params body scope lpos] [] pos) (Vx X.N P lpos qual params body scope cl ys sp te):=by
 intro pins s σ H Q I h
 refine Ŋ (Dk I hg hm ?_ hdb)
 refine W.callWith_K (h₀:=X.base) I.ok.mod.kin hk ?_ he1 hpl
 rw[he]
 show wpAny _ _ (spliced ((false,eval e X.env)::(false,eval (.Lambda params body scope lpos) X.env)::[])) _ _ s
 refine Calls.spliced_cons (thn (ha pins s σ H _ I h) λu s1 ⟨v,H1,I1,r1,T1,cvs,cl1,hcv,q1⟩=>?_)
 refine Calls.spliced_cons ?_
 refine uK I1 hq hdef hcl hcode hC hB T1 λf c' ctv pm s2 H2 J T2 kn fn hfo nfs kp kb=>?_
 refine Calls.spliced_nil ⟨J.kIn,?_⟩
 have ncell:∀y c,X.env.cells.lookup y=some c->c∉frs X.stack:=λy c e z=>by
  rcases Ñ.mp (J.qM c z) with z|z
  ·exact J.cne y c e z
  ·obtain⟨_,o,ho,_⟩:=J.ok.kZ.mem z
   exact absurd (Ï ho) (Nat.not_lt.mpr (J.ok.cab y c (hfn y) e))
 have inL:∀y c,cl.lookup y=some c->c∈f::cl.filterMap λq=>cl.lookup q.1:=λy c e=>Ã _ (œ.mpr ⟨(y,c),ă e,e⟩)
 have hL:∀b∈f::cl.filterMap (λq=>cl.lookup q.1),(H2 b=none/\b∉frs X.stack):=λb hb=>by
  rcases Ñ.mp hb with rfl|hb
  ·exact⟨fn,nfs⟩
  ·obtain⟨⟨y,c1⟩,_,e1⟩:=œ.mp hb
   have e2:=hsub y b e1
   exact⟨J.freeC y b e2,ncell y b e2⟩
 have e0:=J.env0.reb (L:=f::cl.filterMap λq=>cl.lookup q.1) (λb hb=>(hL b hb).1) λb hb=>(hL b hb).2
 have cellB:∀y c w,cl.lookup y=some c->s2.heap.IsCell c w->(reb X.base s2.heap (f::cl.filterMap λq=>cl.lookup q.1)).IsCell c w:=λy c w e ⟨o,ho,hd⟩=>⟨o,vK ho (inL y c e),hd⟩
 have lam:LamAt (reb X.base s2.heap (f::cl.filterMap λq=>cl.lookup q.1)) f c' qual params body scope cl ys cvs H2:=by
  refine⟨⟨pm,ctv,vK hfo Æ⟩,⟨cl1,λy c e=>?_,λj y w h1 h2=>?_⟩,kn⟩
  ·obtain⟨w,hw⟩:=J.cell y c (hsub y c e)
   exact⟨w,cellB y c w e hw⟩
  ·obtain⟨i,n1,n2⟩:=hcv j y w h1 h2
   obtain⟨k1,c,e⟩:=hys y (Î h1)
   obtain⟨m,_,hl⟩:=J.loc
   obtain⟨u',rv,l⟩:=hl i y w n1 n2 (.inr (.inl k1))
   rcases l with ⟨k2,_⟩|⟨_,c2,e2,hc⟩
   ·have k2:X.env.scope.names.lookup y=some .local:=k2
    rw[k1] at k2;cases k2
   ·rw[hsub y c e] at e2
    cases e2
    exact⟨c,u',e,cellB y c _ e hc,rv⟩
 have hsp:=q1 _ f c' H2 lam T2 kp
 have FF:=F (reb X.base s2.heap (f::cl.filterMap λq=>cl.lookup q.1))
 have hl:[u,ŋ f].length=ps.length:=FF.len _ _ _ _ hsp
 refine wpAny_call (codeAny_mono (FF.run X.A X.stack s2 H2 ⟨[u,.ref f],[]⟩ [u,.ref f] [v,.ref f] Q E0 hr e0 ?_ (.cons r1 (.cons rfl .nil)) hsp) λr s' hq=>?_)
 ·have:=hb s2 [u,.ref f] J.kIn (by rw[ð];exact hl)
  rw[ð] at this
  exact this
 ·cases r with
  |error e=>exact hq.elim
  |ok fl =>
   cases fl with
   |ret u=>exact J.after hq
   |next=>exact ĵ hq
   |brk=>exact ĵ hq
   |cont=>exact ĵ hq
end
end L2
namespace Dl
open PySem L2 PyProof.Rows
def oZ(P:Addr)(pos:Pos)(qual:Str):Pn where
 fp:=λb=>b=P
 PI:=lN P pos qual
 pv:=.non
 mono:=λH H' ⟨ps,h,r⟩ k=>⟨ps,k _ _ (.inl rfl) h,r.imp id λ⟨c',e,x,φ,hc,cx⟩=>⟨c',e,x,φ,k _ _ (.inr ⟨x,φ,rfl⟩) hc,cx⟩⟩
 is:=λH b ⟨ps,h,_⟩ hb=>by
  subst hb
  exact⟨_,h,(λxs z=>(nomatch z)),λ⟨_,_,z⟩=>(nomatch z)⟩
def spT(T:Pn)(f:List D->(D->Prop)->Prop):Sp:=λvs H Q _=>∃ds P,T.PI H/\Rps (λa=>¬T.fp a) H vs ds/\f ds P/\∀d v H',P d->Kp T H H'->T.PI H'->Rp (λa=>H a=none) H' v d->Q v H'
def Di{T:Pn}{f:List D->(D->Prop)->Prop}{n:Nat}(hn:∀ds P,f ds P->ds.length=n:=by intro _ _ h;repeat (first|(obtain⟨rfl,_⟩:=h;rfl)|obtain⟨_,h⟩:=h)):∀vs H Q E,spT T f vs H Q E->vs.length=n:=λvs H Q E ⟨ds,P,_,r,t,_⟩=>by
 rw[r.length]
 exact hn ds P t
def Pn.plus(p T:Pn):Pn where
 fp:=λb=>p.fp b\/T.fp b
 PI:=λH=>p.PI H/\T.PI H
 pv:=p.pv
 mono:=λH H' h k=>⟨p.mono H H' h.1 λb o z e=>k b o (z.imp .inl id) e,T.mono H H' h.2 λb o z e=>k b o (z.imp .inr id) e⟩
 is:=λH b h z=>z.elim (p.is H b h.1) (T.is H b h.2)
def Apart(p T:Pn):Prop:=∀H,p.PI H->T.PI H->∀b,p.fp b->¬T.fp b
def Jm{p:Pn}{H:Hp}{b:Addr}{o:HO}(h:p.PI H)(e:H b=some o)(c:Fxd o):¬p.fp b:=λz=>by
 obtain⟨o',e',n⟩:=p.is H b h z
 rw[e] at e'
 cases e'
 exact n.2 c
section
variable [Gr] {X:Cx}{k j:Nat}{x:Str}{ps:List Str}{e:Expr}{es:List Expr}{t:DA}{p pos:Pos}{C:Pn->Prop}{T:Pn}{i:Nat}{f:List D->(D->Prop)->Prop}
end
def grZ(Z:Hp->Prop):Gr:=⟨λp H0=>p=dR/\Z H0⟩
def spZ(Z:Hp->Prop)(g:List D->(D->Prop)->Prop):Sp:=λvs H Q E=>Z H/\spD g vs H Q E
def PK(i:Nat)(f:Addr)(g:List D->(D->Prop)->Prop)(t:DA):DE:=λρ P=>(∃b,ρ[i]?=some (.scr (.ref f) b))/\t ρ λks=>g (ks.map (·.2)) λd=>P (norm .new d) d
section
variable {X:Cx}{k j:Nat}{x:Str}{ps:List Str}{e:Expr}{es:List Expr}{t:DA}{p pos:Pos}{Z:Hp->Prop}{i:Nat}{f:Addr}{fd:FuncData}{g:List D->(D->Prop)->Prop}
def Jw(hZ:∀H H',Z H->Same H H'->Z H'):∀σ H Q,@bx (grZ Z) (PK i f g t) σ H Q->GZ i f (spZ Z g) E0 (@jj (grZ Z) t) σ H Q:=by
 letI:=grZ Z
 rintro σ H Q ⟨q,H0,own,ρ,P,E,⟨⟨b,hi⟩,t⟩,k⟩
 obtain⟨rfl,z⟩:=E.gr
 refine⟨(E.slot i _ hi).1,dR,H0,own,ρ,_,E,t,λks vs H1 h A r=>?_⟩
 have sm:Same H0 H1:=λb o e=>A.kp b o (E.k0 b o e λz=>z) λz=>z
 refine⟨hZ _ _ z sm,ks.map (·.2),_,(RpK.rps A r).mono (λ_ _=>trivial) (λ_ _ _ e=>e) (λ_ _ e=>e),h,λd v H' h2 s r2=>?_⟩
 exact k _ d v H' h2 (A.go (Kp.of s) trivial) (aY (r2.mono (λa o=>A.free o) (λ_ _ _ e=>e) λ_ _ e=>e))
def dcV(hZ:∀H H',Z H->Same H H'->Z H')(F:FnOk X.prog X.w X.K X.mg X.base CX0 k f fd ps (spZ Z g))(hf:W.FnAt f X.base)(hr:Room j X.A)(hb:Binds X.K fd ps [])(hv:PE X (.Name x p) (iH i))(ha:@PDA (grZ Z) X (e::es) t)(hk:k<=j)(he:zS X e es:=by rfl)(hpl:zP X pos es:=by rfl) :
  @PD (grZ Z) X (.Call (.Name x p) (e::es) [] pos) (PK i f g t):=PE.wk (HW F hf (hr.mono hk) hb NT hv ha he hpl) (Jw hZ)
def RD{N:List Str}{H:Hp}{n:Int}{m:Nat}(z:Z H)(hN:N.length=m+2):@EnvD (grZ Z) dR H (λ_=>none) (L2.start N [.int n,.ref f]) H (.im (.int n)::.scr (.ref f) false::É m .any):=by
 letI:=grZ Z
 refine⟨λ_ _ e _=>e,trivial,(λ_ _ e=>(nomatch e)),λq s e=>?_,?_,⟨rfl,z⟩⟩
 ·match q,e with
  |0,e=>cases e;exact⟨.int n,rfl,.int n⟩
  |1,e=>cases e;exact⟨rfl,λz=>(nomatch z)⟩
  |q+2,e =>
   have e:(É m Sl.any)[q]?=some s:=e
   have:=(Ķ.mp (Î e)).2
   subst this
   trivial
 ·unfold L2.start
  simp[hN]
end
def Hand(P:Program)(w:World)(K:Ú)(mg:Str->Option Value)(base:Heap)(kl:Nat)(f:Addr)(ps:List Str)(Z:Hp->Prop)(g:List D->(D->Prop)->Prop):Prop:=∃fd,FnOk P w K mg base CX0 kl f fd ps (spZ Z g)/\W.FnAt f base/\Binds K fd ps []/\∀H H',Z H->Same H H'->Z H'
def spF(P:Program)(w:World)(K:Ú)(mg:Str->Option Value)(base:Heap)(kl:Nat)(ps:List Str)(t:(List D->(D->Prop)->Prop)->Int->(D->Prop)->Prop):Sp:=λvs H Q _=>∃(n:Int) (f:Addr) (Z:Hp->Prop) (g:List D->(D->Prop)->Prop) (Pd:D->Prop),vs=[.int n,.ref f]/\Hand P w K mg base kl f ps Z g/\Z H/\t g n Pd /\
 ∀d v H',Pd d->Same H H'->Rp (λa=>H a=none) H' v d->Q v H'
def RK{Z:Hp->Prop}{T:DS}{N:List Str}{H:Hp}{Q:VK}{f:Addr}{n:Int}{m:Nat}{Pd:D->Prop}(z:Z H)(k:∀d v H',Pd d->Same H H'->Rp (λa=>H a=none) H' v d->Q v H')(hN:N.length=m+2)(body:T { nx:=λ_=>Pd .none,rt:=Pd } (.im (.int n)::.scr (.ref f) false::É m .any)):@nM (grZ Z) T { nx:=λ_ H'=>Q .non H',rt:=Q } (L2.start N [.int n,.ref f]) H:=by
 letI:=grZ Z
 have sm:∀H',(∀b o,H b=some o->¬dR.fp b->H' b=some o)->Same H H':=λH' k b o e=>k b o e λz=>z
 exact⟨dR,H,λ_=>none,_,_,RD z hN,body,⟨λo s h' r' e' _ n=>k _ _ h' n (sm h' e'.k0) .non,λd v h' n w=>k d v h' n (sm h' w.k0) (w.rp.mono (λ_ o=>o.1) (λ_ _ _ e=>e) λ_ _ e=>e),λ_ _ _ _ _ _ n=>n.elim,λ_ _ _ _ _ _ n=>n.elim⟩⟩
end Dl
namespace Wr
open PySem L2 PyProof.Rows Dl
variable {X:Cx}{k j:Nat}{x:Str}{ps:List Str}{e:Expr}{es:List Expr}{t:DA}{p pos:Pos}{Z:Hp->Prop}{i:Nat}{f:Addr}{fd:FuncData}{g:List D->(D->Prop)->Prop}
def dcV(hZ:∀H H',Z H->Same H H'->Z H')(F:FnOk X.prog X.w X.K X.mg X.base CX0 k f fd ps (spZ Z g))(hf:W.FnAt f X.base)(hr:Room j X.A)(hb:Binds X.K fd ps [])(hv:WV X (.Name x p) i)(ha:@WDA (grZ Z) X (e::es) t)(hk:k<=j:=by decide)(he:zS X e es:=by rfl)(hpl:zP X pos es:=by rfl) :
  @WD (grZ Z) X (.Call (.Name x p) (e::es) [] pos) (PK i f g t):=@WD.mk (grZ Z) _ _ _ (Dl.dcV hZ F hf hr hb hv.h (@WDA.h (grZ Z) _ _ _ ha) hk he hpl)
end Wr
namespace Dl
open PySem L2 PyProof.Rows
section
variable [Gr] {X:Cx}{st:Stmt}{i k a b:Nat}{f:List D->(D->Prop)->Prop}
def O8(i k a b:Nat)(f:List D->(D->Prop)->Prop):DS:=λP ρ=>∃(r:Nat) (ds:List D) (ws:List Int) (n m:Int),ρ[i]?=some (.sp r true ds)/\ρ[k]?=some (.sh (iD ws))/\ρ[a]?=some (.im (.int n))/\ρ[b]?=some (.im (.int m))/\(∃x y tl,ds=.tuple [x,y]::tl)/\ds.length<1000 /\
 f [iD ws,.list ds,.int n,.int m] λd=>∃(t:Int) (L:List Int),d=.tuple [.int t,iD L]/\L.length≠ws.length/\P.nx ((forget r ρ).set i (.sp r true (ds++[d])))
def xu(h:PS X st (qI (tBM X.K "list" vM (iH i) (qJ (ug (spR f) [] E0 (qJ (iH k) (qJ (iH i) (qJ (iH a) (qJ (iH b) Py))))) Py)))):PDS X st (O8 i k a b f):=PS.wk' h (by
 rintro Q σ H ⟨p,H0,own,ρ,P,E,⟨r,ds,ws,n,m,hi,hk,ha,hb,⟨x,y,tl,hds⟩,hlen,hf⟩,w⟩
 obtain⟨l,vs,hv,o,ho,rs⟩:=E.slot i _ hi
 obtain⟨vw,hkσ,rw⟩:=E.slot k _ hk
 obtain⟨va,haσ,ra⟩:=E.slot a _ ha
 obtain⟨vb,hbσ,rb⟩:=E.slot b _ hb
 have ea:=ra.int'
 have eb:=rb.int'
 subst ea eb
 obtain⟨wl,wvs,rfl,okw,hw,rws⟩:=Rp.bR rw
 have ew:=Rps.ints rws
 subst ew
 refine⟨.ref l,hv,.inl ⟨rfl,vs,SqL.of ho⟩,.ref wl,hkσ,.ref l,hv,.int n,haσ,.int m,hbσ,?_⟩
 show spR f ([.ref wl,.ref l,.int n,.int m]++[]) H _ E0
 rw[ð]
 have A:=E.at
 refine⟨λc=>okS p H0 own true c\/c=l\/c=wl,[iD ws,.list ds,.int n,.int m],_,.cons (.lst (.inr (.inr rfl)) hw (Rps.ofMap (λx=>.int x) ws)) (.cons (.lst (.inr (.inl rfl)) ho (rs.mono (λ_ o=>.inl o) (λ_ _ _ e=>e) λ_ _ e=>e)) (.cons (.int n) (.cons (.int m) .nil))),hf,λd v H' ⟨t,L,ed,hL,hn⟩ sm rp=>?_⟩
 subst ed
 obtain⟨ta,tvs,rfl,hta,rt⟩:=Rp.eO rp
 obtain⟨v1,v2,rfl,r1,r2⟩:=rt.two
 have e1:=r1.int'
 subst e1
 obtain⟨bb,bvs,rfl,okb,hbb,rbb⟩:=Rp.bR r2
 have e2:=Rps.ints rbb
 subst e2
 have nl:bb≠l:=λz=>by
  rw[z,sm l _ ho] at hbb
  subst hds
  cases rs with
  |cons h t =>
   obtain⟨c,cvs,rfl,_⟩:=Rp.eO h
   cases L with
   |nil=>cases hbb
   |cons q L=>cases hbb
 have nw:bb≠wl:=λz=>by
  rw[z,sm wl _ hw] at hbb
  have e:=congrArg List.length (HO.lst.inj (á hbb))
  rw[Á,Á] at e
  exact hL e.symm
 have okb2:okS p H0 own true bb:=by
  rcases okb with (z|z|z)|z
  ·exact z
  ·exact absurd z nl
  ·exact absurd z nw
  ·exact⟨λ_=>A.h0 z,A.nfp z,A.Io z⟩
 have A2:At p H0 own H H':=A.go (Kp.of sm) (p.mono H H' E.pen λb o _ e=>sm b o e)
 have E1:=E.go A2.kp A2.pen
 have h1:H' l=some (.lst vs):=sm l _ ho
 have rs1:Rps (okS p H0 own true) H' vs ds:=rs.mono (λ_ o=>o) (λc u n e=>sm c u e) λ_ _ e=>sm _ _ e
 have rv:Rp (okS p H0 own true) H' (.ref ta) (.tuple [.int t,iD L]):=.tup hta (.cons (.int t) (.cons (.lst okb2 hbb (Rps.ofMap (λx=>.int x) L)) .nil))
 have hln:=rs.length
 have h24:=ô
 refine⟨l,vs,.ref ta,rfl,rfl,h1,by omega,?_⟩
 obtain⟨E2,F2⟩:=E1.Cy (b:=true) hv o h1 (rs1.snoc rv)
 exact w.nx _ σ _ _ E2 (A2.frs.trans F2) hn)
end
end Dl
namespace Wr
open PySem L2 PyProof.Rows Dl
section
variable [Gr] {X:Cx}{i k a b lv j:Nat}{f:List D->(D->Prop)->Prop}{x g y z1 z2:Str}{ps:List Str}{apos cpos np pos gp gpos py px pa pb:Pos}
def xu(C:Cal X.prog X.w X.K X.mg X.base lv g ps (spR f))(hr:Room j X.A)(hv:WV X (.Name x np) i)(hy:WV X (.Name y py) k)(hx:WV X (.Name x px) i)(h1:WV X (.Name z1 pa) a)(h2:WV X (.Name z2 pb) b)(hk:lv<=j:=by decide)(hg:Gl X g:=by rfl)(hdb:zB g:=by decide)(hbase:attributeBase (.Name x np) "append" X.env (eval (.Name x np) X.env)=eval (.Name x np) X.env:=by rfl)(hfew:((backTo cpos (starEach [.Call (.Name g gp) [.Name y py,.Name x px,.Name z1 pa,.Name z2 pb] [] gpos] X.env)).all (λx=>!x.1)&&(backToKw cpos (keywordEach [] X.env)).all (λx=>x.1.isSome)
  &&decide (([.Call (.Name g gp) [.Name y py,.Name x px,.Name z1 pa,.Name z2 pb] [] gpos]:List Expr).length+([]:List Keyword).length+(if ([]:List Keyword).isEmpty then 0 else 1)<30))=true:=by rfl)(hline:(apos.endLine == cpos.line)=true:=by rfl)(hs:swapsWith (.Call (.Attribute (.Name x np) "append" apos) [.Call (.Name g gp) [.Name y py,.Name x px,.Name z1 pa,.Name z2 pb] [] gpos] [] cpos) none pos.line X.env=pure false:=by rfl) :
  WDS X (.Expr (.Call (.Attribute (.Name x np) "append" apos) [.Call (.Name g gp) [.Name y py,.Name x px,.Name z1 pa,.Name z2 pb] [] gpos] [] cpos) pos) (O8 i k a b f) :=
 ⟨Dl.xu (cu (gP ù Ś Ř gZ hv.h (dB (pcS C hr (dB hy.h (dB hx.h (dB h1.h (dB h2.h pA)))) hk hg hdb rfl rfl) pA) hbase hfew hline rfl rfl) hs)⟩
end
end Wr
namespace L2
open PySem PySem.Spec PyProof.Rows
def Fv{P:Program}{w:World}{K:Ú}{mg mb:Str->Option Value}{k:Nat}{fa a:Addr}{Ps:List Addr}{fd:FuncData}{x:Str}{sp:Sp}{s₁:Shared}{vs:List Value}{ns:List Int}(KX:K.In s₁.heap)(hKP:∀PT∈Ps,K.lookup PT=none)(hC:∀PT∈Ps,∃c,W.CodeHd s₁.heap c PT)(hPT:∀PT∈Ps,s₁.heap.get? PT=some (W.tabObj #[]))(hns:s₁.heap.Ns mainGlobals mg)(hb:s₁.heap.Ns builtinsNs mb)(hbb:∀x:Str,x≠"__name__"->mb x=bootBuiltins x)(hlim:s₁.heap.NoLimit)(hBm:∀PT∈Ps,s₁.heap.BuiltinsAt mg PT)(hg:s₁.gens=#[])(ha:s₁.heap.get? a=some { cls:=.type "list",data:=.seq vs.toArray })(hi:IntsAre vs ns)(hl:ns.length<=sizeLine)(hr:Room k callerA)(F:∀base:Heap,K.In base->base.Ns mainGlobals mg->(∀PT∈Ps,base.BuiltinsAt mg PT)->(∀(b:Addr) (m:Str->Option Value),s₁.heap.Ns b m->base.Ns b m)->FnOk P w K mg base CX0 k fa fd [x] sp)(hbind:∀(s:Shared) (u:Value),BindsTo s fd ⟨[u],[]⟩ [(x,u)])(hsp:∀H:Hp,SqL K H a (ns.map V.int)->(∀PT∈Ps,H PT=some (.tbl #[]))->sp [.ref a] H (λv _=>v=.bl true) λ_ _ _=>False) :
  codeAny (model P w) callerA (.call (.ref fa) ⟨[.ref a],[]⟩) (λr s'=>r=.ok (.ret (.bool true))/\OldK s₁.heap s'.heap/\s'.os=s₁.os/\AllBare s'.gens) s₁:=by
 have rv:=oN hi
 have lenV:=hi.length
 have aP:a∉Ps:=λz=>by rw[hPT a z] at ha;cases ha
 have core:∀H:Hp,SqL K H a (ns.map V.int)->HOk P w H s₁.heap->(∀PT∈Ps,H PT=some (.tbl #[]))->(∀b u,H b=some u->b∉Ps->b=a/\K.lookup a=none/\∃o u',u=.frz o u') ->
   codeAny (model P w) callerA (.call (.ref fa) ⟨[.ref a],[]⟩) (λr s'=>r=.ok (.ret (.bool true))/\OldK s₁.heap s'.heap/\s'.os=s₁.os/\AllBare s'.gens) s₁:=by
  intro H hS hok hT hA
  have nD:∀{b:Addr}{o:Obj}{es:Array DictEntry}{ep:Nat},s₁.heap.get? b=some o->o.data=.dict es ep->H b=none:=λ{b o es ep} e d=>by
   cases q:H b with
   |none=>rfl
   |some u =>
    by_cases z:b∈Ps
    ·rw[hPT b z] at e;cases e;cases d
    ·have:=(hA b u q z).1
     subst this
     rw[ha] at e;cases e;cases d
  have nsK:∀{b:Addr}{m:Str->Option Value},s₁.heap.Ns b m->(wR s₁.heap H).Ns b m:=λ{b m} ⟨o,es,ep,e,d,r⟩=>⟨o,es,ep,sG e (nD e d),d,r⟩
  have hKb:K.In (wR s₁.heap H):=λb o e=>sG (KX b o e) (by
   cases q:H b with
   |none=>rfl
   |some u =>
    by_cases z:b∈Ps
    ·rw[hKP b z] at e;cases e
    ·obtain⟨z1,z2,_⟩:=hA b u q z
     rw[z1,z2] at e;cases e)
  have hM:Mod K mg (wR s₁.heap H):=⟨hKb,nsK hns,⟨mb,nsK hb,hbb⟩,let ⟨mc,h1,h2⟩:=hlim;⟨mc,nsK h1,h2⟩⟩
  have e0:Env0 P w K mg (wR s₁.heap H) callerA [] s₁ H:=⟨rfl,hM,λb o e=>Mh e,Nat.le_of_eq (FN _ _),trivial,λb hb=>absurd (show b∈([]:List Addr) from hb) (by simp),hok,.of_eq hg⟩
  have hBb:∀PT∈Ps,(wR s₁.heap H).BuiltinsAt mg PT:=λPT hP=>by
   obtain⟨bm,o,h1,h2,h3,h4,h5,h6,h7⟩:=hBm PT hP
   refine⟨bm,o,h1,h2,h3,h4,sG h5 ?_,h6,h7⟩
   cases q:H bm with
   |none=>rfl
   |some u =>
    have:=(hA bm u q λz=>by
     have e5:=h5
     rw[hPT bm z] at e5
     cases e5
     have h6:ė=ĕ "module":=h6
     cases h6).1
    subst this
    rw[ha] at h5;cases h5
    have h6:ĕ "list"=ĕ "module":=h6
    exact absurd h6 (by decide)
  refine codeAny_mono ((F _ hKb (nsK hns) hBb λb m z=>nsK z).run callerA [] s₁ H ⟨[.ref a],[]⟩ [.ref a] [.ref a] _ _ hr e0 (hbind s₁ (.ref a)) (.cons rfl .nil) (hsp H hS hT)) λr s' h=>?_
  cases r with
  |error e=>exact h.elim
  |ok fl =>
   cases fl with
   |next=>exact ĵ h
   |brk=>exact ĵ h
   |cont=>exact ĵ h
   |ret u =>
    obtain⟨v,H',os,bare,un,hok',r',q⟩:=h
    have q':v=.bl true:=q
    subst q'
    obtain rfl:u=Value.bool true:=r'
    have eTs:∀PT∈Ps,∃more,s'.heap.get? PT=some { cls:=.none,data:=.fields (#[]++more) }:=λPT hP=>by
     obtain⟨more,hT'⟩:=un.tbls PT _ (hT PT hP)
     exact⟨more,hok' PT _ hT'⟩
    have kept:∀b o,s₁.heap.get? b=some o->b∉Ps->s'.heap.get? b=some o:=λb o e nb=>by
     cases q:H b with
     |none=>exact un.keep b o e q (by intro z;exact absurd (show b∈([]:List Addr) from z) (by simp)) (by simp)
     |some u =>
      obtain⟨_,_,ob,u',rfl⟩:=hA b u q nb
      have e1:=(hok b _ q).1
      rw[e] at e1;cases e1
      exact(hok' b _ (un.frzs b _ _ q)).1
    refine⟨rfl,⟨λb o e=>?_,λb o e=>?_⟩,os,bare⟩
    ·by_cases z:b∈Ps
     ·obtain⟨more,eT⟩:=eTs b z
      obtain⟨c,hc⟩:=hC b z
      rw[hPT b z] at e
      cases e
      exact .inr (.inl ⟨(hc.tab (hPT b z)).isCodeTable,rfl,#[],more,rfl,eT⟩)
     ·exact .inl (kept b o e z)
    ·by_cases z:b∈Ps
     ·obtain⟨more,eT⟩:=eTs b z
      exact⟨_,eT⟩
     ·exact⟨o,kept b o e z⟩
 cases hk:K.lookup a with
 |some o =>
  have e:=KX a o hk
  rw[ha] at e
  cases e
  refine core (λb=>if b∈Ps then some (.tbl #[]) else none) (.inr ⟨_,vs.toArray,_,hk,rfl,rfl,rfl,by rw[Í,lenV];exact hl,by simpa using rv⟩) (λb u z=>?_) (λPT hP=>if_pos hP) λb u z nb=>?_
  ·by_cases hb:b∈Ps
   ·have z':=(if_pos hb).symm.trans z
    cases z'
    exact hPT b hb
   ·have z':=(if_neg hb).symm.trans z
    cases z'
  ·have z':=(if_neg nb).symm.trans z
   cases z'
 |none =>
  let H:Hp:=λb=>if b∈Ps then some (.tbl #[]) else if b=a then some (.frz { cls:=.type "list",data:=.seq vs.toArray } (.lst (ns.map V.int))) else none
  have hP1:∀PT∈Ps,H PT=some (.tbl #[]):=λPT hP=>if_pos hP
  have hA1:H a=some (.frz { cls:=.type "list",data:=.seq vs.toArray } (.lst (ns.map V.int))):=(if_neg aP).trans (if_pos rfl)
  have hN1:∀b,b∉Ps->b≠a->H b=none:=λb h1 h2=>(if_neg h1).trans (if_neg h2)
  refine core H (.inl (.inr ⟨_,hA1⟩)) (λb u z=>?_) hP1 λb u z nb=>?_
  ·by_cases hb:b∈Ps
   ·rw[hP1 b hb] at z
    cases z
    exact hPT b hb
   ·by_cases hb2:b=a
    ·subst hb2
     rw[hA1] at z
     cases z
     exact⟨ha,by rw[Á];exact hl,vs,_,rv,ha⟩
    ·rw[hN1 b hb hb2] at z;cases z
  ·by_cases hb2:b=a
   ·subst hb2
    rw[hA1] at z
    cases z
    exact⟨rfl,hk,_,_,rfl⟩
   ·rw[hN1 b nb hb2] at z;cases z
def GD{l:W.OpenLaw}{n k:Nat}{q:Program}{loose:List Str}{XP:(Str->Option Value)->Heap->Prop}{YP:World->Heap->Prop}{d:DefRec}{K:Params->Ú}{x:Str}(hi:importsNone q=true)(hn:l.most=some n)(hn2:n<=sizeLine)(hdf:d.params.defaults=[])(hr:Room k callerA)(hY:∀(w:World) (h:Heap),YP w h->(K w.params).In h)(F:∀(w:World) (mg:Str->Option Value) (fa:Addr) (h:Heap),(K w.params).In h->h.Ns mainGlobals mg->mg d.name=some (.ref fa) ->
   ∃(K':Ú) (Ps:List Addr) (fd:FuncData) (sp:Sp),K'.In h/\(∀PT∈Ps,K'.lookup PT=none)/\(∀PT∈Ps,∃c,W.CodeHd h c PT)/\(∀PT∈Ps,h.get? PT=some (W.tabObj #[]))/\(∀(s:Shared) (u:Value),BindsTo s fd ⟨[u],[]⟩ [(x,u)]) /\
    (∀base:Heap,K'.In base->base.Ns mainGlobals mg->(∀PT∈Ps,base.BuiltinsAt mg PT)->(∃o,base.get? sysModules=some o)->FnOk l.prog w K' mg base CX0 k fa fd [x] sp)/\∀(H:Hp) (a:Addr) (ns:List Int),SqL K' H a (ns.map V.int)->(∀PT∈Ps,H PT=some (.tbl #[]))->sp [.ref a] H (λv _=>v=.bl true) λ_ _ _=>False) :
  W.WalkO q loose XP YP l.row.toRowW d [] (λf vs=>PySem.call f vs):=by
 refine Att.zJ hn hdf λw s₀ s₁ mg mb fa o pm cd doc a vs ns G Y ho hd hcd hmg hobj hints hlen hg=>?_
 obtain⟨K',Ps,fd,sp,k1,k2,k3,k4,hb,hF,hsp⟩:=F w mg fa _ (hY w _ Y) G.T.g hmg
 have hBm:∀PT∈Ps,s₁.heap.BuiltinsAt mg PT:=λPT hP=>by
  obtain⟨bm,ob,b1,b2,b3,b4,b5,b6⟩:=G.T.bmain
  have n1:bm≠PT:=λz=>by rw[z,k4 PT hP] at b3;cases b3;cases b4
  have n2:bm≠mainGlobals:=λz=>by
   obtain⟨o,es,ep,e,hd,_⟩:=G.T.g
   rw[z,e] at b3;cases b3;rw[hd] at b6;cases b6
  exact⟨bm,ob,b1,b2,n2,n1,b3,b4,b5,b6⟩
 obtain⟨mm,hm,_⟩:=(G.T.seer hi).mods
 exact Fv k1 k2 k3 k4 G.T.g G.T.b G.T.builtins G.T.nolimit hBm hg hobj hints (þ hlen hn2) hr (λbase h1 h2 h3 h4=>hF base h1 h2 h3 (let ⟨o,_,_,e,_⟩:=h4 _ _ hm;⟨o,e⟩)) hb λH hS hT=>hsp H a ns hS hT
def K3{K:Ú}{Ps:List Addr}{h:Heap}(X:W.Frag.In ((Ps.map λa=>(a,W.tabObj #[]))++K) h)(n:∀PT∈Ps,K.lookup PT=none):K.In h/\∀PT∈Ps,h.get? PT=some (W.tabObj #[]):=by
 have look:∀(Ps:List Addr) (a:Addr),a∉Ps->List.lookup a ((Ps.map λa=>(a,W.tabObj #[]))++K)=K.lookup a:=λPs a h=>by
  induction Ps with
  |nil=>rfl
  |cons p Ps ih =>
   rw[à,List.cons_append,Ċ,show(a == p)=false by simpa using λz:a=p=>h (by rw[z];exact Æ)]
   exact ih λz=>h (Ã _ z)
 have lookP:∀(Ps:List Addr) (a:Addr),a∈Ps->List.lookup a ((Ps.map λa=>(a,W.tabObj #[]))++K)=some (W.tabObj #[]):=λPs a h=>by
  induction Ps with
  |nil=>cases h
  |cons p Ps ih =>
   rw[à,List.cons_append,Ċ]
   by_cases z:a=p
   ·rw[z,beq_self_eq_true]
   ·rw[show(a == p)=false by simpa using z]
    exact ih ((Ñ.mp h).resolve_left z)
 refine⟨λa o e=>X a o ?_,λPT hP=>X PT _ (lookP Ps PT hP)⟩
 rw[look Ps a λz=>by rw[n a z] at e;cases e]
 exact e
end L2
set_option autoImplicit true
namespace Dl
open PySem L2 PyProof.Rows
class Tb where
 T:Pn
instance (priority:=low) noTb:Tb:=⟨dR⟩
def tM[Tb](a:Addr)(n:Nat):Pn where
 fp:=λb=>b=a\/Tb.T.fp b
 PI:=λH=>(∃x y c:Int,H a=some (.lst [.int x,.int y,.int c])/\0<=c/\c+(n:Int)<=1152921504606846976)/\Tb.T.PI H/\¬Tb.T.fp a
 pv:=.ref a
 mono:=λH H' ⟨⟨x,y,c,h,r⟩,t,na⟩ k=>⟨⟨x,y,c,k _ _ (.inl (.inl rfl)) h,r⟩,Tb.T.mono H H' t λb o z e=>k b o (z.imp .inr id) e,na⟩
 is:=λH b ⟨⟨x,y,z,h,_⟩,t,_⟩ hb=>hb.elim (λhb=>by
  subst hb
  exact⟨_,h,(λxs z=>(nomatch z)),λ⟨_,_,z⟩=>(nomatch z)⟩) (Tb.T.is H b t)
def TP:Pn->Prop:=λ_=>True
def VD:Sl->Sl
 |.pen _=>.pen TP
 |s=>s
def stp(ρ:List Sl):List Sl:=ρ.map VD
section
variable [Tb] {X:Cx}{a:Addr}{n m m1 m2 m3:Nat}{H0 Hb H H1 H':Hp}{own:Addr->Option Nat}{σ:L2.St}{ρ:List Sl}
structure EnvB(a:Addr)(n m:Nat)(H0:Hp)(own:Addr->Option Nat)(σ:L2.St)(H:Hp)(ρ:List Sl):Prop where
 st:stp ρ=ρ
 pi:(tM a (n+m)).PI H
 env:EnvD (tM a n) H0 own σ H ρ
def Q7(m:Nat)(t:DE):TE:=λσ H Q=>∃a n H0 own ρ P,EnvB a n m H0 own σ H ρ/\t ρ P/\∀k d v H',P k d->At (tM a n) H0 own H H'->Rp (okK (tM a n) H0 own H k) H' v d->Q v H'
def Q8(m:Nat)(t:DA):TA:=λσ H Q=>∃a n H0 own ρ P,EnvB a n m H0 own σ H ρ/\t ρ P/\∀ks vs H',P ks->At (tM a n) H0 own H H'->RpK (tM a n) H0 own H H' vs ks->Q vs H'
def Bb(m:Nat)(t:DT):TT:=λσ H Q=>∃a n H0 own ρ P,EnvB a n m H0 own σ H ρ/\t ρ P/\∀b H',P b->At (tM a n) H0 own H H'->Q b H'
def Q6(m:Nat)(t:DI):TI:=λσ H R=>∃a n H0 own ρ P,EnvB a n m H0 own σ H ρ/\t ρ P/\∀k ds J H1 Ok,P k ds->At (tM a n) H0 own H H1->Wlk Ok J ds (okA (tM a n) H0 own H k H1)->Ok H1->R J H1
def JB(m:Nat)(t:DS):TS:=λQ σ H=>∃a n H0 own ρ P,EnvB a n m H0 own σ H ρ/\t P ρ/\Wish (tM a n) H0 own H P Q
end
end Dl
namespace Wb
open PySem L2 PyProof.Rows Dl Wr
section
variable [Tb]
structure BE(X:Cx)(m:Nat)(e:Expr)(t:DE):Prop where
 h:PE X e (Q7 m t)
structure BA(X:Cx)(m:Nat)(e:List Expr)(t:DA):Prop where
 h:PA X e (Q8 m t)
structure BT(X:Cx)(m:Nat)(e:Expr)(t:DT):Prop where
 h:PT X e (Bb m t)
structure BW(X:Cx)(m:Nat)(e:Expr)(t:DT):Prop where
 h:PW X e (Bb m t)
structure BTs(X:Cx)(m:Nat)(e:List Expr)(t:DT):Prop where
 h:PTs X e (Bb m t)
structure BI(X:Cx)(m:Nat)(tg e:Expr)(t:DI):Prop where
 h:PI X tg e (Q6 m t)
structure BS(X:Cx)(m:Nat)(s:Stmt)(t:DS):Prop where
 h:PS X s (JB m t)
structure BSs(X:Cx)(m:Nat)(s:List Stmt)(t:DS):Prop where
 h:PSs X s (JB m t)
end
section
variable [Tb] {X:Cx}{n m m1 m2 m3:Nat}{H0 Hb H H1 H':Hp}{own:Addr->Option Nat}{σ:L2.St}{ρ:List Sl}{pos:Pos}{a b e:Expr}{es:List Expr}{ta tb te:DE}{t:DA}
section
variable {rest:List Expr}{t u:DT}
end
end
end Wb
namespace Dl
open PySem L2 PyProof.Rows
section
variable [Tb]
end
end Dl
namespace Wb
open PySem L2 PyProof.Rows Dl Wr
section
variable [Tb]
end
section
variable [Tb] {X:Cx}{n m m1 m2 m3:Nat}{H0 Hb H H1 H':Hp}{own:Addr->Option Nat}{σ:L2.St}{ρ:List Sl}{pos:Pos}{a b e:Expr}{es:List Expr}{ta tb te:DE}
def Bu(t u:DS):DS:=λP ρ=>t { nx:=λr=>u P (stp r),rt:=P.rt,bk:=λr=>P.bk (stp r),ct:=λr=>P.ct (stp r) } ρ
section
variable {st:Stmt}{rest:List Stmt}{t u:DS}
end
end
variable {X:Cx}{K:Ú}{sc:Addr}{ns:List Int}{pre:List D->Prop}
end Wb
namespace Wr
open PySem L2 PyProof.Rows Dl
variable [Gr] {X:Cx}{pos:Pos}{a b:Expr}{ta tb:DE}
def Lq(ha:WD X a ta)(hb:WD X b tb):WD X (.BinOp a .BitAnd b pos) (t2 (gI0 λi j=>.int (Builtin.bitAnd i j)) ta tb):=⟨Dl.lB Qz (wG λi j _=>.int _) ha.h hb.h⟩
end Wr
namespace L2
open PySem PySem.Spec PyProof.Rows
open PySem.AutoSeq1 (wpAny_loadPart')
open PySem.MeetsSeq PySem.MeetsSeq3
section
variable {X:Cx}
end
end L2
namespace Dl
open PySem L2 PyProof.Rows
variable [Gr] {X:Cx}{a b:Expr}{ta tb:DE}{pos:Pos}
end Dl
namespace Wr
open PySem L2 PyProof.Rows Dl
variable [Gr] {X:Cx}{a b:Expr}{ta tb:DE}{pos:Pos}
end Wr
namespace Cut
def mg(es:List Int)(X:Int->Bool):Nat:=es.countP X
structure Prp(n:Nat)(X:Int->Bool):Prop where
 ins:∃v:Int,(0<=v/\v<n)/\X v=true
 out:∃v:Int,(0<=v/\v<n)/\X v=false
def kh(e:Int)(es:List Int)(X:Int->Bool):mg (e::es) X=mg es X+(X e).toNat:=by
 unfold mg
 rw[ť]
 cases X e <;> rfl
def pC{es:List Int}{X:Int->Bool}{a:Int}(h:a∈es)(hX:X a=true):1<=mg es X:=List.countP_pos_iff.mpr ⟨a,h,hX⟩
def Ip(es:List Int)(X Y:Int->Bool):mg es (λv=>X v || Y v)+mg es (λv=>X v&&Y v)=mg es X+mg es Y:=by
 induction es with
 |nil=>rfl
 |cons e es ih =>
  simp only[kh]
  cases X e <;> cases Y e <;> simp_all <;> omega
def Jl(es:List Int)(X:Int->Bool):mg es X+mg es (λv=>!X v)=es.length:=by
 induction es with
 |nil=>rfl
 |cons e es ih =>
  simp only[kh,ã]
  cases X e <;> simp <;> omega
section
variable {n k:Nat}{us:List (Int×Int)}{es:List Int}
def Prp.not{X:Int->Bool}(h:Prp n X):Prp n λv=>!X v :=
 ⟨let ⟨v,a,b⟩:=h.out;⟨v,a,by rw[b];rfl⟩,let ⟨v,a,b⟩:=h.ins;⟨v,a,by rw[b];rfl⟩⟩
def Prp.sub{X Y:Int->Bool}(h:Prp n X){v:Int}(hr:0<=v/\v<n)(hv:Y v=true)(hs:∀v,Y v=true->X v=true):Prp n Y :=
 ⟨⟨v,hr,hv⟩,let ⟨u,a,b⟩:=h.out;⟨u,a,by
  cases c:Y u with
  |false=>rfl
  |true=>rw[hs u c] at b;cases b⟩⟩
end
abbrev Dj(n:Nat)(X Y:Int->Bool):Prop:=∀v:Int,0<=v/\v<n->X v=true->Y v=false
def Jk{α:Type}{R:α->α->Prop}:∀{l:List α},¬l.Pairwise R->∃x y r,l.Perm (x::y::r)/\¬R x y
 |[],h=>absurd .nil h
 |x::l,h=>by
  by_cases c:∀y∈l,R x y
  ·have hl:¬l.Pairwise R:=λz=>h (.cons c z)
   obtain⟨a,b,r,p,q⟩:=Jk hl
   exact⟨a,b,x::r,(p.cons x).trans ((List.Perm.swap a x (b::r)).trans ((List.Perm.swap b x r).cons a)),q⟩
  ·have ⟨y,hy⟩:=Classical.not_forall.mp c
   have ⟨hm,hR⟩:=Classical.not_imp.mp hy
   obtain⟨s,t,rfl⟩:=List.append_of_mem hm
   exact⟨x,y,s++t,List.perm_middle.cons x,hR⟩
section
variable {n k:Nat}{us:List (Int×Int)}{es:List Int}
def sum_add{α:Type}(l:List α)(f g:α->Nat):(l.map λx=>f x+g x).sum=(l.map f).sum+(l.map g).sum:=by
 induction l with
 |nil=>rfl
 |cons x l ih=>simp only[à,ò,ih];omega
def QC{Gs:List (Int->Bool)}(h:Gs.Pairwise (Dj n)){e:Int}(hr:0<=e/\e<(n:Int)):(Gs.map λX=>(X e).toNat).sum<=1/\((∃X∈Gs,X e=true)->(Gs.map λX=>(X e).toNat).sum=1):=by
 induction h with
 |nil=>exact⟨ÿ _,λ⟨_,h,_⟩=>(nomatch h)⟩
 |@cons X l hX hl ih =>
  rw[à,ò]
  cases c:X e with
  |true =>
   have:(l.map λX=>(X e).toNat).sum=0:=by
    have:∀m:List (Int->Bool),(∀Y∈m,Y e=false)->(m.map λX=>(X e).toNat).sum=0:=λm=>by
     induction m with
     |nil=>intro _;rfl
     |cons Y m ih=>intro h;rw[à,ò,h Y Æ,ih λZ hZ=>h Z (Ã _ hZ)];rfl
    exact this l λY hY=>hX Y hY e hr c
   rw[this]
   exact⟨Ì _,λ_=>rfl⟩
  |false =>
   refine⟨by have:=ih.1;simp;exact this,λ⟨Y,hY,q⟩=>?_⟩
   rcases Ñ.mp hY with rfl|hY
   ·rw[q] at c;cases c
   ·have:=ih.2 ⟨Y,hY,q⟩
    simp
    exact this
def G3(rng:∀e∈es,0<=e/\e<(n:Int)){Gs:List (Int->Bool)}(h:Gs.Pairwise (Dj n)):(Gs.map λX=>mg es X).sum<=es.length/\((∀e∈es,∃X∈Gs,X e=true)->(Gs.map λX=>mg es X).sum=es.length):=by
 induction es with
 |nil =>
  have:∀m:List (Int->Bool),(m.map λX=>mg [] X).sum=0:=λm=>by
   induction m with
   |nil=>rfl
   |cons Y m ih=>rw[à,ò,ih];rfl
  rw[this]
  exact⟨Ì _,λ_=>rfl⟩
 |cons e es ih =>
  obtain⟨i1,i2⟩:=ih λx hx=>rng x (Ã _ hx)
  obtain⟨o1,o2⟩:=QC h (rng e Æ)
  have:(Gs.map λX=>mg (e::es) X).sum=(Gs.map λX=>mg es X).sum+(Gs.map λX=>(X e).toNat).sum:=by
   rw[←sum_add]
   congr 1
   exact Č λX _=>kh e es X
  rw[this,ã]
  refine⟨by omega,λhc=>?_⟩
  rw[i2 λx hx=>hc x (Ã _ hx),o2 (hc e Æ)]
end
end Cut
namespace Cut
def di(us:List (Int×Int))(X:Int->Bool):Nat:=us.countP λt=>!X t.1&&X t.2
def dO(us:List (Int×Int))(X:Int->Bool):Nat:=us.countP λt=>X t.1&&!X t.2
def qG(t:Int×Int)(us:List (Int×Int))(X:Int->Bool):di (t::us) X=di us X+(!X t.1&&X t.2).toNat:=by
 unfold di
 rw[ť]
 cases !X t.1&&X t.2 <;> rfl
def qH(t:Int×Int)(us:List (Int×Int))(X:Int->Bool):dO (t::us) X=dO us X+(X t.1&&!X t.2).toNat:=by
 unfold dO
 rw[ť]
 cases X t.1&&!X t.2 <;> rfl
def Km(us:List (Int×Int))(X:Int->Bool):dO us (λv=>!X v)=di us X:=by
 unfold dO di
 refine Ź λt _=>?_
 cases h1:X t.1 <;> cases h2:X t.2 <;> simp[h1,h2]
def Br(us:List (Int×Int))(X:Int->Bool):di us (λv=>!X v)=dO us X:=by
 unfold dO di
 refine Ź λt _=>?_
 cases h1:X t.1 <;> cases h2:X t.2 <;> simp[h1,h2]
def bi2:∀x y x' y':Bool,(!(x&&y)&&(x'&&y')).toNat+(!(x || y)&&(x' || y')).toNat<=(!x&&x').toNat+(!y&&y').toNat:=by decide
def bo2:∀x y x' y':Bool,((x&&y)&&!(x'&&y')).toNat+((x || y)&&!(x' || y')).toNat<=(x&&!x').toNat+(y&&!y').toNat:=by decide
def bm2:∀x y x' y':Bool,(!(x&&!y)&&(x'&&!y')).toNat+((y&&!x)&&!(y'&&!x')).toNat<=(!x&&x').toNat+(y&&!y').toNat:=by decide
def Kg(us:List (Int×Int))(X Y:Int->Bool):di us (λv=>X v&&Y v)+di us (λv=>X v || Y v)<=di us X+di us Y:=by
 induction us with
 |nil=>exact Ì _
 |cons t us ih =>
  simp only[qG]
  have:=bi2 (X t.1) (Y t.1) (X t.2) (Y t.2)
  omega
def Kl(us:List (Int×Int))(X Y:Int->Bool):dO us (λv=>X v&&Y v)+dO us (λv=>X v || Y v)<=dO us X+dO us Y:=by
 induction us with
 |nil=>exact Ì _
 |cons t us ih =>
  simp only[qH]
  have:=bo2 (X t.1) (Y t.1) (X t.2) (Y t.2)
  omega
def RL(us:List (Int×Int))(X Y:Int->Bool):di us (λv=>X v&&!Y v)+dO us (λv=>Y v&&!X v)<=di us X+dO us Y:=by
 induction us with
 |nil=>exact Ì _
 |cons t us ih =>
  simp only[qG,qH]
  have:=bm2 (X t.1) (Y t.1) (X t.2) (Y t.2)
  omega
def jJ{es:List Int}{X:Int->Bool}(h:∀e∈es,X e=true):mg es X=es.length:=List.countP_eq_length.mpr h
def SQ(es:List Int)(X Y:Int->Bool):mg es (λv=>X v&&!Y v)+mg es (λv=>X v&&Y v)=mg es X:=by
 induction es with
 |nil=>rfl
 |cons e es ih =>
  simp only[kh]
  cases X e <;> cases Y e <;> simp_all <;> omega
section
variable {n k:Nat}{us:List (Int×Int)}{H T:List Int}{a:Int}
structure Fit(n k:Nat)(us:List (Int×Int))(H T:List Int):Prop where
 rH:∀e∈H,0<=e/\e<(n:Int)
 rT:∀e∈T,0<=e/\e<(n:Int)
 len:H.length=T.length
 c1:∀X,Prp n X->k<=di us X+mg H X
 c2:∀X,Prp n X->k<=dO us X+mg T X
def Fit.f1(F:Fit n k us H T){X:Int->Bool}(p:Prp n X)(t:di us X+mg H X<=k):mg H X+mg T X<=H.length:=by
 have:=F.c2 _ p.not
 rw[Km] at this
 have:=Jl T X
 have:=F.len
 omega
def Fit.f2(F:Fit n k us H T){X:Int->Bool}(p:Prp n X)(t:dO us X+mg T X<=k):mg H X+mg T X<=H.length:=by
 have:=F.c1 _ p.not
 rw[Br] at this
 have:=Jl H X
 omega
def Ti(n k:Nat)(us:List (Int×Int))(H:List Int)(a:Int)(X:Int->Bool):Prop:=Prp n X/\X a=true/\di us X+mg H X<=k
def To(n k:Nat)(us:List (Int×Int))(T:List Int)(a:Int)(X:Int->Bool):Prop:=Prp n X/\X a=true/\dO us X+mg T X<=k
def Ak{X Y:Int->Bool}(hX:Prp n X)(hY:Prp n Y):Prp n (λv=>X v || Y v)\/∀v:Int,0<=v/\v<n->(X v || Y v)=true:=by
 by_cases c:∃v:Int,(0<=v/\v<n)/\(X v || Y v)=false
 ·obtain⟨v,a,b⟩:=hX.ins
  exact .inl ⟨⟨v,a,by show(X v || Y v)=true;rw[b];rfl⟩,c⟩
 ·refine .inr λv hv=>?_
  cases d:X v || Y v with
  |true=>rfl
  |false=>exact absurd ⟨v,hv,d⟩ c
def xP{X Y:Int->Bool}(hX:Prp n X){v:Int}(hv:0<=v/\v<n)(h1:X v=true)(h2:Y v=true):Prp n (λv=>X v&&Y v) :=
 hX.sub hv (by show(X v&&Y v)=true;rw[h1,h2];rfl) λu h=>by
  cases d:X u with
  |true=>rfl
  |false=>rw[show(X u&&Y u)=false by rw[d];rfl] at h;cases h
def Fit.Sd(F:Fit n k us H T)(ha:a∈T){X Y:Int->Bool}(hX:Ti n k us H a X)(hY:Ti n k us H a Y):Ti n k us H a λv=>X v || Y v:=by
 obtain⟨x1,x2,x3⟩:=hX
 obtain⟨y1,y2,y3⟩:=hY
 have ra:=F.rT a ha
 have oH:=Ip H X Y
 have oT:=Ip T X Y
 rcases Ak x1 y1 with p|p
 ·have i:=F.c1 _ (xP x1 ra x2 y2)
  have o:=F.c1 _ p
  have:=Kg us X Y
  exact⟨p,by show(X a || Y a)=true;rw[x2];rfl,by omega⟩
 ·have aH:=jJ (X:=λv=>X v || Y v) λe he=>p e (F.rH e he)
  have aT:=jJ (X:=λv=>X v || Y v) λe he=>p e (F.rT e he)
  have g1:=F.f1 x1 x3
  have g2:=F.f1 y1 y3
  have:1<=mg T λv=>X v&&Y v:=pC ha (by show(X a&&Y a)=true;rw[x2,y2];rfl)
  have:=F.len
  omega
def Fit.R9(F:Fit n k us H T)(ha:a∈T){X Y:Int->Bool}(hX:To n k us T a X)(hY:To n k us T a Y):To n k us T a λv=>X v || Y v:=by
 obtain⟨x1,x2,x3⟩:=hX
 obtain⟨y1,y2,y3⟩:=hY
 have ra:=F.rT a ha
 have oH:=Ip H X Y
 have oT:=Ip T X Y
 rcases Ak x1 y1 with p|p
 ·have i:=F.c2 _ (xP x1 ra x2 y2)
  have o:=F.c2 _ p
  have:=Kl us X Y
  exact⟨p,by show(X a || Y a)=true;rw[x2];rfl,by omega⟩
 ·have aH:=jJ (X:=λv=>X v || Y v) λe he=>p e (F.rH e he)
  have aT:=jJ (X:=λv=>X v || Y v) λe he=>p e (F.rT e he)
  have g1:=F.f2 x1 x3
  have g2:=F.f2 y1 y3
  have:1<=mg T λv=>X v&&Y v:=pC ha (by show(X a&&Y a)=true;rw[x2,y2];rfl)
  have:=F.len
  omega
def Fit.cover(F:Fit n k us H T)(ha:a∈T):∀L:List Int,(∀b∈L,∃X,X b=true/\(Ti n k us H a X\/To n k us T a X))->∃X Y:Int->Bool,(Ti n k us H a X\/X=λ_=>false)/\(To n k us T a Y\/Y=λ_=>false)/\∀b∈L,X b=true\/Y b=true
 |[],_=>⟨_,_,.inr rfl,.inr rfl,λb h=>(nomatch h)⟩
 |b::L,h=>by
  obtain⟨X,Y,hX,hY,hc⟩:=F.cover ha L λx hx=>h x (Ã _ hx)
  obtain⟨Z,zb,hZ⟩:=h b Æ
  rcases hZ with hZ|hZ
  ·rcases hX with hX|rfl
   ·refine⟨_,Y,.inl (F.Sd ha hX hZ),hY,λx hx=>?_⟩
    rcases Ñ.mp hx with rfl|hx
    ·exact .inl (by show(X x || Z x)=true;rw[zb,Bool.or_true])
    ·exact(hc x hx).imp (λe=>by show(X x || Z x)=true;rw[e];rfl) id
   ·refine⟨Z,Y,.inl hZ,hY,λx hx=>?_⟩
    rcases Ñ.mp hx with rfl|hx
    ·exact .inl zb
    ·exact .inr ((hc x hx).elim (λe=>nomatch e) id)
  ·rcases hY with hY|rfl
   ·refine⟨X,_,hX,.inl (F.R9 ha hY hZ),λx hx=>?_⟩
    rcases Ñ.mp hx with rfl|hx
    ·exact .inr (by show(Y x || Z x)=true;rw[zb,Bool.or_true])
    ·exact(hc x hx).imp id (λe=>by show(Y x || Z x)=true;rw[e];rfl)
   ·refine⟨X,Z,hX,.inl hZ,λx hx=>?_⟩
    rcases Ñ.mp hx with rfl|hx
    ·exact .inr zb
    ·exact .inl ((hc x hx).elim id (λe=>nomatch e))
def Fit.split(F:Fit n k us H T)(ha:a∈T)(hH:∃b∈H,b≠a):∃b∈H,b≠a/\∀X,Prp n X->X a=true->X b=true->k+1<=di us X+mg H X/\k+1<=dO us X+mg T X:=by
 apply ĉ
 intro hno
 have ra:=F.rT a ha
 have pT:∀X:Int->Bool,X a=true->1<=mg T X:=λX h=>pC ha h
 have cov:∀b∈H.filter (λb=>decide (b≠a)),∃X,X b=true/\(Ti n k us H a X\/To n k us T a X):=λb hb=>by
  obtain⟨b1,b2⟩:=ą.mp hb
  have b2:=of_decide_eq_true b2
  apply ĉ
  intro hn
  refine hno ⟨b,b1,b2,λX h1 h2 h3=>⟨?_,?_⟩⟩
  ·rcases ş (di us X+mg H X) (k+1) with y|y
   ·exact absurd ⟨X,h3,.inl ⟨h1,h2,by omega⟩⟩ hn
   ·exact y
  ·rcases ş (dO us X+mg T X) (k+1) with y|y
   ·exact absurd ⟨X,h3,.inr ⟨h1,h2,by omega⟩⟩ hn
   ·exact y
 obtain⟨X,Y,hX,hY,hc⟩:=F.cover ha _ cov
 have all:∀e∈H,e=a\/X e=true\/Y e=true:=λe he=>by
  by_cases z:e=a
  ·exact .inl z
  ·exact .inr (hc e (ą.mpr ⟨he,decide_eq_true z⟩))
 have onlyX:Ti n k us H a X->(∀e∈H,X e=true)->False:=λ⟨x1,x2,x3⟩ h=>by
  have:=F.f1 x1 x3
  have:=jJ h
  have:=pT X x2
  omega
 have onlyY:To n k us T a Y->(∀e∈H,Y e=true)->False:=λ⟨x1,x2,x3⟩ h=>by
  have:=F.f2 x1 x3
  have:=jJ h
  have:=pT Y x2
  omega
 rcases hX with hX|rfl
 ·rcases hY with hY|rfl
  ·obtain⟨x1,x2,x3⟩:=hX
   obtain⟨y1,y2,y3⟩:=hY
   by_cases A:∃u:Int,(0<=u/\u<n)/\X u=true/\Y u=false
   ·by_cases B:∃u:Int,(0<=u/\u<n)/\Y u=true/\X u=false
    ·obtain⟨u,ur,u1,u2⟩:=A
     obtain⟨w,wr,w1,w2⟩:=B
     have pX:Prp n λv=>X v&&!Y v:=x1.sub ur (by show(X u&&!Y u)=true;rw[u1,u2];rfl) λv h=>by
      cases d:X v with
      |true=>rfl
      |false=>rw[show(X v&&!Y v)=false by rw[d];rfl] at h;cases h
     have pY:Prp n λv=>Y v&&!X v:=y1.sub wr (by show(Y w&&!X w)=true;rw[w1,w2];rfl) λv h=>by
      cases d:Y v with
      |true=>rfl
      |false=>rw[show(Y v&&!X v)=false by rw[d];rfl] at h;cases h
     have h1:=F.c1 _ pX
     have h2:=F.c2 _ pY
     have:=RL us X Y
     have m1:=SQ H X Y
     have m2:=SQ T Y X
     have:1<=mg T λv=>Y v&&X v:=pC ha (by show(Y a&&X a)=true;rw[x2,y2];rfl)
     omega
    ·refine onlyX ⟨x1,x2,x3⟩ λe he=>?_
     rcases all e he with rfl|h|h
     ·exact x2
     ·exact h
     ·cases d:X e with
      |true=>rfl
      |false=>exact absurd ⟨e,F.rH e he,h,d⟩ B
   ·refine onlyY ⟨y1,y2,y3⟩ λe he=>?_
    rcases all e he with rfl|h|h
    ·exact y2
    ·cases d:Y e with
     |true=>rfl
     |false=>exact absurd ⟨e,F.rH e he,h,d⟩ A
    ·exact h
  ·exact onlyX hX λe he=>by
    rcases all e he with rfl|h|h
    ·exact hX.2.1
    ·exact h
    ·cases h
 ·rcases hY with hY|rfl
  ·exact onlyY hY λe he=>by
    rcases all e he with rfl|h|h
    ·exact hY.2.1
    ·cases h
    ·exact h
  ·obtain⟨b,hb,nb⟩:=hH
   rcases all b hb with h|h|h
   ·exact nb h
   ·cases h
   ·cases h
def Tgt(n k:Nat)(us:List (Int×Int))(H T:List Int):Prop:=(∀b∈H,∃X,Prp n X/\X b=true/\di us X+mg H X=k)\/∀b∈T,∃X,Prp n X/\X b=true/\dO us X+mg T X=k
def Fit.other(F:Fit n k us H T)(ha:a∈T)(t:Tgt n k us H T):∃b∈H,b≠a:=by
 apply ĉ
 intro hno
 have all:∀b∈H,b=a:=λb hb=>ĉ λz=>hno ⟨b,hb,z⟩
 have lT:=List.length_pos_of_mem ha
 have len:=F.len
 rcases t with t|t
 ·obtain⟨b,hb⟩:∃b,b∈H:=by
   match H,len with
   |[],e=>simp at e;omega
   |b::_,_=>exact⟨b,Æ⟩
  obtain⟨X,x1,x2,x3⟩:=t b hb
  rw[all b hb] at x2
  have:=F.f1 x1 (by omega)
  have:=jJ (X:=X) λe he=>by rw[all e he];exact x2
  have:=pC ha x2
  omega
 ·obtain⟨X,x1,x2,x3⟩:=t a ha
  have:=F.f2 x1 (by omega)
  have p:=pC ha x2
  have nH:=Jl H X
  have:1<=mg H λv=>!X v:=by
   have h:=F.c1 _ x1.not
   rw[Br] at h
   omega
  obtain⟨b,hb,h⟩:=List.countP_pos_iff.mp (show 0<H.countP λv=>!X v from this)
  rw[all b hb,x2] at h
  cases h
def Oi{b:Int}(hb:b∈H)(X:Int->Bool):mg (H.erase b) X+(X b).toNat=mg H X:=by
 have:=(List.perm_cons_erase hb).countP_eq X
 unfold mg
 rw[this,ť]
 cases X b <;> rfl
def Fit.step{b:Int}{R:List Int}(F:Fit n k us H (a::R))(hb:b∈H)(h:∀X,Prp n X->X a=true->X b=true->k+1<=di us X+mg H X/\k+1<=dO us X+mg (a::R) X)(t:Tgt n k us H (a::R)) :
  Fit n k ((a,b)::us) (H.erase b) R/\Tgt n k ((a,b)::us) (H.erase b) R:=by
 have e1:∀X,di ((a,b)::us) X+mg (H.erase b) X+(X a&&X b).toNat=di us X+mg H X:=λX=>by
  rw[qG,←Oi hb X]
  cases X a <;> cases X b <;> simp <;> omega
 have e2:∀X,dO ((a,b)::us) X+mg R X+(X a&&X b).toNat=dO us X+mg (a::R) X:=λX=>by
  rw[qH,kh]
  cases X a <;> cases X b <;> simp <;> omega
 have cs:∀X:Int->Bool,(X a&&X b)=false\/(X a=true/\X b=true):=λX=>by
  cases X a <;> cases X b <;> simp
 have le:=List.length_erase_of_mem hb
 have lp:=List.length_pos_of_mem hb
 have fl:=F.len
 rw[ã] at fl
 refine⟨⟨λe he=>F.rH e (List.mem_of_mem_erase he),λe he=>F.rT e (Ã _ he),by omega,λX hX=>?_,λX hX=>?_⟩,?_⟩
 ·have g:=e1 X
  have:=F.c1 X hX
  rcases cs X with c|⟨c1,c2⟩
  ·rw[c] at g;simp at g;omega
  ·have:=(h X hX c1 c2).1
   rw[c1,c2] at g
   simp at g
   omega
 ·have g:=e2 X
  have:=F.c2 X hX
  rcases cs X with c|⟨c1,c2⟩
  ·rw[c] at g;simp at g;omega
  ·have:=(h X hX c1 c2).2
   rw[c1,c2] at g
   simp at g
   omega
 ·rcases t with t|t
  ·refine .inl λv hv=>?_
   obtain⟨X,x1,x2,x3⟩:=t v (List.mem_of_mem_erase hv)
   refine⟨X,x1,x2,?_⟩
   have g:=e1 X
   rcases cs X with c|⟨c1,c2⟩
   ·rw[c] at g;simp at g;omega
   ·have:=(h X x1 c1 c2).1
    omega
  ·refine .inr λv hv=>?_
   obtain⟨X,x1,x2,x3⟩:=t v (Ã _ hv)
   refine⟨X,x1,x2,?_⟩
   have g:=e2 X
   rcases cs X with c|⟨c1,c2⟩
   ·rw[c] at g;simp at g;omega
   ·have:=(h X x1 c1 c2).2
    omega
end
section
variable {n k:Nat}{H:List Int}{d e:(Int->Bool)->Nat}
def K7(rng:∀b∈H,0<=b/\b<(n:Int))(hC:∀X,Prp n X->k<=d X+mg H X)(two:∀X Y,d (λv=>X v&&Y v)+d (λv=>X v || Y v)<=d X+d Y)(opp:∀X,e (λv=>!X v)=d X) :
  ∀(N:Nat) (Fs:List (Int->Bool)),Fs.length<=N->(∀X∈Fs,Prp n X/\d X+mg H X=k)->(∀b∈H,∃X∈Fs,X b=true) ->
  ∃Gs:List (Int->Bool),Gs.Pairwise (Dj n)/\(∀X∈Gs,Prp n X)/\(H.length<=(Gs.map λX=>k - d X).sum\/H.length<=(Gs.map λX=>k - e X).sum):=by
 intro N
 induction N with
 |zero =>
  intro Fs hN _ hc
  have:Fs=[]:=List.length_eq_zero_iff.mp (by omega)
  subst this
  refine⟨[],.nil,λX h=>(nomatch h),.inl ?_⟩
  cases H with
  |nil=>exact Ì _
  |cons b H =>
   obtain⟨X,h,_⟩:=hc b Æ
   cases h
 |succ N ih =>
  intro Fs hN hT hc
  by_cases c:Fs.Pairwise (Dj n)
  ·refine⟨Fs,c,λX hX=>(hT X hX).1,.inl ?_⟩
   rw[←(G3 rng c).2 hc]
   refine Nat.le_of_eq (congrArg List.sum (Č λX hX=>?_))
   have:=(hT X hX).2
   omega
  obtain⟨X,Y,r,pm,hXY⟩:=Jk c
  have tX:=hT X (pm.mem_iff.mpr Æ)
  have tY:=hT Y (pm.mem_iff.mpr (Ã _ Æ))
  have tr:∀Z∈r,Prp n Z/\d Z+mg H Z=k:=λZ hZ=>hT Z (pm.mem_iff.mpr (Ã _ (Ã _ hZ)))
  have ln:=pm.length_eq
  rw[ã,ã] at ln
  have ⟨v,hv⟩:=Classical.not_forall.mp hXY
  have ⟨vr,hv⟩:=Classical.not_imp.mp hv
  have ⟨vX,hv⟩:=Classical.not_imp.mp hv
  have vY:Y v=true:=by
   cases d:Y v with
   |true=>rfl
   |false=>exact absurd d hv
  have oH:=Ip H X Y
  rcases Ak tX.1 tY.1 with p|p
  ·have i:=hC _ (xP tX.1 vr vX vY)
   have o:=hC _ p
   have tw:=two X Y
   refine ih ((λv=>X v || Y v)::r) (by rw[ã];omega) (λZ hZ=>?_) λb hb=>?_
   ·rcases Ñ.mp hZ with rfl|hZ
    ·exact⟨p,by have:=tX.2;have:=tY.2;omega⟩
    ·exact tr Z hZ
   ·obtain⟨Z,hZ,q⟩:=hc b hb
    rcases Ñ.mp (pm.mem_iff.mp hZ) with rfl|hZ
    ·exact⟨_,Æ,by show(Z b || Y b)=true;rw[q];rfl⟩
    ·rcases Ñ.mp hZ with rfl|hZ
     ·exact⟨_,Æ,by show(X b || Z b)=true;rw[q,Bool.or_true]⟩
     ·exact⟨Z,Ã _ hZ,q⟩
  ·refine⟨[λv=>!X v,λv=>!Y v],.cons (λZ hZ=>?_) (.cons (λZ h=>(nomatch h)) .nil),λZ hZ=>?_,.inr ?_⟩
   ·rw[Ô.mp hZ]
    intro u hu h
    have h:(!X u)=true:=h
    have:=p u hu
    show(!Y u)=false
    cases e1:X u with
    |true=>rw[e1] at h;cases h
    |false=>rw[e1] at this;simp at this;rw[this];rfl
   ·rcases Ñ.mp hZ with rfl|hZ
    ·exact tX.1.not
    ·rw[Ô.mp hZ];exact tY.1.not
   ·have aH:=jJ (X:=λv=>X v || Y v) λb hb=>p b (rng b hb)
    have h1:=tX.2
    have h2:=tY.2
    show H.length<=(k - e λv=>!X v)+((k - e λv=>!Y v)+0)
    rw[opp X,opp Y]
    omega
def yg(rng:∀b∈H,0<=b/\b<(n:Int))(hC:∀X,Prp n X->k<=d X+mg H X)(tg:∀b∈H,∃X,Prp n X/\X b=true/\d X+mg H X=k)(two:∀X Y,d (λv=>X v&&Y v)+d (λv=>X v || Y v)<=d X+d Y)(opp:∀X,e (λv=>!X v)=d X) :
  ∃Gs:List (Int->Bool),Gs.Pairwise (Dj n)/\(∀X∈Gs,Prp n X)/\(H.length<=(Gs.map λX=>k - d X).sum\/H.length<=(Gs.map λX=>k - e X).sum):=by
 have gen:∀l:List Int,(∀b∈l,∃X,Prp n X/\X b=true/\d X+mg H X=k)->∃Fs:List (Int->Bool),(∀X∈Fs,Prp n X/\d X+mg H X=k)/\∀b∈l,∃X∈Fs,X b=true:=λl=>by
  induction l with
  |nil=>intro _;exact⟨[],λX h=>(nomatch h),λb h=>(nomatch h)⟩
  |cons b l ih =>
   intro h
   obtain⟨Fs,f1,f2⟩:=ih λx hx=>h x (Ã _ hx)
   obtain⟨X,x1,x2,x3⟩:=h b Æ
   refine⟨X::Fs,λY hY=>?_,λx hx=>?_⟩
   ·rcases Ñ.mp hY with rfl|hY
    ·exact⟨x1,x3⟩
    ·exact f1 Y hY
   ·rcases Ñ.mp hx with rfl|hx
    ·exact⟨X,Æ,x2⟩
    ·obtain⟨Y,y1,y2⟩:=f2 x hx
     exact⟨Y,Ã _ y1,y2⟩
 obtain⟨Fs,f1,f2⟩:=gen H tg
 exact K7 rng hC two opp _ Fs (Ì _) f1 f2
end
end Cut
namespace Dl
open PySem L2 PyProof.Rows
def grU(T:Pn):Gr:=⟨λp _=>p=T⟩
def PL(f:List D->(D->Prop)->Prop)(t:DA):DE:=λρ P=>t ρ λks=>f (ks.map (·.2)) λd=>P (norm .new d) d
section
variable {X:Cx}{k j:Nat}{x:Str}{ps:List Str}{e:Expr}{es:List Expr}{t:DA}{p pos:Pos}{T:Pn}{f:List D->(D->Prop)->Prop}
def Jx:∀σ H Q,@bx (grU T) (PL f t) σ H Q->ug (spT T f) [] E0 (@jj (grU T) t) σ H Q:=by
 letI:=grU T
 rintro σ H Q ⟨q,H0,own,ρ,P,E,t,k⟩
 have eq:q=T:=E.gr
 subst eq
 refine⟨_,H0,own,ρ,_,E,t,λks vs H1 h A r=>?_⟩
 show spT q f (vs++[]) H1 Q E0
 rw[ð]
 refine⟨ks.map (·.2),_,A.pen,(RpK.rps A r).mono (λ_ o z=>o z) (λ_ _ _ e=>e) (λ_ _ e=>e),h,λd v H' h2 kp pi' r2=>?_⟩
 exact k _ d v H' h2 (A.go kp pi') (aY (r2.mono (λa o=>A.free o) (λ_ _ _ e=>e) λ_ _ e=>e))
def dcU(CC:Cal X.prog X.w X.K X.mg X.base k x ps (spT T f))(hr:Room j X.A)(ha:@PDA (grU T) X (e::es) t)(hk:k<=j:=by decide)(hg:Gl X x:=by rfl)(hdb:zB x:=by decide)(he:zS X e es:=by rfl)(hpl:zP X pos es:=by rfl) :
  @PD (grU T) X (.Call (.Name x p) (e::es) [] pos) (PL f t):=PE.wk (pcS CC hr ha hk hg hdb he hpl) Jx
def RG{Tm:DS}{N:List Str}{vs:List V}{H:Hp}{Q:VK}{E:XK}(h:spT T f vs H Q E)(body:∀ds P,f ds P->∃ρ,ds.map bw++É (N.length - ds.length) .any=ρ/\Tm { nx:=λ_=>P .none,rt:=P } ρ):@nM (grU T) Tm { nx:=λ_ H'=>Q .non H',rt:=Q } (L2.start N vs) H:=by
 letI:=grU T
 obtain⟨ds,P,pi,r,t,q⟩:=h
 obtain⟨ρ,e,b⟩:=body ds P t
 have E:=iw (p:=T) (N:=N) rfl pi r
 rw[r.length,e] at E
 exact⟨T,H,λ_=>none,_,_,E,b,⟨λo s h' r' e' _ n=>q _ _ h' n e'.k0 e'.pen .non,λd v h' n w=>q d v h' n w.k0 w.pen (w.rp.mono (λ_ o=>o.1) (λ_ _ _ e=>e) λ_ _ e=>e),λ_ _ _ _ _ _ n=>n.elim,λ_ _ _ _ _ _ n=>n.elim⟩⟩
end
end Dl
namespace Wr
open PySem L2 PyProof.Rows Dl
variable {X:Cx}{k j:Nat}{x:Str}{ps:List Str}{e:Expr}{es:List Expr}{t:DA}{p pos:Pos}{T:Pn}{f:List D->(D->Prop)->Prop}
def dcU(CC:Cal X.prog X.w X.K X.mg X.base k x ps (spT T f))(hr:Room j X.A)(ha:@WDA (grU T) X (e::es) t)(hk:k<=j:=by decide)(hg:Gl X x:=by rfl)(hdb:zB x:=by decide)(he:zS X e es:=by rfl)(hpl:zP X pos es:=by rfl) :
  @WD (grU T) X (.Call (.Name x p) (e::es) [] pos) (PL f t):=@WD.mk (grU T) _ _ _ (Dl.dcU CC hr (@WDA.h (grU T) _ _ _ ha) hk hg hdb he hpl)
end Wr
namespace Dl
open PySem L2 PyProof.Rows
@[reducible] def grE(a CN:Addr):Gr:=⟨λp H0=>p=dR/\H0 a=some (Wh a (.ref CN))⟩
variable {X:Cx}{pos:Pos}
structure RefK(K:Ú)(mg:Str->Option Value)(xN:Str)(xs:List Str)(CN CF c1 c2 c3 c4 c5 c6 c7 c8 c9:Addr):Prop where
 mF:mg "FallError"=some (.ref CF)
 mN:mg xN=some (.ref CN)
 m1:mg (xs.getD 0 "")=some (.ref c1)
 m2:mg (xs.getD 1 "")=some (.ref c2)
 m3:mg (xs.getD 2 "")=some (.ref c3)
 m4:mg (xs.getD 3 "")=some (.ref c4)
 m5:mg (xs.getD 4 "")=some (.ref c5)
 m6:mg (xs.getD 5 "")=some (.ref c6)
 m7:mg (xs.getD 6 "")=some (.ref c7)
 m8:mg (xs.getD 7 "")=some (.ref c8)
 m9:mg (xs.getD 8 "")=some (.ref c9)
 mV:mg "ValueError"=none
 exm:W.exmOne K (.ref CN) (.ref CF)=some true
 kx:ExcK K CN
 no:∀c∈[ŋ c1,.ref c2,.ref c3,.ref c4,.ref c5,.ref c6,.ref c7,.ref c8,.ref c9],W.kitOne K (.ref CN) c=some false
 one:W.kitOne K (.ref CN) (.ref CN)=some true
 val:W.kitOne K (.ref CN) (.type "ValueError")=some true
end Dl
namespace L2
open PySem PySem.Spec PyProof.Rows
variable {X:Cx}{k:Nat}{f CF:Addr}{fd:FuncData}{ps:List Str}{sp:Sp}{x hx n:Str}{p np cpos epos hpos:Pos}{e:Expr}{es:List Expr}{t:TA}{b₀:Stmt}{suite:List Stmt}{ts:TS}{j:Nat}
def Tt:V->List V->Hp->VK->Prop:=λx vs H Q=>∃(l:Addr) (ns:List Int) (k:Int) (j:Nat),x=.ref l/\vs=[.int k]/\H l=some (.lst (ns.map V.int))/\ns[j]?=some k/\(∀m,m<j->ns[m]?≠some k)/\Q .non (upd H l (.lst ((ns.eraseIdx j).map V.int)))
def isK(k:Int):Value->Bool
 |.int a _=>a == k
 |_=>false
def yO{α β:Type}(g:α->β):∀(l:List α) (i:Nat),(l.map g).eraseIdx i=(l.eraseIdx i).map g
 |[],_=>rfl
 |_::_,0=>rfl
 |x::l,i+1=>congrArg (g x::·) (yO g l i)
def Fl{X:Cx}:MtM X "list.remove" Tt:=by
 intro pins s σ H x vs v us Q I rx rv h
 obtain⟨l,ns,k,j,rfl,rfl,hH,hj,hno,q⟩:=h
 cases rx
 obtain⟨u,rfl,ru⟩:=rv.one
 obtain⟨t,rfl⟩:=ru
 obtain⟨z,its,n,r,hl,e⟩:=I.yP hH
 have at':∀(m:Nat) (a:Int),ns[m]?=some a->∃t',its[m]?=some (Ō a t'):=λm a hm=>by
  obtain⟨u,hu,ru⟩:=r.get (i:=m) (x:=V.int a) (by rw[ß,hm];rfl)
  obtain⟨t',rfl⟩:=ru
  exact⟨t',hu⟩
 have hlen:its.length=ns.length:=by rw[←hl,Á]
 obtain⟨t',ht'⟩:=at' j k hj
 have hjl:j<its.length:=(Ê.mp ht').1
 refine call_meets F.slot_list_remove ⟨_,e,rfl⟩ F.entry_list_remove (F.args_list_remove_2 _ _)
  (MeetsSeq.list_remove l its.toArray n (.int k t) (isK k) (λy hy=>?_) j (by rw[Í];exact hjl) ?_ (λm hm hmj=>?_) (by rw[Í];omega)) ⟨e,?_⟩
 ·have hy:y∈its:=by simpa using hy
  obtain⟨m,hm⟩:=Ş hy
  have hml:m<ns.length:=by rw[←hlen];exact(Ê.mp hm).1
  obtain⟨t2,h2⟩:=at' m _ (Ç hml)
  rw[hm] at h2
  cases h2
  exact MeetsSeq.EqGives.int _ _ _ _
 ·show isK k its.toArray[j]=true
  have:its.toArray[j]=Ō k t':=by
   rw[List.getElem_toArray]
   exact(Ê.mp ht').2
  rw[this]
  exact beq_self_eq_true k
 ·have hml:m<its.length:=by rw[Í] at hm;exact hm
  obtain⟨t2,h2⟩:=at' m _ (Ç (by rw[←hlen];exact hml))
  have e2:its.toArray[m]=Ō ns[m] t2:=by
   rw[List.getElem_toArray]
   exact(Ê.mp h2).2
  rw[e2]
  have:=hno m hmj
  rw[Ç (by rw[←hlen];exact hml)] at this
  exact beq_false_of_ne λz=>this (by rw[z])
 refine⟨.non,_,I.Mt (its':=its.eraseIdx j) hH e ?_ (ys:=(ns.eraseIdx j).map V.int) ?_ ?_,rfl,q⟩
 ·show its.toArray.eraseIdxIfInBounds j=(its.eraseIdx j).toArray
  rw[List.eraseIdxIfInBounds_toArray]
 ·have:=r.eraseIdx j
  rw[yO] at this
  exact this
 ·have:=uN ns j
  rw[Á]
  omega
end L2
namespace Dl
open PySem L2 PyProof.Rows
def yZ{k:Int}:∀{ns:List Int},k∈ns->∃j:Nat,ns[j]?=some k/\(∀m,m<j->ns[m]?≠some k)/\ns.eraseIdx j=ns.erase k
 |x::ns,h=>by
  by_cases e:x=k
  ·subst e
   exact⟨0,rfl,λm hm=>absurd hm (Nat.not_lt_zero _),by rw[List.erase_cons_head];rfl⟩
  ·have h':k∈ns:=(Ñ.mp h).resolve_left λz=>e z.symm
   obtain⟨j,a,b,c⟩:=yZ h'
   refine⟨j+1,a,λm hm=>?_,by rw[List.eraseIdx_cons_succ,c,List.erase_cons_tail (by simpa using e)]⟩
   cases m with
   |zero=>exact λz=>e (á z)
   |succ m=>exact b m (by omega)
variable [Gr] {X:Cx}{st:Stmt}{tj:DE}
def U9(i:Nat)(tj:DE):DS:=λP ρ=>∃(r:Nat) (ns:List Int),ρ[i]?=some (.dw r (.list (ns.map Â)))/\tj ρ λ_ dj=>match dj with
 |.int k=>k∈ns/\P.nx ((forget r ρ).set i (.dw r (.list ((ns.erase k).map Â))))
 |_=>False
def pK{i:Nat}(h:PS X st (qI (tBM X.K "list" Tt (iH i) (jj (bQ tj je))))):PDS X st (U9 i tj):=PS.wk' h (by
 rintro Q σ H ⟨p,H0,own,ρ,P,E,⟨r,ns,hr,t⟩,w⟩
 obtain⟨v,hv,x⟩:=E.slot i _ hr
 obtain⟨l,vs,rfl,hl,ho,rs⟩:=x.bR
 refine⟨.ref l,hv,.inl ⟨rfl,vs,SqL.of ho⟩,p,H0,own,ρ,_,E,Dc t,?_⟩
 rintro ks ws H1 ⟨k,dj,rfl,hh⟩ A rk
 obtain⟨y,rfl,ry⟩:=fY rk
 cases dj with
 |int a =>
  obtain⟨hm,hn⟩:=hh
  have ej:=Rp.int' ry
  have h1:H1 l=some (.lst vs):=A.kp l _ ho (E.ow l r hl).2.1
  have ev:=Rps.ints rs
  subst ev
  obtain⟨j,hj,hno,he⟩:=yZ hm
  refine⟨l,ns,a,j,rfl,by rw[ej],h1,hj,hno,?_⟩
  rw[he]
  obtain⟨E2,F2⟩:=E.qU (vs':=(ns.erase a).map V.int) (ds':=(ns.erase a).map Â) A hv hl ho rs λH2 f g=>Rps.ofMap (λi=>.int i) _
  exact w.nx _ σ _ _ E2 F2 hn
 |_=>exact hh.elim)
end Dl
namespace Wr
open PySem L2 PyProof.Rows Dl
variable [Gr] {X:Cx}{pos:Pos}
def pK{i:Nat}{x:Str}{e:Expr}{es:List Expr}{tj:DE}{apos cpos np:Pos}(hv:WV X (.Name x np) i)(ha:WDA X (e::es) (bQ tj je))(hbase:attributeBase (.Name x np) "remove" X.env (eval (.Name x np) X.env)=eval (.Name x np) X.env:=by rfl)(hfew:zW X cpos (e::es):=by rfl)(hline:(apos.endLine == cpos.line)=true:=by rfl)(hst:zS X e es:=by rfl)(hplain:zP X cpos es:=by rfl)(hs:swapsWith (.Call (.Attribute (.Name x np) "remove" apos) (e::es) [] cpos) none pos.line X.env=pure false:=by rfl) :
  WDS X (.Expr (.Call (.Attribute (.Name x np) "remove" apos) (e::es) [] cpos) pos) (U9 i tj):=⟨Dl.pK (cu (gP ù PySem.F.slot_list_remove PySem.F.type_list_remove Fl hv.h ha.h hbase hfew hline hst hplain) hs)⟩
end Wr
namespace L2
open PySem PySem.Spec PyProof.Rows
section
variable {X:Cx}{tg:Expr}
end
end L2
namespace Dl
open PySem L2 PyProof.Rows
variable [Gr]
section
variable {X:Cx}{tg:Expr}{pos:Pos}{ta:DA}
end
end Dl
namespace Wr
open PySem L2 PyProof.Rows Dl
variable [Gr] {X:Cx}{tg:Expr}{pos:Pos}{ta:DA}
end Wr
namespace Dl
open PySem L2 PyProof.Rows
variable [Gr]
section
variable {X:Cx}{st st2:Stmt}{rest:List Stmt}{te:DE}{t:DS}
end
end Dl
namespace Wr
open PySem L2 PyProof.Rows Dl
section
variable [Gr] {X:Cx}{te:DE}
end
end Wr
set_option maxHeartbeats 4000000
namespace L2
open PySem PySem.Spec PyProof.Rows
section
variable {M:Model}{A:Around}{E:Value->Shared->Prop}{s:Shared}
variable {κ:SortKind}{mem:Keyed->Prop}{key:Keyed->Int}
end
section
variable {key:Keyed->Int}
def R5(key:Keyed->Int)(l:List Keyed):Prop:=l.Pairwise λx y=>key x<=key y
def Lel(key:Keyed->Int)(l r:List Keyed):Prop:=∀x∈l,∀y∈r,key x<=key y
structure MI(key:Keyed->Int)(T out R S:List Keyed):Prop where
 pm:(out++(R++S)).Perm T
 so:R5 key out
 sr:R5 key R
 ss:R5 key S
 le:Lel key out (R++S)
end
structure Alk(st st':SortSt):Prop where
 a:arrOf st'=arrOf st
 k:kindOf st'=kindOf st
 p:pendingOf st'=pendingOf st
 f:failedOf st'=failedOf st
section
variable {key:Keyed->Int}{a b out:Array Keyed}{ia ib k:Nat}
end
section
variable {M:Model}{A:Around}{E:Value->Shared->Prop}{s:Shared}{κ:SortKind}{mem:Keyed->Prop}{key:Keyed->Int}
def ga(xs:Array Keyed)(i:Nat):Keyed:=(xs[i]?).getD (.none,.none)
end
section
variable {key:Keyed->Int}{a b out:Array Keyed}{na nb k:Nat}
def tk(a:Array Keyed)(n:Nat):List Keyed:=(a.toList.take n).reverse
end
section
variable {M:Model}{A:Around}{E:Value->Shared->Prop}{s:Shared}{κ:SortKind}{mem:Keyed->Prop}{key:Keyed->Int}
end
section
variable {key:Keyed->Int}{xs ys l:Array Keyed}{off i j:Nat}
end
section
variable {key:Keyed->Int}
end
structure Kep(a₀:Array Keyed)(κ:SortKind)(st:SortSt):Prop where
 perm:(arrOf st).toList.Perm a₀.toList
 kind:kindOf st=κ
 fail:failedOf st=none
section
variable {M:Model}{A:Around}{E:Value->Shared->Prop}{s:Shared}{κ:SortKind}{key:Keyed->Int}{a₀:Array Keyed}
end
structure Rn(a₀:Array Keyed)(κ:SortKind)(P:Array (Nat×Nat×Nat))(X:Array Keyed)(lo hi:Nat)(st:SortSt):Prop where
 k:Kep a₀ κ st
 p:pendingOf st=P
 o:∀j,j<lo\/hi<=j->ga (arrOf st) j=ga X j
section
variable {M:Model}{A:Around}{E:Value->Shared->Prop}{s:Shared}{κ:SortKind}{key:Keyed->Int}{a₀ X:Array Keyed}{P:Array (Nat×Nat×Nat)}{lo hi:Nat}
end
section
variable {key:Keyed->Int}{xs ys:Array Keyed}
def rl(p:Array (Nat×Nat×Nat)):List (Nat×Nat):=p.toList.map λt=>(t.1,t.2.1)
end
section
variable {M:Model}{A:Around}{E:Value->Shared->Prop}{s:Shared}{κ:SortKind}{key:Keyed->Int}{a₀:Array Keyed}
end
section
variable {X:Cx}{pins:List (Addr×Obj)}{σ:St}{H:Hp}{s:Shared}{it:Addr}
structure Mine(X:Cx)(pins:List (Addr×Obj))(H:Hp)(it:Addr):Prop where
 h0:H it=none
 h1:it≠X.env.locals
 h2:X.s₀.heap.objs.size<=it
 h3:∀x c,X.env.cells.lookup x=some c->c≠it
 h4:∀p∈X.pn++pins,p.1≠it
 h5:it∉frs X.stack
def Inv.mine(I:Inv X pins σ H s)(h:s.heap.objs.size<=it):Mine X pins H it :=
 have no:∀o,s.heap.get? it≠some o:=λo e=>absurd (Ï e) (Nat.not_lt.mpr h)
 ⟨I.hok.fresh h,Nat.ne_of_gt (æ I.lt h),þ I.sz h,λx c e z=>by
  obtain⟨v,o,ho,_⟩:=I.cell x c e
  exact no o (z ▸ ho),λp hp z=>no p.2 (z ▸ (I.pin p hp).1),λz=>by
  obtain⟨_,o,ho,_⟩:=I.stack.mem z
  exact no o ho⟩
def Inv.uL{h':Heap}{t':Nat}(I:Inv X pins σ H s)(m:Mine X pins H it)(k:∀b o,b≠it->s.heap.get? b=some o->h'.get? b=some o):Inv X pins σ H { s with heap:=h',toks:=t' }:=I.turned k m.h0 m.h1 (.inr m.h2) m.h3 m.h4
structure Gro(X:Cx)(ex:List Addr)(H:Hp)(h:Heap)(H1:Hp)(h1:Heap):Prop where
 sm:∀b o,H b=some o->H1 b=some o
 kp:∀b o,h.get? b=some o->H b=none->b≠X.env.locals->b∉frs X.stack->b∉ex->h1.get? b=some o/\H1 b=none
def Gro.trans{ex:List Addr}{H1 H2:Hp}{h h1 h2:Heap}(a:Gro X ex H h H1 h1)(b:Gro X ex H1 h1 H2 h2):Gro X ex H h H2 h2 :=
 ⟨λc o e=>b.sm c o (a.sm c o e),λc o e n l f x=>by
  obtain⟨e1,n1⟩:=a.kp c o e n l f x
  exact b.kp c o e1 n1 l f x⟩
def Gro.more{ex ex':List Addr}{H1:Hp}{h h1:Heap}(a:Gro X ex H h H1 h1)(k:∀b∈ex,b∈ex'):Gro X ex' H h H1 h1:=⟨a.sm,λc o e n l f x=>a.kp c o e n l f λz=>x (k c z)⟩
def Gro.mine{H1:Hp}{h h1:Heap}{o:Obj}(a:Gro X [] H h H1 h1)(m:Mine X pins H it)(e:h.get? it=some o):Mine X pins H1 it/\h1.get? it=some o:=by
 obtain⟨e1,n1⟩:=a.kp it o e m.h0 m.h1 m.h5 (λz=>nomatch z)
 exact⟨⟨n1,m.h1,m.h2,m.h3,m.h4,m.h5⟩,e1⟩
end
section
variable {X:Cx}{pins:List (Addr×Obj)}{σ:St}{H:Hp}{s:Shared}{A:Around}{a kS:Addr}{its:List Value}{vs:List V}{kz:List Int}{e e1:Nat}{P:PySem.Fin->Shared->Prop}{E:Value->Shared->Prop}{keys:Array Value}
def Gro.own{H1:Hp}{h h1 h2:Heap}{b:Addr}(g:Gro X [a,kS] H h H1 h1)(hb:b=a\/b=kS)(k:∀c o,c≠b->h1.get? c=some o->h2.get? c=some o):Gro X [a,kS] H h H1 h2:=⟨g.sm,λc o e n l f x=>by
 obtain⟨e1,n1⟩:=g.kp c o e n l f x
 refine⟨k c o (λz=>x ?_) e1,n1⟩
 rcases hb with rfl|rfl
 ·rw[z];exact Æ
 ·rw[z];exact Ã _ (Ô.mpr rfl)⟩
end
def Fw(f:Addr)(cl:List (Str×Addr)):List Addr:=f::cl.filterMap λq=>cl.lookup q.1
section
variable {X:Cx}{pins:List (Addr×Obj)}{σ:St}{H:Hp}{s:Shared}{f c':Addr}{qual:Str}{params:Arguments}{body:Expr}{scope:Scope}{cl:List (Str×Addr)}{ys:List Str}{cvs:List V}{pm ctv:Value}
def MK(J:Inv X pins σ H s)(hfo:s.heap.get? f=some (ź "<lambda>" qual params body scope cl pm c' ctv))(fn:H f=none)(nfs:f∉frs X.stack)(hfn:∀x,X.fn x=true)(hsub:∀x c,cl.lookup x=some c->X.env.cells.lookup x=some c)(hys:∀y∈ys,X.env.scope.names.lookup y=some .cell/\∃c,cl.lookup y=some c)(cl1:cvs.length=ys.length)(hcv:∀(j:Nat) (y:Str) (v:V),ys[j]?=some y->cvs[j]?=some v->∃i:Nat,X.N[i]?=some y/\σ[i]?=some (some v)) :
  Env0 X.prog X.w X.K X.mg (reb X.base s.heap (Fw f cl)) X.A X.stack s H/\(reb X.base s.heap (Fw f cl)).get? f=some (ź "<lambda>" qual params body scope cl pm c' ctv)/\Caps (reb X.base s.heap (Fw f cl)) cl ys cvs:=by
 have ncell:∀y c,X.env.cells.lookup y=some c->c∉frs X.stack:=λy c e z=>by
  rcases Ñ.mp (J.qM c z) with z|z
  ·exact J.cne y c e z
  ·obtain⟨_,o,ho,_⟩:=J.ok.kZ.mem z
   exact absurd (Ï ho) (Nat.not_lt.mpr (J.ok.cab y c (hfn y) e))
 have inL:∀y c,cl.lookup y=some c->c∈Fw f cl:=λy c e=>Ã _ (œ.mpr ⟨(y,c),ă e,e⟩)
 have hL:∀b∈Fw f cl,(H b=none/\b∉frs X.stack):=λb hb=>by
  rcases Ñ.mp hb with rfl|hb
  ·exact⟨fn,nfs⟩
  ·obtain⟨⟨y,c1⟩,_,e1⟩:=œ.mp hb
   have e2:=hsub y b e1
   exact⟨J.freeC y b e2,ncell y b e2⟩
 have cellB:∀y c w,cl.lookup y=some c->s.heap.IsCell c w->(reb X.base s.heap (Fw f cl)).IsCell c w:=λy c w e ⟨o,ho,hd⟩=>⟨o,vK ho (inL y c e),hd⟩
 refine⟨J.env0.reb (λb hb=>(hL b hb).1) λb hb=>(hL b hb).2,vK hfo Æ,⟨cl1,λy c e=>?_,λj y w h1 h2=>?_⟩⟩
 ·obtain⟨w,hw⟩:=J.cell y c (hsub y c e)
  exact⟨w,cellB y c w e hw⟩
 ·obtain⟨i,n1,n2⟩:=hcv j y w h1 h2
  obtain⟨k1,c,e⟩:=hys y (Î h1)
  obtain⟨m,_,hl⟩:=J.loc
  obtain⟨u',rv,l⟩:=hl i y w n1 n2 (.inr (.inl k1))
  rcases l with ⟨k2,_⟩|⟨_,c2,e2,hc⟩
  ·have k2:X.env.scope.names.lookup y=some .local:=k2
   rw[k1] at k2;cases k2
  ·rw[hsub y c e] at e2
   cases e2
   exact⟨c,u',e,cellB y c _ e hc,rv⟩
end
section
variable {X:Cx}{k:Nat}{c P:Addr}{ps ys:List Str}{spL:List V->Addr->Sp}{p pos lpos kp:Pos}{e:Expr}{te:TE}{qual:Str}{params:Arguments}{body:Expr}{scope:Scope}{cl:List (Str×Addr)}
end
end L2
namespace Dl
open PySem L2 PyProof.Rows
section
variable {K:Ú}{N:List Str}{P:Addr}{lpos:Pos}{qual y:Str}{i:Nat}{gk:D->D->Int->Prop}{te:DE}
end
end Dl
namespace L2
open PySem PySem.Spec PyProof.Rows
def Gn(a v:Value):argsOk "max" ⟨[a],[(ç "key",v)]⟩:=by unfold argsOk;kernel_rfl
def jN(kz:List Int):Nat:=argBest (λi j=>decide (kz.getD i 0 > kz.getD j 0)) (kz.length - 1)
def xG{prog:Program}{w:World}{A:Around}{E:Value->Shared->Prop}{s:Shared}{id:String}{b:Builtin}{args:List Value}{kw:List (Str×Value)}{Q:Value->Shared->Prop}(hk:builtinKind id=none)(hp:plainId id=true)(hb:entryFor table id=some b)(ha:argsOk id ⟨args,kw⟩)(hc:wpAny (model prog w) A.in1 (b ⟨args,kw⟩) (λfin s'=>match fin with
   |.done f=>(match (Except.ok f:Result) with|.ok (.ret v)=>Q v s'|.ok _=>False|.error e=>E e s')
   |.again c'=>c'.quiet=true/\codeAny (model prog w) A c' (λr s'=>match r with|.ok (.ret v)=>Q v s'|.ok _=>False|.error e=>E e s') s') E s) :
  wpAny (model prog w) A (call (.builtin id) args kw) Q E s:=by
 refine wpAny_call (codeAny_call_builtin hp hb ?_)
 simp only[checkBuiltinCall,hk]
 cases hsig:Manifest.signature? id with
 |none=>exact Ø hc
 |some sig =>
  have ha':Bind.checkArgs id sig ⟨args,kw⟩=pure ():=by simpa only[argsOk,hsig] using ha
  simp only[ha']
  exact Ø hc
section
variable {X:Cx}{pins:List (Addr×Obj)}{σ:St}{H:Hp}{s:Shared}{A:Around}{l I S:Addr}{vs:List V}{kz:List Int}{f:Value}{R:Result->Shared->Prop}
def SqL.mono{K:Ú}{H H':Hp}{a:Addr}{xs:List V}(h:SqL K H a xs)(s:∀b o,H b=some o->H' b=some o):SqL K H' a xs:=by
 rcases h with (h|⟨o,h⟩)|h
 ·exact .inl (.inl (s _ _ h))
 ·exact .inl (.inr ⟨o,s _ _ h⟩)
 ·exact .inr h
structure MxK(X:Cx)(pins:List (Addr×Obj))(σ:St)(H:Hp)(h:Heap)(l I S:Addr)(j:Nat)(H1:Hp)(s1:Shared):Prop where
 inv:Inv X pins σ H1 s1
 g:Gro X [I,S] H h H1 s1.heap
 mi:Mine X pins H1 I
 ms:Mine X pins H1 S
 it:s1.heap.IsListIter I l j
abbrev Pj(X:Cx)(pins:List (Addr×Obj))(σ:St)(H:Hp)(h:Heap)(I S:Addr)(A:Around)(f:Value)(vs:List V)(kz:List Int):Prop:=∀(i:Nat) (v:V) (u:Value) (k:Int) (H1:Hp) (s1:Shared),vs[i]?=some v->kz[i]?=some k->RelV v u->Inv X pins σ H1 s1->Gro X [I,S] H h H1 s1.heap->wpAny (model X.prog X.w) A.in1 (call f [u]) (λr s2=>(∃t,r=Ō k t)/\∃H2,Inv X pins σ H2 s2/\Gro X [] H1 s1.heap H2 s2.heap) (λ_ _=>False) s1
def Mj{fa:Addr}(hh:A.in1.handled=none)(hl:SqL X.K H l vs)(lI:l≠I)(lS:l≠S)(IS:I≠S)(hlen:kz.length=vs.length)(turn:Pj X pins σ H s.heap I S A (.ref fa) vs kz)(hR:∀(H2:Hp) (s2:Shared) (v:V) (u:Value),vs[jN kz]?=some v->RelV v u->Inv X pins σ H2 s2->Gro X [I,S] H s.heap H2 s2.heap->R (.ok (.ret u)) s2) :
  ∀(d j:Nat) (H1:Hp) (s1:Shared) (vb:Value) (v0:V) (k0:Int) (t:Tok) (c:Nat),vs.length - (j+1)=d->j+1<=vs.length->MxK X pins σ H s.heap l I S (j+1) H1 s1->vs[argBest (λi j=>decide (kz.getD i 0 > kz.getD j 0)) j]?=some v0->kz[argBest (λi j=>decide (kz.getD i 0 > kz.getD j 0)) j]?=some k0->RelV v0 vb ->
   s1.heap.get? S=some (seqObj "list" #[vb,.int k0 t] c)->codeAny (model X.prog X.w) A (.builtin "max.loop" ⟨[.ref I,.ref fa,.ref S],[]⟩) R s1:=by
 have hname:(toString "max"++toString ".loop":String)="max.loop":=by decide
 intro d
 induction d with
 |zero =>
  intro j H1 s1 vb v0 k0 t c hd hj M hv hk rv hS
  obtain⟨its,rvs,pl,hz⟩:=M.inv.list (hl.mono M.g.sm)
  have li:=rvs.length
  refine ő F.entry_max_loop ?_
  rw[Ņ Ū _]
  show wpAny _ A.in1 (seqItems? (.ref S) >>= _) _ _ s1
  refine Ä (wpAny_seqItems hS rfl ?_)
  show wpAny _ A.in1 (tryCatch (pyNext (.ref I)) _ >>= _) _ _ s1
  have W:=Walks.list (prog:=X.prog) (w:=X.w) hh I l lI its.toArray
  refine Ä (wpAny_tryCatch (W.done s1 _ _ ⟨by rw[Í,←li,show vs.length=j+1 by omega];exact M.it,pl.isList⟩ λh' tk hk'=>?_))
  have hS':=hk' S _ (by simp[IS.symm]) hS
  show wpAny _ A.in1 (updateSeq S (λ_=>#[]) >>= _) _ _ _
  refine Ä (Ž hS' rfl (Ä (wpAny_letGo (Ø ?_))))
  have u2:=Heap.SameBut.update h' S (Ý λ_=>(#[]:Array Value))
  have k1:∀b o,b≠I->s1.heap.get? b=some o->h'.get? b=some o:=λb o n e=>hk' b o (by simp[n]) e
  have ej:j=kz.length - 1:=by omega
  have I1:=M.inv.uL (t':=tk) M.mi k1
  have I2:=I1.uL (t':=tk) M.ms λb o n e=>(u2.2 b n).trans e
  rw[ej] at hv
  exact hR H1 _ v0 vb hv rv I2 ((M.g.own (.inl rfl) k1).own (.inr rfl) λb o n e=>(u2.2 b n).trans e)
 |succ d ih =>
  intro j H1 s1 vb v0 k0 t c hd hj M hv hk rv hS
  obtain⟨its,rvs,pl,hz⟩:=M.inv.list (hl.mono M.g.sm)
  have li:=rvs.length
  have hlt:j+1<vs.length:=by omega
  refine ő F.entry_max_loop ?_
  rw[Ņ Ū _]
  show wpAny _ A.in1 (seqItems? (.ref S) >>= _) _ _ s1
  refine Ä (wpAny_seqItems hS rfl ?_)
  show wpAny _ A.in1 (tryCatch (pyNext (.ref I)) _ >>= _) _ _ s1
  have W:=Walks.list (prog:=X.prog) (w:=X.w) hh I l lI its.toArray
  refine Ä (wpAny_tryCatch (W.item (j+1) s1 _ _ (by rw[Í];omega) ⟨M.it,pl.isList⟩ λx h' tk hx st' hk'=>?_))
  have hS':=hk' S _ (by simp[IS.symm]) hS
  have k1:∀b o,b≠I->s1.heap.get? b=some o->h'.get? b=some o:=λb o n e=>hk' b o (by simp[n]) e
  have I1:=M.inv.uL (t':=tk) M.mi k1
  have g1:=M.g.own (.inl rfl) k1
  have hvj:vs[j+1]?=some vs[j+1]:=Ç hlt
  have hkj:kz[j+1]?=some (kz[j+1]'(by omega)):=Ç (by omega)
  obtain⟨x',ex,rx⟩:=rvs.get hvj
  have hx:its[j+1]?=some x:=by simpa using hx
  rw[hx] at ex
  cases ex
  show wpAny _ A.in1 (tryCatch (holding [x] (call (.ref fa) [x])) _ >>= _) _ _ _
  refine Ä (wpAny_tryCatch (Ė (ň (turn (j+1) _ x _ H1 _ hvj hkj rx I1 g1) (λr s2 he=>?_) λ_ _ hF=>hF.elim)))
  obtain⟨⟨t2,rfl⟩,H2,I2,g2⟩:=he
  obtain⟨oI,hoI,oc,od⟩:=st'.1
  obtain⟨mi2,hI2⟩:=g2.mine M.mi hoI
  obtain⟨ms2,hS2⟩:=g2.mine M.ms hS'
  have G2:=g1.trans (g2.more λb z=>nomatch z)
  show wpAny _ A.in1 (tryCatch (holding [x,.int _ t2] (richCompare .Gt (.int _ t2) (.int k0 t) >>= _)) _ >>= _) _ _ _
  refine Ä (wpAny_tryCatch (Ė (Ä (CmpOf.ints_gt (P:=λi v=>∃t,v=.int (kz.getD i 0) t) (λi=>kz.getD i 0) (λi v h=>h) (j+1) (argBest (λi j=>decide (kz.getD i 0 > kz.getD j 0)) j) _ _ _ _ _ ⟨t2,by rw[Ð,hkj];rfl⟩ ⟨t,by rw[Ð,hk];rfl⟩ ?_))))
  refine Ä (Ė (Ĩ ?_))
  refine Ä (wpAny_letGo (Ø ?_))
  cases hb:decide (kz.getD (j+1) 0 > kz.getD (argBest (λi j=>decide (kz.getD i 0 > kz.getD j 0)) j) 0) with
  |true =>
   have eb:argBest (λi j=>decide (kz.getD i 0 > kz.getD j 0)) (j+1)=j+1:=by simp only[argBest,hb,if_true]
   rw[if_pos hb]
   refine Ä (Ž hS2 rfl (Ä (wpAny_letGo ?_)))
   rw[hname]
   have u2:=Heap.SameBut.update s2.heap S (Ý λ_=>#[x,.int (kz[j+1]'(by omega)) t2])
   exact Ø ⟨plainId_quiet Ū _,ih (j+1) H2 _ x vs[j+1] _ t2 _ (by omega) hlt
    ⟨I2.uL (t':=s2.toks) ms2 λb o n e=>(u2.2 b n).trans e,G2.own (.inr rfl) λb o n e=>(u2.2 b n).trans e,mi2,ms2,⟨oI,(u2.2 I IS).trans hI2,oc,od⟩⟩ (by rw[eb] <;> exact hvj) (by rw[eb] <;> exact hkj) rx (get?_update_seq hS2 _)⟩
  |false =>
   have eb:argBest (λi j=>decide (kz.getD i 0 > kz.getD j 0)) (j+1)=argBest (λi j=>decide (kz.getD i 0 > kz.getD j 0)) j:=by simp only[argBest,hb,Ĭ,if_false]
   rw[if_neg (λz=>Ò (hb.symm.trans z))]
   refine Ä (wpAny_letGo ?_)
   rw[hname]
   exact Ø ⟨plainId_quiet Ū _,ih (j+1) H2 _ vb v0 k0 t c (by omega) hlt ⟨I2,G2,mi2,ms2,⟨oI,hI2,oc,od⟩⟩ (by rw[eb] <;> exact hv) (by rw[eb] <;> exact hk) rv hS2⟩
def Jq{fa:Addr}(hh:A.in1.handled=none)(hl:SqL X.K H l vs)(lI:l≠I)(lS:l≠S)(IS:I≠S)(hlen:kz.length=vs.length)(h0:1<=vs.length)(turn:Pj X pins σ H s.heap I S A (.ref fa) vs kz)(hR:∀(H2:Hp) (s2:Shared) (v:V) (u:Value),vs[jN kz]?=some v->RelV v u->Inv X pins σ H2 s2->Gro X [I,S] H s.heap H2 s2.heap->R (.ok (.ret u)) s2){H1:Hp}{s1:Shared}{c:Nat}(M:MxK X pins σ H s.heap l I S 0 H1 s1)(hS:s1.heap.get? S=some (seqObj "list" #[] c)) :
  codeAny (model X.prog X.w) A (.builtin "max.loop" ⟨[.ref I,.ref fa,.ref S],[]⟩) R s1:=by
 have hname:(toString "max"++toString ".loop":String)="max.loop":=by decide
 obtain⟨its,rvs,pl,hz⟩:=M.inv.list (hl.mono M.g.sm)
 have li:=rvs.length
 refine ő F.entry_max_loop ?_
 rw[Ņ Ū _]
 show wpAny _ A.in1 (seqItems? (.ref S) >>= _) _ _ s1
 refine Ä (wpAny_seqItems hS rfl ?_)
 show wpAny _ A.in1 (tryCatch (pyNext (.ref I)) _ >>= _) _ _ s1
 have W:=Walks.list (prog:=X.prog) (w:=X.w) hh I l lI its.toArray
 refine Ä (wpAny_tryCatch (W.item 0 s1 _ _ (by rw[Í];omega) ⟨M.it,pl.isList⟩ λx h' tk hx st' hk'=>?_))
 have hS':=hk' S _ (by simp[IS.symm]) hS
 have k1:∀b o,b≠I->s1.heap.get? b=some o->h'.get? b=some o:=λb o n e=>hk' b o (by simp[n]) e
 have I1:=M.inv.uL (t':=tk) M.mi k1
 have g1:=M.g.own (.inl rfl) k1
 have hvj:vs[0]?=some vs[0]:=Ç (by omega)
 have hkj:kz[0]?=some (kz[0]'(by omega)):=Ç (by omega)
 obtain⟨x',ex,rx⟩:=rvs.get hvj
 have hx:its[0]?=some x:=by simpa using hx
 rw[hx] at ex
 cases ex
 show wpAny _ A.in1 (tryCatch (holding [x] (call (.ref fa) [x])) _ >>= _) _ _ _
 refine Ä (wpAny_tryCatch (Ė (ň (turn 0 _ x _ H1 _ hvj hkj rx I1 g1) (λr s2 he=>?_) λ_ _ hF=>hF.elim)))
 obtain⟨⟨t2,rfl⟩,H2,I2,g2⟩:=he
 obtain⟨oI,hoI,oc,od⟩:=st'.1
 obtain⟨mi2,hI2⟩:=g2.mine M.mi hoI
 obtain⟨ms2,hS2⟩:=g2.mine M.ms hS'
 have G2:=g1.trans (g2.more λb z=>nomatch z)
 show wpAny _ A.in1 (updateSeq S (λ_=>#[x,.int _ t2]) >>= _) _ _ _
 refine Ä (Ž hS2 rfl ?_)
 rw[hname]
 have u2:=Heap.SameBut.update s2.heap S (Ý λ_=>#[x,.int (kz[0]'(by omega)) t2])
 exact Ø ⟨plainId_quiet Ū _,Mj hh hl lI lS IS hlen turn hR _ 0 H2 _ x vs[0] _ t2 _ rfl h0
  ⟨I2.uL (t':=s2.toks) ms2 λb o n e=>(u2.2 b n).trans e,G2.own (.inr rfl) λb o n e=>(u2.2 b n).trans e,mi2,ms2,⟨oI,(u2.2 I IS).trans hI2,oc,od⟩⟩ hvj hkj rx (get?_update_seq hS2 _)⟩
def QW{fa:Addr}{Q:Value->Shared->Prop}{E:Value->Shared->Prop}(hh:A.in1.handled=none)(I0:Inv X pins σ H s)(hl:SqL X.K H l vs)(hlen:kz.length=vs.length)(h0:1<=vs.length)(turn:∀(ex:List Addr) (i:Nat) (v:V) (u:Value) (k:Int) (H1:Hp) (s1:Shared),(∀b∈ex,s.heap.objs.size<=b)->vs[i]?=some v->kz[i]?=some k->RelV v u->Inv X pins σ H1 s1->Gro X ex H s.heap H1 s1.heap->wpAny (model X.prog X.w) A.in1 (call (.ref fa) [u]) (λr s2=>(∃t,r=Ō k t)/\∃H2,Inv X pins σ H2 s2/\Gro X [] H1 s1.heap H2 s2.heap) (λ_ _=>False) s1)(h:∀(ex:List Addr) (H2:Hp) (s2:Shared) (v:V) (u:Value),(∀b∈ex,s.heap.objs.size<=b)->vs[jN kz]?=some v->RelV v u->Inv X pins σ H2 s2->Gro X ex H s.heap H2 s2.heap->Q u s2) :
  wpAny (model X.prog X.w) A (call (.builtin "max") [.ref l] [(ç "key",.ref fa)]) Q E s:=by
 have hname:(toString "max"++toString ".loop":String)="max.loop":=by decide
 obtain⟨its,rvs,pl,hz⟩:=I0.list hl
 have hlt:l<s.heap.objs.size:=by obtain⟨o,ho,_⟩:=pl.isList;exact Ï ho
 refine xG F.kind_max F.plain_max F.entry_max (Gn _ _) ?_
 show wpAny _ A.in1 (Builtin.Builtins.bindParams "max" ["key","default"] 0 ⟨[],[(ç "key",.ref fa)]⟩ >>= _) _ _ s
 refine Ä (wpAny_of_eq (show Builtin.Builtins.bindParams "max" ["key","default"] 0 ⟨[],[(ç "key",.ref fa)]⟩=pure [some (.ref fa),none] from rfl) ?_)
 refine Ä (Ø ?_)
 refine Ä (wpAny_pyIter_list pl.isList ?_)
 refine Ä (wpAny_newObj_type ?_)
 have kp:∀b o,s.heap.get? b=some o->((s.heap.push { cls:=.type "list_iterator",data:=.fields #[.ref l,.int 0 0] }).push { cls:=.type "list",data:=.seq #[] }).get? b=some o:=λb o e=>Ó _ (Ó _ e)
 have sz:(s.heap.push { cls:=.type "list_iterator",data:=.fields #[.ref l,.int 0 0] }).objs.size=s.heap.objs.size+1:=size_push' ..
 have I1:Inv X pins σ H { s with heap:=(s.heap.push { cls:=.type "list_iterator",data:=.fields #[.ref l,.int 0 0] }).push { cls:=.type "list",data:=.seq #[] } }:=I0.kept (t':=s.toks) kp
 rw[hname,sz]
 have exs:∀b∈[s.heap.objs.size,s.heap.objs.size+1],s.heap.objs.size<=b:=λb hb=>by
  rcases Ñ.mp hb with rfl|hb
  ·exact Ì _
  ·rw[Ô.mp hb];exact Ĺ _
 refine Ø ⟨plainId_quiet Ū _,Jq (H:=H) (s:=s) hh hl (â hlt) (â (ċ hlt)) (â (Ũ _)) hlen h0 (λi v u k H1 s1 a1 a2 a3 a4 a5=>turn _ i v u k H1 s1 exs a1 a2 a3 a4 a5) (λH2 s2 v u a1 a2 a3 a4=>h _ H2 s2 v u exs a1 a2 a3 a4)
  ⟨I1,⟨λ_ _ e=>e,λb o e n _ _ _=>⟨kp b o e,n⟩⟩,I0.mine (Ì _),I0.mine (Ĺ _),⟨_,Ó _ (ä _ rfl),rfl,rfl⟩⟩ (c:=0) ?_⟩
 exact(congrArg _ sz.symm).trans (ä _ rfl)
end
def Ce(K:Ú)(N:List Str)(P:Addr)(lpos:Pos)(qual:Str)(ys:List Str)(spL:List V->Addr->Sp)(te:TE):TE:=λσ H Q=>te σ H λv H1=>lN P lpos qual H1 /\
 ∃(l:Addr) (vs:List V) (kz:List Int) (cvs:List V),v=.ref l/\SqL K H1 l vs/\kz.length=vs.length/\1<=vs.length/\cvs.length=ys.length/\(∀(j:Nat) (y:Str) (v:V),ys[j]?=some y->cvs[j]?=some v->∃i:Nat,N[i]?=some y/\σ[i]?=some (some v)) /\
  ∀c' H2,lN P lpos qual H2->qp H2 c' qual->(∀b o,H1 b=some o->b≠P->H2 b=some o) ->
   (∀(i:Nat) (v:V) (k:Int) (H3:Hp),vs[i]?=some v->kz[i]?=some k->(∀b o,H2 b=some o->H3 b=some o)->spL cvs c' [v] H3 (λr H4=>r=.int k/\∀b o,H3 b=some o->H4 b=some o) E0) /\
   ∀(v:V) (H3:Hp),vs[jN kz]?=some v->(∀b o,H2 b=some o->H3 b=some o)->Q v H3
section
variable {X:Cx}{k:Nat}{c P:Addr}{ps ys:List Str}{spL:List V->Addr->Sp}{p pos lpos kp:Pos}{e:Expr}{te:TE}{qual:Str}{params:Arguments}{body:Expr}{scope:Scope}{cl:List (Str×Addr)}
def Ey(FL:∀(cvs:List V) (base':Heap) (f c':Addr) (pm ctv:Value),cvs.length=ys.length->base'.get? f=some (ź "<lambda>" qual params body scope cl pm c' ctv)->Caps base' cl ys cvs->∃fd,FnOk X.prog X.w X.K X.mg base' CX0 k f fd ps (spL cvs c')/\Binds X.K fd ps [])(hr:Room k X.A.in1)(hd:X.A.in1.handled=none)(hg:Gl X "max")(hm:X.mg "max"=none)(ha:PE X e te)(hq:X.env.qual++"<lambda>"=qual)(hdef:defaultsOf params X.env=([],[]))(hcl:closureFor scope X.env=pure cl)(hcode:X.env.code=.ref c)(hC:X.K.In X.base->W.CodeHd X.base c P)(hB:X.K.In X.base->X.base.BuiltinsAt X.mg P)(hfn:∀x,X.fn x=true)(hsub:∀x c,cl.lookup x=some c->X.env.cells.lookup x=some c)(hys:∀y∈ys,X.env.scope.names.lookup y=some .cell/\∃c,cl.lookup y=some c)(he:zS X e []:=by rfl) :
  PE X (.Call (.Name "max" p) [e] [⟨some "key",.Lambda params body scope lpos,kp⟩] pos) (Ce X.K X.N P lpos qual ys spL te):=by
 intro pins s σ H Q I h
 have hv:bootBuiltins "max"=some (.builtin "max"):=boot_max
 refine Ŋ (jK I hg hm hv ?_ (by decide) (by decide))
 refine callWith_kw ?_ (by rw[he];rfl) (by rw[he];rfl)
 rw[he]
 show wpAny _ _ (spliced [(false,eval e X.env)]) _ _ s
 refine Calls.spliced_cons (thn (ha pins s σ H _ I h) λu s1 ⟨v,H1,I1,r1,T1,l,vs,kz,cvs,ev,hl,hlen,h0,cl1,hcv,q1⟩=>Calls.spliced_nil ?_)
 subst ev
 cases r1
 refine kws_cons (uK I1 hq hdef hcl hcode hC hB T1 λf c' ctv pm s2 H2 J T2 kn fn hfo nfs kp kb=>kws_nil ?_)
 have Q2:=q1 c' H2 T2 kn kp
 have hfs:f<s2.heap.objs.size:=Ï hfo
 have hl2:SqL X.K H2 l vs:=by
  obtain⟨ps,hP,_⟩:=T1
  rcases hl with (hl|⟨o,hl⟩)|hl
  ·exact .inl (.inl (kp l _ hl λz=>by rw[z,hP] at hl;cases hl))
  ·exact .inl (.inr ⟨o,kp l _ hl λz=>by rw[z,hP] at hl;cases hl⟩)
  ·exact .inr hl
 refine QW hd J hl2 hlen h0 (λex i v u k H3 s3 hex hv hk ru J3 g=>?_) λex H3 s3 v u hex hv ru J3 g=>?_
 ·obtain⟨ho3,n3⟩:=g.kp f _ hfo fn (λz=>by
   obtain⟨m,⟨o,es,ep,ho,hd,_⟩,_⟩:=J.loc
   rw[←z,hfo] at ho
   cases ho
   cases hd) nfs λz=>absurd (hex f z) (Nat.not_le.mpr hfs)
  obtain⟨e0,lkf,C⟩:=MK J3 ho3 n3 nfs hfn hsub hys cl1 hcv
  obtain⟨fd,FF,hb⟩:=FL cvs _ f c' pm ctv cl1 lkf C
  have hsp:=Q2.1 i v k H3 hv hk g.sm
  have hl1:[u].length=ps.length:=FF.len _ _ _ _ hsp
  refine wpAny_call (codeAny_mono (FF.run X.A.in1 X.stack s3 H3 ⟨[u],[]⟩ [u] [v] _ E0 hr e0.in1 ?_ (.cons ru .nil) hsp) λr s' hq=>?_)
  ·have:=hb s3 [u] J3.kIn (by rw[ð];exact hl1)
   rw[ð] at this
   exact this
  ·cases r with
   |error e=>exact hq.elim
   |ok fl =>
    cases fl with
    |ret u =>
     obtain⟨v',H4,os,bare,un,hok,rv',e',sm⟩:=hq
     subst e'
     obtain⟨t,rfl⟩:=rv'
     obtain⟨hh,g',d,t',os'⟩:=s'
     obtain rfl:os'=s3.os:=os
     exact⟨⟨t,rfl⟩,H4,J3.call (h':=hh) (g':=g') (d':=d) (t':=t') (ch:=[]) un hok bare (λb z=>absurd z (by simp)),⟨sm,λb o e n _ nf _=>⟨un.keep b o e n nf (by simp),un.free b o e n (by simp)⟩⟩⟩
    |next=>exact ĵ hq
    |brk=>exact ĵ hq
    |cont=>exact ĵ hq
 ·exact⟨v,H3,J3,ru,Q2.2 v H3 hv g.sm⟩
end
def lK{x:Str}{c:Addr}{l:List (Str×Addr)}:List.lookup x ((x,c)::l)=some c:=by rw[Ċ,beq_self_eq_true]
def qd{x y:Str}{c:Addr}{l:List (Str×Addr)}(h:(x == y)=false):List.lookup x ((y,c)::l)=List.lookup x l:=by rw[Ċ,h]
def Q5{x:Str}{cl:List (Str×Addr)}(h:x∈cl.map (·.1)):∃c,cl.lookup x=some c:=by
 induction cl with
 |nil=>cases h
 |cons p l ih =>
  obtain⟨y,c⟩:=p
  rw[Ċ]
  cases e:x == y with
  |true=>exact⟨c,rfl⟩
  |false =>
   rw[à] at h
   rcases Ñ.mp h with h|h
   ·rw[h] at e;simp at e
   ·exact ih h
def JH{α:Type}{l:List α}(h:l.Nodup):∀{i j:Nat}{x:α},l[i]?=some x->l[j]?=some x->i=j:=λ{i j x} a b=>by
 have la:=(Ê.mp a)
 have lb:=(Ê.mp b)
 rcases Nat.lt_trichotomy i j with z|z|z
 ·exact absurd (la.2.trans lb.2.symm) (Ŕ.mp h i j la.1 lb.1 z)
 ·exact z
 ·exact absurd (lb.2.trans la.2.symm) (Ŕ.mp h j i lb.1 la.1 z)
def LamScope.of{ps ys:List Str}{sc:Scope}{cl:List (Str×Addr)}(kind:sc.kind=.function)(co:sc.isCoroutine=false)(gen:sc.isGenerator=false)(nd:(ps++ys).Nodup)(par:∀x∈ps,sc.names.lookup x=some .local)(fre:∀y∈ys,sc.names.lookup y=some .free)(nocell:∀x∈sc.names,x.2≠.cell)(all:∀y∈sc.names,y.2=.free->y.1∈cl.map (·.1))(inj:(cl.map (·.2)).Nodup):LamScope ps ys sc cl :=
 ⟨kind,co,gen,nd,par,fre,nocell,λx h=>Q5 (all _ (ă h) rfl),λx y c h1 h2=>by
  obtain⟨i,hi⟩:=Ş (ă h1)
  obtain⟨j,hj⟩:=Ş (ă h2)
  have a:(cl.map (·.2))[i]?=some c:=by rw[ß,hi];rfl
  have b:(cl.map (·.2))[j]?=some c:=by rw[ß,hj];rfl
  have li:=(Ê.mp a)
  have lj:=(Ê.mp b)
  have e:i=j:=JH inj a b
  subst e
  rw[hi] at hj
  cases hj
  rfl⟩
def G4{cl cs:List (Str×Addr)}(h:∀p∈cl,cs.lookup p.1=some p.2):∀x c,cl.lookup x=some c->cs.lookup x=some c:=λx c e=>h (x,c) (ă e)
end L2
namespace Dl
open PySem L2 PyProof.Rows
def G5{T1 T2:Pn}(ap:Apart T1 T2){f:List D->(D->Prop)->Prop}:∀vs H Q E,spT (T1.plus T2) f vs H Q E->spT T1 f vs H Q E:=by
 rintro vs H Q E ⟨ds,P,pi,r,t,k⟩
 refine⟨ds,P,pi.1,r.mono (λa o z=>o (.inl z)) (λ_ _ _ e=>e) (λ_ _ e=>e),t,λd v H' hP kp pi' rp=>k d v H' hP (λb o e n=>kp b o e λz=>n (.inl z)) ⟨pi',T2.mono H H' pi.2 λb o z e=>kp b o e λy=>?_⟩ rp⟩
 rcases z with z|z
 ·exact ap H pi.1 pi.2 b y z
 ·exact Jm pi.1 e z y
def Cal.TQ{P:Program}{w:World}{K:Ú}{mg:Str->Option Value}{base:Heap}{k:Nat}{x:Str}{ps:List Str}{T1 T2:Pn}(ap:Apart T1 T2){f:List D->(D->Prop)->Prop}(c:Cal P w K mg base k x ps (spT T1 f)):Cal P w K mg base k x ps (spT (T1.plus T2) f):=by
 obtain⟨g,fd,F,r⟩:=c.ex
 exact⟨g,fd,F.imp (G5 ap),r⟩
def tE{P1 P2:Addr}{q1 q2:Pos}{u1 u2:Str}(h:P1≠P2):Apart (oZ P1 q1 u1) (oZ P2 q2 u2):=λH _ _ b h1 h2=>by
 have h1:b=P1:=h1
 have h2:b=P2:=h2
 exact h (h1.symm.trans h2)
def Qa(qual:Str)(gk:List D->D->Int->Prop):List V->Addr->Sp:=λcvs c' vs H Q _=>qp H c' qual/\∃(v1:V) (dcs:List D) (dx:D) (k:Int),vs=[v1]/\Rps (λ_=>False) H cvs dcs/\Rp (λ_=>True) H v1 dx/\gk dcs dx k/\∀H',(∀b o,H b=some o->H' b=some o)->Q (.int k) H'
def tMX(is:List Nat)(gk:List D->D->Int->Prop)(te:DE):DE:=λρ P=>te ρ λk d=>∃(ds:List D) (kz:List Int) (dcs:List D),d=.list ds/\is.map (λi=>ρ[i]?)=dcs.map (λdc=>some (.im dc))/\kz.length=ds.length/\1<=ds.length /\
 (∀(j:Nat) (x:D) (c:Int),ds[j]?=some x->kz[j]?=some c->gk dcs x c)/\∀x,ds[jN kz]?=some x->P k x
def Ef[Gr]{p:Pn}{H0 H:Hp}{own:Addr->Option Nat}{σ:L2.St}{ρ:List Sl}(E:EnvD p H0 own σ H ρ):∀(is:List Nat) (dcs:List D),is.map (λi=>ρ[i]?)=dcs.map (λdc=>some (Sl.im dc))->∃cvs:List V,cvs.length=is.length/\Rps (λ_=>False) H cvs dcs/\∀(j i:Nat) (v:V),is[j]?=some i->cvs[j]?=some v->σ[i]?=some (some v)
 |[],[],_=>⟨[],rfl,.nil,λj i v h=>(nomatch h)⟩
 |i::is,dc::dcs,h=>by
  injection h with h1 h2
  obtain⟨cvs,a,b,c⟩:=Ef E is dcs h2
  obtain⟨v,e,r⟩:=E.slot i _ h1
  refine⟨v::cvs,by rw[ã,ã,a],.cons r b,λj i' v' e1 e2=>?_⟩
  cases j with
  |zero=>cases e1;cases e2;exact e
  |succ j=>exact c j i' v' e1 e2
 |[],_::_,h=>by cases h
 |_::_,[],h=>by cases h
section
variable {K:Ú}{N:List Str}{P:Addr}{lpos:Pos}{qual:Str}{ys:List Str}{is:List Nat}{gk:List D->D->Int->Prop}{te:DE}{T1:Pn}
def Mx(ap:Apart T1 (oZ P lpos qual))(hy:is.map (λi=>N[i]?)=ys.map some):∀σ H Q,@bx (grU (T1.plus (oZ P lpos qual))) (tMX is gk te) σ H Q->Ce K N P lpos qual ys (Qa qual gk) (@bx (grU (T1.plus (oZ P lpos qual))) te) σ H Q:=by
 letI:=grU (T1.plus (oZ P lpos qual))
 rintro σ H Q ⟨q,H0,own,ρ,P',E,t,kq⟩
 have eq:q=T1.plus (oZ P lpos qual):=E.gr
 subst eq
 refine⟨_,H0,own,ρ,_,E,t,λk d v H1 hd A r=>?_⟩
 obtain⟨ds,kz,dcs,rfl,hi,hlen,h0,hk,hP⟩:=hd
 obtain⟨c,vs,rfl,o,hc,rs⟩:=r.bR
 have T1':lN P lpos qual H1:=A.pen.2
 have ntup:∀{H:Hp},lN P lpos qual H->∀a xs,H a=some (.tup xs)->a≠P:=λ{H} T a xs e z=>by
  obtain⟨ps,hp,_⟩:=T
  rw[z,hp] at e
  cases e
 obtain⟨cvs,c1,c2,c3⟩:=Ef E is dcs hi
 have ll:=rs.length
 have ly:is.length=ys.length:=by have:=congrArg List.length hy;rwa [Á,Á] at this
 refine⟨T1',c,vs,kz,cvs,rfl,SqL.of hc,by omega,by omega,c1.trans ly,λj y v h1 h2=>?_,λc' H2 T2 kn kp=>⟨λj v k' H3 hv hkz sm=>?_,λv H3 hv sm=>?_⟩⟩
 ·have e1:(is.map λi=>N[i]?)[j]?=some (some y):=by rw[hy,ß,h1];rfl
  rw[ß] at e1
  obtain⟨i,ei,en⟩:=Option.map_eq_some_iff.mp e1
  exact⟨i,en,c3 j i v ei h2⟩
 ·obtain⟨x,φ,kx,cx⟩:=kn
  have hj:j<ds.length:=by rw[←ll];exact(Ê.mp hv).1
  obtain⟨v1,e1,r1⟩:=rs.getD (Ç hj)
  rw[hv] at e1
  cases e1
  refine⟨⟨x,φ,sm _ _ kx,cx⟩,v,dcs,ds[j],k',rfl,?_,?_,hk j _ _ (Ç hj) hkz,λH' sm'=>⟨rfl,sm'⟩⟩
  ·exact c2.mono (λ_ o=>o) (λ_ _ o=>o.elim) λa xs e=>sm _ _ (kp _ _ (gG E.at A.kp a xs e) (ntup T1' a xs (gG E.at A.kp a xs e)))
  ·exact r1.mono (λ_ _=>trivial) (λa o n e=>sm _ _ (kp _ _ e λz=>j8 A n (.inr z))) λa xs e=>sm _ _ (kp _ _ e (ntup T1' a xs e))
 ·have k13:Kp (T1.plus (oZ P lpos qual)) H1 H3:=λb o e n=>sm _ _ (kp _ _ e λz=>n (.inr z))
  have i3:(T1.plus (oZ P lpos qual)).PI H3:=by
   refine⟨T1.mono H1 H3 A.pen.1 λb o z e=>sm _ _ (kp _ _ e ?_),(oZ P lpos qual).mono H2 H3 T2 λb o _ e=>sm b o e⟩
   rcases z with z|z
   ·exact λy=>ap H1 A.pen.1 A.pen.2 b z y
   ·exact Jm (p:=oZ P lpos qual) A.pen.2 e z
  have hj:jN kz<ds.length:=by rw[←ll];exact(Ê.mp hv).1
  obtain⟨v1,e1,r1⟩:=(bZ A k13 rs).getD (Ç hj)
  rw[hv] at e1
  cases e1
  exact kq _ _ _ _ (hP _ (Ç hj)) (A.go k13 i3) r1
end
def Wo(v:V)(H:Hp):Prop:=∃t l m x,v=.ref t/\H t=some (.tup [.ref l,x,.ref m])/\l≠m
def P0(T:Pn)(f:List D->(D->Prop)->Prop):Sp:=λvs H Q _=>∃ds P,T.PI H/\Rps (λa=>¬T.fp a) H vs ds/\f ds P/\∀d v H',P d->Kp T H H'->T.PI H'->Rp (λa=>H a=none) H' v d->Wo v H'->Q v H'
def JD{T:Pn}{f:List D->(D->Prop)->Prop}{n:Nat}(hn:∀ds P,f ds P->ds.length=n:=by intro _ _ h;repeat (first|(obtain⟨rfl,_⟩:=h;rfl)|obtain⟨_,h⟩:=h)):∀vs H Q E,P0 T f vs H Q E->vs.length=n:=λvs H Q E ⟨ds,P,_,r,t,_⟩=>by
 rw[r.length]
 exact hn ds P t
section
variable [Gr] {p:Pn}{H0:Hp}{Q:Ends}
abbrev pM(M:List Sl->Prop):DEnds:={ nx:=M,rt:=λ_=>False }
def zm{t u:DS}{tU:TS}{M:List Sl->Prop}(h:∀own σ H ρ,EnvD p H0 own σ H ρ->u (pM M) ρ->tU Q σ H):∀own σ H ρ,EnvD p H0 own σ H ρ->Bu t u (pM M) ρ->Sq (nM t) tU Q σ H:=λown σ H ρ E r =>
 ⟨p,H0,own,ρ,_,E,r,⟨λo s h' r' e _ n=>h o s h' r' e n,λ_ _ _ n=>n.elim,λ_ _ _ _ _ _ n=>n.elim,λ_ _ _ _ _ _ n=>n.elim⟩⟩
end
section
variable [Gr] {X:Cx}{st0 st st2:Stmt}{rest:List Stmt}
end
variable [Gr]
variable {X:Cx}{st:Stmt}{te tj:DE}
def O6(i:Nat)(te tj:DE):DS:=λP ρ=>te ρ λk d=>∃(r:Nat) (ds:List D),ρ[i]?=some (.dw r (.list ds))/\gb d=true/\tj ρ λ_ dj=>match dj with
 |.int j=>∃m,ixN ds.length j=some m/\P.nx ((forget r ρ).set i (.dw r (.list (ds.set m d))))
 |_=>False
def xq{i:Nat}(h:PS X st (qL (bx te) (Us (iH i) (bx tj) Ny))):PDS X st (O6 i te tj):=PS.wk' h (by
 rintro Q σ H ⟨p,H0,own,ρ,P,E,t,w⟩
 refine⟨p,H0,own,ρ,_,E,t,λk d v H1 ⟨r,ds,hr,im,h⟩ A rv=>?_⟩
 obtain⟨u,hv,x⟩:=E.slot i _ hr
 obtain⟨l,vs,rfl,hl,ho,rs⟩:=x.bR
 have E1:=E.go A.kp A.pen
 refine⟨.ref l,hv,p,H0,own,ρ,_,E1,h,λk2 dj vj H2 h2 A2 r2=>?_⟩
 cases dj with
 |int j =>
  obtain⟨m,hm,hn⟩:=h2
  have ej:=Rp.int' r2
  have A12:=A.base A2
  have h1:H2 l=some (.lst vs):=A12.kp l _ ho (E.ow l r hl).2.1
  refine⟨l,vs,j,m,rfl,ej,h1,by rw[rs.length];exact hm,?_⟩
  obtain⟨E2,F2⟩:=E.qU (vs':=vs.set m v) (ds':=ds.set m d) A12 hv hl ho rs λH3 f g=>Rps.set (g (((rv.imm im).mono (λ_ o=>o) (λ_ _ o=>o.elim) (gG A A2.kp)).mono (λ_ o=>o.elim) (λ_ _ o=>o.elim) λ_ _ e=>e)) m (mQ f rs λd hd=>jY hd)
  exact w.nx _ σ _ _ E2 F2 hn
 |_=>exact h2.elim)
end Dl
namespace Wr
open PySem L2 PyProof.Rows Dl
variable [Gr] {X:Cx}
def xq{i:Nat}{x:Str}{te tj:DE}{ej e:Expr}{np p1 pos:Pos}(hv:WV X (.Name x np) i)(hj:WD X ej tj)(he:WD X e te)(ha:∀v,assign (.Subscript (.Name x np) ej p1) X.env v=(do
   let ov ←holding [v] (eval (.Name x np) X.env)
   let iv ←holding [v,ov] (eval ej X.env)
   standAt p1
   holding [v,ov,iv] (setItem ov iv v)
   release [v,ov,iv] []):=by intro _;rfl)(hs:swapsWithSole [.Subscript (.Name x np) ej p1] e pos.line X.env=pure false:=by rfl)(hw:swappedStores [.Subscript (.Name x np) ej p1] e X.env=pure none:=by rfl)(h1:(assignEach [.Subscript (.Name x np) ej p1] X.env).map (·.2)=[assign (.Subscript (.Name x np) ej p1) X.env]:=by rfl) :
  WDS X (.Assign [.Subscript (.Name x np) ej p1] e pos) (O6 i te tj):=⟨Dl.xq (oY he.h (vQ hv.h hj.h set_list ha) hs hw h1)⟩
end Wr
open Wr renaming aj → À,ak → Å,dv → Ë,aG → Õ,aK → Ö,aU → è,bH → ñ,Ih → ö,aL → ý,sV → Ă,cM → đ,bB → Ē,dY → Ĕ,dZ → Ě,gH → Ğ,vV → ğ,jQ → ĭ,d8 → ŀ,o8 → Ő,dc → Œ,wv → Ŗ,dz → Ŵ,iW → ŵ
open Dl renaming Cal → ø,MF → ĩ,Bn → Ĵ,any_ints → Ļ,Ft → Ł,Fz → š
open L2 renaming dB → Ď,Rt → ď,HJ → ĝ,qW → į,CT → ĺ,pA → Ŝ,Aa → ũ,vO → Ŭ
open Wr.WDSs renaming h → Ĝ
open Dl.Sl renaming pen → ż
namespace Nf
open PySem PySem.W PyProof.Rows
def qx(tb:String->Option Builtin)(p:Program)(w:World)(m:Nat)(ann:Option Value):Nat->SharedT->Thread->Option SharedT
 |0,_,_=>none
 |n+1,s,t=>match through t with
  |true=>some s
  |false=>match stepOk m ann t with
   |false=>none
   |true=>match stepT (denote tb) p w s t with
    |none=>none
    |some r=>qx tb p w m ann n r.1 r.2
def uf{tb:String->Option Builtin}{p:Program}{w:World}{m:Nat}{ann:Option Value}:∀{n:Nat}{s s':SharedT}{t:Thread},qx tb p w m ann n s t=some s'->topRun tb p w m ann n s.abs t=some s'.abs
 |0,_,_,_,h=>by cases h
 |n+1,s,s',t,h=>by
  unfold qx at h
  unfold topRun
  cases he:through t with
  |true=>rw[he] at h;cases h;rfl
  |false =>
   rw[he] at h
   cases hk:stepOk m ann t with
   |false=>rw[hk] at h;cases h
   |true =>
    rw[hk] at h
    cases hs:stepT (denote tb) p w s t with
    |none=>rw[hs] at h;cases h
    |some r=>obtain⟨s2,t2⟩:=r;rw[hs] at h;rw[stepT_spec hs];exact uf h
def sS(P:Params):List DictEntry:=match (boot_o_0 P).data with|.dict es _=>es.toList|_=>[]
def iz(P:Params)(i:Nat):List DictEntry:=((sS P).drop i).take 16
def b0(P:Params):List DictEntry:=by
 refine(?f:(l:List DictEntry)->l=iz P 0->List DictEntry) ?l ?h
 case f=>exact λl _=>l
 case h=>unfold iz sS boot_o_0;dsimp only[List.drop,List.take];exact rfl
def b1(P:Params):List DictEntry:=by
 refine(?f:(l:List DictEntry)->l=iz P 16->List DictEntry) ?l ?h
 case f=>exact λl _=>l
 case h=>unfold iz sS boot_o_0;dsimp only[List.drop,List.take];exact rfl
def b2(P:Params):List DictEntry:=by
 refine(?f:(l:List DictEntry)->l=iz P 32->List DictEntry) ?l ?h
 case f=>exact λl _=>l
 case h=>unfold iz sS boot_o_0;dsimp only[List.drop,List.take];exact rfl
def b3(P:Params):List DictEntry:=by
 refine(?f:(l:List DictEntry)->l=iz P 48->List DictEntry) ?l ?h
 case f=>exact λl _=>l
 case h=>unfold iz sS boot_o_0;dsimp only[List.drop,List.take];exact rfl
def b4(P:Params):List DictEntry:=by
 refine(?f:(l:List DictEntry)->l=iz P 64->List DictEntry) ?l ?h
 case f=>exact λl _=>l
 case h=>unfold iz sS boot_o_0;dsimp only[List.drop,List.take];exact rfl
def b5(P:Params):List DictEntry:=by
 refine(?f:(l:List DictEntry)->l=iz P 80->List DictEntry) ?l ?h
 case f=>exact λl _=>l
 case h=>unfold iz sS boot_o_0;dsimp only[List.drop,List.take];exact rfl
def b6(P:Params):List DictEntry:=by
 refine(?f:(l:List DictEntry)->l=iz P 96->List DictEntry) ?l ?h
 case f=>exact λl _=>l
 case h=>unfold iz sS boot_o_0;dsimp only[List.drop,List.take];exact rfl
def b7(P:Params):List DictEntry:=by
 refine(?f:(l:List DictEntry)->l=iz P 112->List DictEntry) ?l ?h
 case f=>exact λl _=>l
 case h=>unfold iz sS boot_o_0;dsimp only[List.drop,List.take];exact rfl
def b8(P:Params):List DictEntry:=by
 refine(?f:(l:List DictEntry)->l=iz P 128->List DictEntry) ?l ?h
 case f=>exact λl _=>l
 case h=>unfold iz sS boot_o_0;dsimp only[List.drop,List.take];exact rfl
def b9(P:Params):List DictEntry:=by
 refine(?f:(l:List DictEntry)->l=iz P 144->List DictEntry) ?l ?h
 case f=>exact λl _=>l
 case h=>unfold iz sS boot_o_0;dsimp only[List.drop,List.take];exact rfl
def bo0(P:Params):Obj:={ cls:=.type "dict",data:=.dict ⟨b0 P++(b1 P++(b2 P++(b3 P++(b4 P++(b5 P++(b6 P++(b7 P++(b8 P++(b9 P)))))))))⟩ 159 }
def RX:boot_o_0=bo0:=by funext P;kernel_rfl
def Ky(P:Params):Heap:={ objs:=⟨[bo0 P,boot_o_1 P,boot_o_2 P,boot_o_3 P,boot_o_4 P,boot_o_5 P,boot_o_6 P,boot_o_7 P,boot_o_8 P,boot_o_9 P,boot_o_10 P]⟩ }
def zG:Š=Ky:=by
 funext P
 show Heap.mk ⟨boot_o_0 P::_⟩ _=_
 rw[RX]
 rfl
def zE(P:Params):BT:=((((((((((BT.nil.ins 0 (bo0 P)).ins 1 (boot_o_1 P)).ins 2 (boot_o_2 P)).ins 3 (boot_o_3 P)).ins 4 (boot_o_4 P)).ins 5 (boot_o_5 P)).ins 6 (boot_o_6 P)).ins 7 (boot_o_7 P)).ins 8 (boot_o_8 P)).ins 9 (boot_o_9 P)).ins 10 (boot_o_10 P)
def Oo:Life:={}
def Gj(P:Params):absHeap (zE P) 11 Oo=Š P:=by rw[zG];kernel_rfl
def zT(w:World)(os:OsState):SharedT:=⟨zE w.params,11,Oo,#[],boot_drawn,boot_toks,os⟩
def Em(w:World)(os:OsState):(zT w os).abs=⟨Š w.params,#[],boot_drawn,boot_toks,os⟩:=by
 unfold zT SharedT.abs
 dsimp only
 rw[Gj]
def Cr(P:Params):=((Š P).isNs mainGlobals,(Š P).objs.size,(Š P).nsMap mainGlobals "__annotations__")
def zV:Cr=Cr:=rfl
end Nf
name_quick sizeQ for Nf.Cr by Nf.zV
namespace Nf
open PySem PySem.W PyProof.Rows
def Gk(w:World):((Š w.params).isNs mainGlobals,(Š w.params).objs.size,(Š w.params).nsMap mainGlobals "__annotations__")=(true,11,some (.ref 6)):=by
 show Cr w.params=_
 rw[W.Fast.sizeQ_eq]
 kernel_rfl
def Es(p:Program)(N:Nat)(w:World)(os:OsState):=qx treeTable p w 11 (some (.ref 6)) N (zT w os) (topStub p)
def G8(p q:Program)(Xt:Shared->Bool)(w:World)(s:Shared) :=
 (staticsOk (importedModules p.main.body) (Ky w.params) s.heap&&namesBound p s.heap&&gensDone s&&laidKept (Ky w.params) s.heap,openSeen q [] (importedModules p.main.body) Xt true s)
def MJ{p q:Program}{Xt:Shared->Bool}{β:Type}{Yf:Shared->List β}{Ya:World->List β}{N:Nat}(k:Nat)(open_:∀w:World,(fencedOpening treeTable p w N).map (λs=>(s.heap,s.gens,s.drawn,s.toks))=some (Š w.params,Array.mk [],boot_drawn,boot_toks))(look:∀(w:World) (os:OsState),(Es p N w os).map (λs=>G8 p q Xt w s.abs)=some (true,openGood q []))(front:∀(w:World) (os:OsState),(Es p N w os).map (λs=>(Yf s.abs).take k)=some ((Ya w).take k))(back:∀(w:World) (os:OsState),(Es p N w os).map (λs=>(Yf s.abs).drop k)=some ((Ya w).drop k)):LeftO p q [] Xt Yf Ya N:=λw=>by
 obtain⟨⟨h,gs,d,j,os⟩,e,e'⟩:=Option.map_eq_some_iff.mp (open_ w)
 obtain⟨rfl,rfl,rfl,rfl⟩:h=Š w.params/\gs=#[]/\d=boot_drawn/\j=boot_toks:=by simpa using e'
 obtain⟨z1,z2,z3⟩:_/\_/\_:=by simpa only[Prod.mk.injEq] using Gk w
 obtain⟨s,hs,l⟩:=Option.map_eq_some_iff.mp (look w os)
 have l4:(Yf s.abs).take k=(Ya w).take k:=by
  have:=front w os
  rw[hs] at this
  exact á this
 have l5:(Yf s.abs).drop k=(Ya w).drop k:=by
  have:=back w os
  rw[hs] at this
  exact á this
 have l3:Yf s.abs=Ya w:=by rw[←ų k (Yf s.abs),l4,l5,ų]
 unfold G8 at l
 rw[←zG] at l
 obtain⟨l1,l2⟩:=Prod.mk.inj l
 have r:=uf hs
 rw[Em] at r
 have t:topFrom treeTable p w N ⟨Š w.params,#[],boot_drawn,boot_toks,os⟩=some s.abs:=by
  unfold topFrom
  dsimp only
  rw[z1,z2,z3,r]
  show(match staticsOk (importedModules p.main.body) (Š w.params) s.abs.heap&&namesBound p s.abs.heap&&gensDone s.abs&&laidKept (Š w.params) s.abs.heap with|true=>_|false=>_)=_
  rw[l1]
 unfold openEnds
 rw[e]
 show(topFrom treeTable p w N _).map _=_
 rw[t]
 exact congrArg some (Prod.ext l2 l3)
end Nf
namespace Nf
open PySem L2 PyProof.Rows Dl
def top(i:Nat):Stmt:=PySem.Challenge.pw_nofall_k52_least_ways_let_by.main.body.getD i (.Pass ⟨0,0,0,0⟩)
structure Proper(n:Int)(l:List Int):Prop where
 one:1<=l.length
 few:(l.length:Int)<n
 rng:∀x∈l,0<=x/\x<n
 rise:l.Pairwise (·<·)
 n16:n<=16
def O1(ds:List D)(P:D->Prop):Prop:=∃l:List Int,ds=[.list (l.map Â)]/\l.length<=400/\P (.list ((l.dropLast.zip (l.drop 1)).map pD))
def toI:D->Int
 |.int i=>i
 |_=>0
def uz(l:List Int):Bool:=(l.dropLast.zip (l.drop 1)).all λt=>decide (t.1<t.2)
def Lb(m:Int):D->Bool
 |.list es=>es.all (cR m)&&uz (es.map toI)
 |_=>false
def Uk(n:Int):D->Bool
 |.list es=>decide ((1:Int)<=(es.length:Nat))&&decide (((es.length:Nat):Int)<n)
 |_=>false
def cF(n:Int)(d:D):Bool:=Lb n d&&Uk n d
def Few(d:D):Prop:=∀es,d=.list es->es.length<=400
def Dz(ds:List D)(P:D->Prop):Prop:=∃m d,ds=[.int m,d]/\Few d/\P (.bool (Lb m d))
def wY(ds:List D)(P:D->Prop):Prop:=∃n d,ds=[.int n,d]/\Few d/\P (.bool (cF n d))
def J6(ds:List D)(P:D->Prop):Prop:=∃n us l,ds=[aD n us,.list (l.map Â)]/\Proper n l/\P .none
def lv(l:List Int)(t:Tie):Bool:=decide (t.1∈l) != decide (t.2∈l)
def Rx(ds:List D)(P:D->Prop):Prop:=∃n us l,ds=[aD n us,.list (l.map Â)]/\Proper n l/\us.length<=100/\P (.list ((us.filter (lv l)).map pD))
def FJ{l:List Int}(h:l.Pairwise (·<·)):∀t∈l.dropLast.zip (l.drop 1),t.1<t.2:=by
 intro t ht
 obtain⟨i,hi,e⟩:=List.mem_iff_getElem.mp ht
 have h1:i<l.length - 1:=by
  rw[List.length_zip,ĸ,Ā] at hi
  omega
 rw[List.getElem_zip] at e
 have e1:l.dropLast[i]'(by rw[ĸ];exact h1)=l[i]:=List.getElem_dropLast _
 have e2:(l.drop 1)[i]'(by rw[Ā];exact h1)=l[1+i]:=List.getElem_drop
 rw[←e]
 simp only[e1,e2]
 exact(Ŕ.mp h) i (1+i) (by omega) (by omega) (by omega)
def Gm{n:Int}{d:D}(h:cR n d=true):∃i:Int,d=.int i:=by
 cases d with
 |int i=>exact⟨i,rfl⟩
 |_=>cases h
def xO(d:D):bw d=.im d\/bw d=.sh d:=by
 unfold bw
 by_cases h:gb d=true
 ·rw[if_pos h];exact .inl rfl
 ·rw[if_neg h];exact .inr rfl
def ints_of{n:Int}:∀{es:List D},es.all (cR n)=true->es=(es.map toI).map Â
 |[],_=>rfl
 |d::es,h=>by
  rw[List.all_cons,Û] at h
  obtain⟨i,rfl⟩:=Gm h.1
  have:=ints_of h.2
  rw[à,à,←this]
  rfl
def vg(l:List Int):(l.map Â).map toI=l:=by rw[õ];exact List.map_id' l
def qX{n:Int}{l:List Int}(h:Proper n l):cF n (.list (l.map Â))=true:=by
 have h1:=h.one
 have h2:=h.few
 have e1:(l.map Â).all (cR n)=true:=ę.mpr λd hd=>by
  obtain⟨x,hx,rfl⟩:=ê.mp hd
  exact decide_eq_true (h.rng x hx)
 have e2:uz l=true:=ę.mpr λt ht=>decide_eq_true (FJ h.rise t ht)
 show(((l.map Â).all (cR n)&&uz ((l.map Â).map toI))&&(decide ((1:Int)<=((l.map Â).length:Nat))&&decide ((((l.map Â).length:Nat):Int)<n)))=true
 rw[e1,vg,e2,Á,decide_eq_true (show(1:Int)<=(l.length:Nat) by omega),decide_eq_true h2]
 rfl
def JX{l:List Int}(h:l.length<=400):Few (.list (l.map Â)):=λes e=>by
 injection e with e
 rw[←e,Á]
 exact h
def gB{α:Type}(l:List α):dg l none (some (-1))=l.dropLast:=by
 unfold dg
 have e1:HT.sIx l.length 0 none=0:=rfl
 have e2:HT.sIx l.length l.length (some (-1))=l.length - 1:=by
  have e:HT.sIx l.length l.length (some (-1))=((-1:Int)+(l.length:Int)).toNat:=rfl
  rw[e]
  omega
 rw[e1,e2,List.drop_zero,Nat.sub_zero,List.dropLast_eq_take]
def sX{α:Type}(l:List α):dg l (some 1) none=l.drop 1:=by
 unfold dg
 have e1:HT.sIx l.length l.length none=l.length:=rfl
 have e2:HT.sIx l.length 0 (some 1)=min 1 l.length:=HT.mO l.length 0 1
 rw[e1,e2]
 rw[ū (by rw[Ā];omega)]
 by_cases h:1<=l.length
 ·rw[Nat.min_eq_left h]
 ·have:l=[]:=List.length_eq_zero_iff.mp (by omega)
  subst this
  rfl
def xU(a b:List Int):((a.map Â).zip (b.map Â)).map prD=(a.zip b).map pD:=by
 rw[List.zip_map,õ]
 rfl
section
variable {P:Program}{w:World}{K:Ú}{mg:Str->Option Value}{base:Heap}{f:Addr}{fd:FuncData}
def sc4:FnScope ["thing"] ["thing"] (ao (top 4)):=zC
def Jb(F:Fun K "is_whole" "is_whole" (top 4) f fd)(B:Ĵ mg):FnOk P w K mg base CX0 1 f fd ["thing"] (spD JZ):=by
 refine F.ok sc4 ĩ (λcdv A outer s H vs Q E hr h=>?_)
 refine⟨_,aL (bB (fO (cG M4 B.isinstance (dv 0) (ni (v:=.ty "int") rfl B.int boot_int rfl)) (gD (Qt (cG JF B.isinstance (dv 0) (ni (v:=.ty "bool") rfl B.bool boot_bool rfl)))))),w6 h ?_⟩
 rintro ds P ⟨d,rfl,q⟩
 unfold Bv Cg tIs
 refine GQ (d:=d) rfl λk=>?_
 cases d <;> exact⟨rfl,q⟩
def sc5:FnScope ["limit","thing"] ["limit","thing"] (ao (top 5)):=zC
def Jd(F:Fun K "is_below" "is_below" (top 5) f fd)(W:ø P w K mg base 1 "is_whole" ["thing"] (spD JZ)):FnOk P w K mg base CX0 2 f fd ["limit","thing"] (spD Bo):=by
 refine F.ok sc5 ĩ (λcdv A outer s H vs Q E hr h=>?_)
 refine⟨_,aL (bB (fO (dc W hr (aj (dv 1) ak)) (gD (CW aG (dv 1) (dv 0))))),w6 h ?_⟩
 rintro ds P ⟨m,d,rfl,q⟩
 unfold Bv Cg tFn bQ
 refine GQ (d:=d) rfl λk=>⟨d,rfl,?_⟩
 cases d with
 |int i =>
  have e:P (.bool (decide (0<=i/\i<m))):=q
  by_cases h0:(0:Int)<=i
  ·show if decide ((0:Int)<=i)=true then _ else _
   rw[decide_eq_true h0]
   refine aM (B:=True) ⟨rfl,?_⟩
   have e2:decide (0<=i/\i<m)=decide (i<m):=by simp[h0]
   rw[e2] at e
   exact e
  ·show if decide ((0:Int)<=i)=true then _ else _
   rw[decide_eq_false h0]
   refine aX (A:=True) ⟨rfl,?_⟩
   have e2:decide (0<=i/\i<m)=false:=by simp[h0]
   rw[e2] at e
   exact e
 |_=>exact⟨rfl,q⟩
def sc7:FnScope ["places"] ["places"] (ao (top 9)):=zC
def Mf(F:Fun K "hops" "hops" (top 9) f fd)(B:Ĵ mg)(mz:mg "zip"=none):FnOk P w K mg base CX0 1 f fd ["places"] (spD O1):=by
 refine F.ok sc7 ĩ (λcdv A outer s H vs Q E hr h=>?_)
 refine⟨_,aL (bB (Ai rfl B.list mz (aj (Ah (dv 0) iY (dJ (lQ aG))) (aj (Ah (dv 0) (dJ aG) iY) ak)))),w6 h ?_⟩
 rintro ds P ⟨l,rfl,hl,q⟩
 refine .inl ⟨?_,.inl ⟨?_,?_,.inl ⟨?_,rfl,?_⟩⟩⟩
 ·show dH (dg (l.map Â) none (some (-1)))=true
  rw[gB,←List.map_dropLast]
  exact cO _
 ·show dH (dg (l.map Â) (some 1) none)=true
  rw[sX,←ű]
  exact cO _
 ·show(dg (l.map Â) none (some (-1))).length<=1000
  rw[gB,ĸ,Á]
  omega
 ·show dH _=true
  rw[gB,sX,←List.map_dropLast,←ű,xU]
  exact cX _
 ·show P _
  rw[gB,sX,←List.map_dropLast,←ű,xU]
  exact q
end
section
variable {P:Program}{w:World}{K:Ú}{mg:Str->Option Value}{base:Heap}{f:Addr}{fd:FuncData}
def sc9:FnScope ["limit","thing"] ["limit","thing"] (ao (top 11)):=zC
def V7:(["number","limit","thing"]:List Str).Nodup:=by decide +kernel
def V6:(["hop","limit","thing"]:List Str).Nodup:=by decide +kernel
def Fe(F:Fun K "is_rising" "is_rising" (top 11) f fd)(B:Ĵ mg)(W:ø P w K mg base 2 "is_below" ["limit","thing"] (spD Bo))(HO:ø P w K mg base 1 "hops" ["places"] (spD O1)):FnOk P w K mg base CX0 3 f fd ["limit","thing"] (spD Dz):=by
 refine F.ok sc9 ĩ (λcdv A outer s H vs Q E hr h=>?_)
 refine⟨_,aK (cY (PDW.pt (gC (bJ (bC (cG sE B.isinstance (dv 1) (ni (v:=.ty "list") rfl B.list boot_list rfl)))) (eX (bJ (bC (lR rfl B.all Dl.boot_all (aj (cB ["number"] rfl (dY (dv 1)) (λc=>aU (ĺ (i:=0) V7 rfl (ć rfl))) (λc=>d8) (λc=>dc W hr (aj (dv 1) (aj (dv 0) ak)))) ak))))))) (aL (bB jh)) gH)
  (aL (bB (lR rfl B.all Dl.boot_all (aj (cB ["hop"] rfl (dY (dc HO hr (aj (dv 1) ak))) (λc=>aU (ĺ (i:=0) V6 rfl (ć rfl))) (λc=>d8) (λc=>TY (jB (dv 0) aG (λ_ _=>rfl)) (jB (dv 0) aG (λ_ _=>rfl)))) ak)))),aR h ?_⟩
 rintro ds P ⟨n,d,rfl,hf,q⟩
 refine⟨[.im (.int n),bw d],rfl,?_⟩
 cases d with
 |list es =>
  have hl:=hf es rfl
  have q:P (.bool (es.all (cR n)&&uz (es.map toI))):=q
  refine aX (A:=True) ⟨by omega,.imm,λi ys=>ys=(es.take i).map λd=>PyData.bool (cR n d),rfl,λi d ys hd hy=>?_,λys hy=>?_⟩
  ·subst hy
   by_cases hi:gb d=true
   ·have en:∀k,norm k d=.imm:=λk=>dD hi
    unfold gNm
    simp only[en]
    exact aM (B:=True) ⟨n,d,rfl,rfl,(pF _ hd).symm⟩
   ·have en:∀k,norm k d=k:=λk=>fQ hi
    unfold gNm
    simp only[en]
    exact aM (B:=True) ⟨n,d,rfl,rfl,(pF _ hd).symm⟩
  ·dsimp only at hy
   rw[ē] at hy
   refine⟨es.map (cR n),by rw[hy,õ];rfl,?_⟩
   rw[List.all_map]
   show if (!es.all (cR n))=true then _ else _
   cases ha:es.all (cR n) with
   |false =>
    rw[ha] at q
    exact⟨rfl,q⟩
   |true =>
    rw[ha] at q
    have q:P (.bool (uz (es.map toI))):=q
    have ei:=ints_of ha
    generalize hm:es.map toI=l at q ei
    have hll:l.length<=400:=by rw[←hm,Á];exact hl
    subst ei
    -- rising
    refine⟨l,rfl,hll,?_,.imm,λi ys=>ys=((l.dropLast.zip (l.drop 1)).take i).map λt=>PyData.bool (decide (t.1<t.2)),rfl,?_,?_⟩
    ·rw[Á,List.length_zip,ĸ]
     omega
    ·rintro i d ys hd rfl
     obtain⟨t,ht,rfl⟩:=cC hd
     exact aM (B:=True) ⟨.int t.1,rfl,.int t.2,rfl,rfl,(pF _ ht).symm⟩
    rintro ys rfl
    refine⟨(l.dropLast.zip (l.drop 1)).map λt=>decide (t.1<t.2),?_,rfl,?_⟩
    ·rw[Á,ē,õ]
     rfl
    ·rw[List.all_map]
     rw[vg] at q
     exact q
 |tuple es=>rcases xO (.tuple es) with e|e <;> rw[e] <;> exact aM (B:=True) ⟨rfl,q⟩
 |_=>exact aM (B:=True) ⟨rfl,q⟩
def VH:FnScope ["n","thing"] ["n","thing"] (ao (top 12)):=zC
def Fg(F:Fun K "is_proper_set" "is_proper_set" (top 12) f fd)(B:Ĵ mg)(R:ø P w K mg base 3 "is_rising" ["limit","thing"] (spD Dz)):FnOk P w K mg base CX0 4 f fd ["n","thing"] (spD wY):=by
 refine F.ok VH ĩ (λcdv A outer s H vs Q E hr h=>?_)
 refine⟨_,aL (bB (fO (dc R hr (aj (dv 0) (aj (dv 1) ak))) (gD (CW aG (dz B.len (aj (dv 1) ak)) (dv 0))))),aR h ?_⟩
 rintro ds P ⟨n,d,rfl,hf,q⟩
 refine⟨[.im (.int n),bw d],rfl,?_⟩
 have q:P (.bool (Lb n d&&Uk n d)):=q
 cases d with
 |list es =>
  refine⟨n,.list es,rfl,hf,fZ (λc=>?_) (λc=>?_)⟩
  ·rw[c] at q
   have q:P (.bool (decide ((1:Int)<=(es.length:Nat))&&decide (((es.length:Nat):Int)<n))):=q
   show if decide ((1:Int)<=(es.length:Nat))=true then _ else _
   refine fZ (λc1=>⟨rfl,?_⟩) (λc1=>⟨rfl,?_⟩)
   ·rw[c1] at q
    exact q
   ·have c1:decide ((1:Int)<=(es.length:Nat))=false:=by simpa using c1
    rw[c1] at q
    exact q
  ·have c:Lb n (.list es)=false:=by simpa using c
   rw[c] at q
   exact⟨rfl,q⟩
 |tuple es=>rcases xO (.tuple es) with e|e <;> rw[e] <;> exact⟨n,.tuple es,rfl,hf,aX (A:=True) ⟨rfl,q⟩⟩
 |_=>exact⟨n,_,rfl,hf,aX (A:=True) ⟨rfl,q⟩⟩
def VL:FnScope ["web","thing"] ["web","thing"] (ao (top 13)):=zC
def yK(F:Fun K "check_set" "check_set" (top 13) f fd)(PS:ø P w K mg base 4 "is_proper_set" ["n","thing"] (spD wY)):FnOk P w K mg base CX0 5 f fd ["web","thing"] (spD J6):=by
 refine F.ok VL ĩ (λcdv A outer s H vs Q E hr h=>?_)
 refine⟨_,aL (cY (bJ (bC (dc PS hr (aj (jB (dv 0) aG (λ_ _=>rfl)) (aj (dv 1) ak))))) (aL n6) gH),aR h ?_⟩
 rintro ds P ⟨n,us,l,rfl,hP,q⟩
 refine⟨[.im (aD n us),.sh (.list (l.map Â))],?_,?_⟩
 ·show [bw (aD n us),bw (.list (l.map Â))]=_
  rw[bL]
  rfl
 refine⟨.int n,rfl,n,_,rfl,JX (by have:=hP.few;have:=hP.n16;omega),?_⟩
 show if (!cF n (.list (l.map Â)))=true then _ else _
 rw[qX hP]
 exact aX (A:=False) q
def Tj:FnScope ["tie","some"] ["tie","some"] (ao (top 16)):=zC
def fLv(ds:List D)(P:D->Prop):Prop:=∃t l,ds=[pD t,.list (l.map Â)]/\P (.bool (lv l t))
def Fi(F:Fun K "leaves" "leaves" (top 16) f fd):FnOk P w K mg base CX0 1 f fd ["tie","some"] (spD fLv):=by
 refine F.ok Tj ĩ (λcdv A outer s H vs Q E hr h=>?_)
 refine⟨_,aL (bB (TX (yC hr.units (jB (dv 0) aG (λ_ _=>rfl)) (dv 1)) (yC hr.units (jB (dv 0) aG (λ_ _=>rfl)) (dv 1)))),aR h ?_⟩
 rintro ds P ⟨t,l,rfl,q⟩
 refine⟨[.im (pD t),.sh (.list (l.map Â))],rfl,?_⟩
 refine⟨.int t.1,rfl,rfl,bK l,.int t.2,rfl,rfl,bK l,rfl,?_⟩
 show P (.bool (!decide ((((l.map Â).any λe=>í e (.int t.1)):Bool)=((l.map Â).any λe=>í e (.int t.2)))))
 rw[Ļ,Ļ]
 have e:(!decide ((decide (t.1∈l):Bool)=decide (t.2∈l)))=lv l t:=by
  unfold lv
  cases decide (t.1∈l) <;> cases decide (t.2∈l) <;> rfl
 rw[e]
 exact q
def VJ:FnScope ["web","some"] ["web","some"] (ao (top 17)):=zC
def V8:(["tie","web","some"]:List Str).Nodup:=by decide +kernel
def QD(F:Fun K "ties_that_leave" "ties_that_leave" (top 17) f fd)(CH:ø P w K mg base 5 "check_set" ["web","thing"] (spD J6))(LV:ø P w K mg base 1 "leaves" ["tie","some"] (spD fLv)):FnOk P w K mg base CX0 6 f fd ["web","some"] (spD Rx):=by
 refine F.ok VJ ĩ (λcdv A outer s H vs Q E hr h=>?_)
 refine⟨_,aK (qF (dc CH hr (aj (dv 0) (aj (dv 1) ak)))) (aL (bB (cB ["tie"] rfl (dY (jB (dv 0) aG (λ_ _=>rfl))) (λc=>aU (ĺ (i:=0) V8 rfl (ć rfl)))
  (λc=>cI (bC (dc LV hr (aj (dv 0) (aj (dv 2) ak))))) (λc=>dv 0)))),aR h ?_⟩
 rintro ds P ⟨n,us,l,rfl,hP,hl,q⟩
 refine⟨[.im (aD n us),.sh (.list (l.map Â))],?_,n,us,l,rfl,hP,?_⟩
 ·show [bw (aD n us),bw (.list (l.map Â))]=_
  rw[bL]
  rfl
 refine⟨.tuple (us.map pD),rfl,by rw[Á];omega,.imm,λi ys=>ys=((us.take i).filter (lv l)).map pD,rfl,?_,?_⟩
 ·rintro i d ys hd rfl
  obtain⟨t,ht,rfl⟩:=cC hd
  refine⟨t,l,rfl,?_⟩
  show if lv l t=true then _ else _
  have sn:=wW (lv l) pD ht
  cases hb:lv l t with
  |true =>
   rw[hb,if_pos rfl] at sn
   exact aM (B:=True) ⟨rfl,sn.symm⟩
  |false =>
   rw[hb,if_neg Ò,ð] at sn
   exact aX (A:=True) sn.symm
 ·rintro ys rfl
  refine⟨rfl,?_⟩
  rw[take_all us (by rw[Á];exact Ì _)]
  exact q
end
def iG:D->List Int
 |.list es=>es.map toI
 |_=>[]
def Ar(l:List Int):Bool:=decide ((once l).length=l.length)
def Ux(n:Int):D->Bool
 |.list es=>es.all (cF n)&&Ar (es.flatMap iG)
 |_=>false
def Wn(d:D):Prop:=∀es,d=.list es->es.length<=60/\∀e∈es,Few e
def Ry(ds:List D)(P:D->Prop):Prop:=∃n d,ds=[.int n,d]/\Wn d/\n<=16/\P (.bool (Ux n d))
def yu{n:Int}{d:D}(n16:n<=16)(h:cF n d=true):∃l:List Int,d=.list (l.map Â)/\iG d=l/\l.length<=15:=by
 unfold cF at h
 rw[Û] at h
 cases d with
 |list es =>
  have h1:(es.all (cR n)&&uz (es.map toI))=true:=h.1
  rw[Û] at h1
  have h2:(decide ((1:Int)<=(es.length:Nat))&&decide (((es.length:Nat):Int)<n))=true:=h.2
  rw[Û,decide_eq_true_eq,decide_eq_true_eq] at h2
  exact⟨es.map toI,congrArg _ (ints_of h1.1),rfl,by rw[Á];omega⟩
 |_=>cases h.1
section
variable {P:Program}{w:World}{K:Ú}{mg:Str->Option Value}{base:Heap}{f:Addr}{fd:FuncData}
def Tc:FnScope ["n","thing","places","some"] ["n","thing"] (ao (top 19)):=zC
def V5:(["some","n","thing","places",""]:List Str).Nodup:=by decide +kernel
def QK(F:Fun K "is_family" "is_family" (top 19) f fd)(B:Ĵ mg)(ms:mg "set"=none)(PS:ø P w K mg base 4 "is_proper_set" ["n","thing"] (spD wY)):FnOk P w K mg base CX0 5 f fd ["n","thing"] (spD Ry):=by
 refine F.ok Tc ĩ (λcdv A outer s H vs Q E hr h=>?_)
 have nd:=Tc.nd
 refine⟨_,aK (cY (PDW.pt (gC (bJ (bC (cG sE B.isinstance (dv 1) (ni (v:=.ty "list") rfl B.list boot_list rfl)))) (eX (bJ (bC (lR rfl B.all Dl.boot_all (aj (o9 ["some"] ["n","thing","places",""] rfl (dY (dv 1)) (λc=>aU (ĺ (i:=0) V5 rfl (ć rfl))) (λc=>d8) (λc=>dc PS hr (aj (dv 1) (aj (dv 0) ak))) (hk:=rfl)) ak))))))) (aL (bB jh)) gH)
  (aK (bH (some 0) (ũ (i:=2) nd rfl (ć rfl) (dZ ak)))
  (aK (iW î rfl (dY (dv 1)) (aU (ĺ (i:=3) nd rfl (ć rfl)))
   (aL (cJ (i:=2) (cu (gP ù ř ŗ gY (pv 2) (aj (dv 3) ak))))))
  (aL (bB (T3 (EY rfl ms B.len (aj (dv 2) ak)) (dz B.len (aj (dv 2) ak))))))),aR h ?_⟩
 rintro ds P ⟨n,d,rfl,hf,n16,q⟩
 refine⟨[.im (.int n),bw d,.any,.any],rfl,?_⟩
 cases d with
 |list es =>
  obtain⟨hl,hfe⟩:=hf es rfl
  have q:P (.bool (es.all (cF n)&&Ar (es.flatMap iG))):=q
  refine aX (A:=True) ⟨by omega,.imm,λi ys=>ys=(es.take i).map λd=>PyData.bool (cF n d),rfl,λi d ys hd hy=>?_,λys hy=>?_⟩
  ·subst hy
   have hfd:=hfe d (Î hd)
   by_cases hi:gb d=true
   ·have en:∀k,norm k d=.imm:=λk=>dD hi
    unfold gNm
    simp only[en]
    exact aM (B:=True) ⟨n,d,rfl,hfd,rfl,(pF _ hd).symm⟩
   ·have en:∀k,norm k d=k:=λk=>fQ hi
    unfold gNm
    simp only[en]
    exact aM (B:=True) ⟨n,d,rfl,hfd,rfl,(pF _ hd).symm⟩
  ·dsimp only at hy
   rw[ē] at hy
   refine⟨es.map (cF n),by rw[hy,õ];rfl,?_⟩
   rw[List.all_map]
   show if (!es.all (cF n))=true then _ else _
   cases ha:es.all (cF n) with
   |false =>
    rw[ha] at q
    exact⟨rfl,q⟩
   |true =>
    rw[ha] at q
    have q:P (.bool (Ar (es.flatMap iG))):=q
    have pr:∀e∈es,∃l:List Int,e=.list (l.map Â)/\iG e=l/\l.length<=15:=λe he=>yu n16 (ę.mp ha e he)
    refine aX (A:=True) ⟨by decide,rfl,λ(i:Nat) ρ=>∃(l:List Int) (s3:Sl),s3.region=none/\ρ=[.im (.int n),.sh (.list es),.dw 0 (.list (l.map Â)),s3]/\l=(es.take i).flatMap iG/\l.length<=15 * i,⟨[],.any,rfl,rfl,rfl,Ì _⟩,?_,?_⟩
    ·rintro i d ρ hd ⟨l,s3,h3,rfl,rfl,hl2⟩
     obtain⟨m,rfl,em,hm⟩:=pr d (Î hd)
     have hi:=(Ê.mp hd).1
     have lm:(((es.take i).flatMap iG).map Â).length=((es.take i).flatMap iG).length:=Á ..
     have lm2:(m.map Â).length=m.length:=Á ..
     refine⟨by show(_ || dH (m.map Â))=true;rw[cO,Bool.or_true],by omega,(es.take i).flatMap iG++m,.sh (.list (m.map Â)),rfl,?_,?_,?_⟩
     ·rw[Ù]
      rfl
     ·rw[Ľ,hd,ţ]
      show _=_++([Ŀ (m.map Â)].flatMap iG)
      rw[Ÿ,List.flatMap_nil,ð,em]
     ·rw[È];omega
    ·rintro ρ ⟨l,s3,h3,rfl,rfl,hl2⟩
     rw[ē] at hl2 ⊢
     refine⟨_,_,rfl,by omega,rfl,?_⟩
     show P (.bool (decide ((((once (es.flatMap iG)).length:Nat):Int)=(((es.flatMap iG).map Â).length:Nat))))
     have e:decide ((((once (es.flatMap iG)).length:Nat):Int)=(((es.flatMap iG).map Â).length:Nat))=Ar (es.flatMap iG):=by
      unfold Ar
      rw[Á,ġ,decide_eq_true_eq,decide_eq_true_eq]
      omega
     rw[e]
     exact q
 |tuple es=>rcases xO (.tuple es) with e|e <;> rw[e] <;> exact aM (B:=True) ⟨rfl,q⟩
 |_=>exact aM (B:=True) ⟨rfl,q⟩
end
def u9(p:Addr)(H:Hp):Prop:=∃a b c:Int,H p=some (.lst [.int a,.int b,.int c])
def vR(p:Addr):Pn where
 fp:=λb=>b=p
 PI:=u9 p
 pv:=.ref p
 mono:=λH H' ⟨a,b,c,h⟩ k=>⟨a,b,c,k _ _ (.inl rfl) h⟩
 is:=λH b ⟨x,y,z,h⟩ hb=>by
  subst hb
  exact⟨_,h,(λxs z=>(nomatch z)),λ⟨_,_,z⟩=>(nomatch z)⟩
def CP(q:Pn):Prop:=∃p,q=vR p
def jP(ds:List D)(P:D->Prop):Prop:=∃m:Int,ds=[.int m]/\0<m/\m<1073741824/\∀r:Int,0<=r->r<m->P (.int r)
def dG{C:Pn->Prop}{f:List D->(D->Prop)->Prop}{n:Nat}(hn:∀ds P,f ds P->ds.length=n:=by intro _ _ h;repeat (first|(obtain⟨rfl,_⟩:=h;rfl)|obtain⟨_,h⟩:=h)):∀vs H Q E,spP C f vs H Q E->vs.length=n+1:=λvs H Q E h=>by
 obtain⟨p,vs',ds,P,_,rfl,_,r,t,_⟩:=h
 rw[ã,r.length,hn ds P t]
def Fo{x m:Int}(hm:0<m)(hb:m<=2 ^ 32):-(2 ^ 64)<x % m/\x % m<2 ^ 64:=by
 have h1:=Int.emod_nonneg x (b:=m) (by omega)
 have h2:=Int.emod_lt_of_pos x hm
 omega
def PSs.wk{X:Cx}{ss:List Stmt}{t t':TS}(h:PSs X ss t)(w:∀D σ H,t' D σ H->t D σ H):PSs X ss t':=λpins s σ H D I q=>h pins s σ H D I (w D σ H q)
def tDr(p:Addr):TS:=λD σ H=>∃(a2 a3:Option V) (m a b c:Int),σ=[some (.ref p),some (.int m),a2,a3]/\0<m/\m<1073741824/\H p=some (.lst [.int a,.int b,.int c])/\∀r' x,0<=r'->r'<m->D.rt (.int r') (upd H p (.lst [.int x,.int b,.int c]))
section
variable {P:Program}{w:World}{K:Ú}{mg:Str->Option Value}{base:Heap}{f:Addr}{fd:FuncData}
def Tg:FnScope ["_law_pen_here","_law_many","_law_drawn","_law_number"] ["_law_pen_here","_law_many"] (ao (top 49)):=zC
def Mg(F:Fun K "_law_draw" "_law_draw" (top 49) f fd)(B:Ĵ mg):FnOk P w K mg base CX0 1 f fd ["_law_pen_here","_law_many"] (spP CP jP):=by
 refine F.ok Tg dG (λcdv A outer s H vs Q E hr h=>?_)
 obtain⟨_,vs',ds,P,⟨p,rfl⟩,rfl,⟨a,b,c,hp⟩,rp,⟨m,rfl,m0,m30,hP⟩,q⟩:=h
 obtain rfl:vs'=[.int m]:=by
  cases rp with
  |cons h1 t=>cases h1;cases t;rfl
 have nd:=Tg.nd
 refine⟨_,į (p7 (j5 uG (fL cQ (pv 0) ĝ (λ_ _=>rfl)) ĝ (bM _))
   (į (ũ (i:=2) nd rfl (ć rfl) (bV iR (fL cQ (pv 0) ĝ (λ_ _=>rfl)) (pv 1)))
   (į (oY (bV wg (fL cQ (pv 0) ĝ (λ_ _=>rfl)) (pv 1)) (vQ (pv 0) ĝ set_list))
   (Ŭ (fJ (pv 2))))) iJ)
  (į (oY (bV iT (fL cQ (pv 0) ĝ (λ_ _=>rfl)) ĝ) (vQ (pv 0) ĝ set_list))
  (PSs.wk (t':=tDr p) (į (ũ (i:=3) nd rfl (ć rfl) (bV iR (bV lU (bV iT (bV iT (fL cQ (pv 0) ĝ (λ_ _=>rfl)) (bV lU ĝ (fL cQ (pv 0) ĝ (λ_ _=>rfl)))) ĝ) ĝ) ĝ))
  (į (ũ (i:=3) nd rfl (ć rfl) (bV iR (bV lU (pv 3) (bV iT (bV iT (bV iR (pv 3) ĝ) ĝ) (fL cQ (pv 0) ĝ (λ_ _=>rfl)))) ĝ))
  (į (oY (pv 3) (vQ (pv 0) ĝ set_list))
  (Ŭ (fJ (bV iR (bV wg (pv 3) ĝ) (pv 1))))))) ?dr)),?_⟩
 case dr =>
  rintro D σ H' ⟨a2,a3,m,a,b,c,rfl,m0,m30,hp,hq⟩
  have md:∀x:Int,0<=x % m/\x % m<m:=λx=>⟨Int.emod_nonneg _ (by omega),Int.emod_lt_of_pos _ m0⟩
  refine⟨_,rfl,p,_,_,_,rfl,rfl,SqL.of hp,rfl,_,rfl,p,_,_,_,rfl,rfl,SqL.of hp,rfl,_,_,rfl,rfl,.inl ⟨by decide,by decide⟩,_,_,rfl,rfl,_,_,rfl,rfl,_,_,rfl,rfl,.inr ⟨by decide,by decide⟩,_,_,rfl,rfl,(by show(0:Int)<2147483629;decide),?_⟩
  refine⟨_,rfl,_,rfl,_,_,rfl,rfl,(by show(0:Int)<65521;decide),_,_,rfl,rfl,_,rfl,p,_,_,_,rfl,rfl,SqL.of hp,rfl,_,_,rfl,rfl,_,_,rfl,rfl,.inl (Fo (by decide) (by decide)),_,_,rfl,rfl,(by show(0:Int)<2147483587;decide),?_⟩
  refine⟨_,rfl,_,rfl,p,_,_,_,rfl,rfl,hp,rfl,?_⟩
  exact⟨_,rfl,_,_,rfl,rfl,⟨by decide,by decide⟩,_,rfl,_,_,rfl,rfl,m0,hq _ _ (md _).1 (md _).2⟩
 have md:∀x:Int,0<=x % m/\x % m<m:=λx=>⟨Int.emod_nonneg _ (by omega),Int.emod_lt_of_pos _ m0⟩
 have fin:∀(H':Hp) (r:Int),0<=r->r<m->(∀b o,H b=some o->b≠p->H' b=some o)->u9 p H'->Q (.int r) H':=λH' r h1 h2 k e =>
  q _ _ _ (hP r h1 h2) (λb o e n=>k b o e λz=>n z) e (.int r)
 have kU:∀(H1:Hp) (o:HO),(∀b o,H b=some o->b≠p->H1 b=some o)->∀b u,H b=some u->b≠p->upd H1 p o b=some u:=λH1 o k b u e n=>by rw[aq n];exact k b u e n
 refine⟨_,rfl,p,_,_,_,rfl,rfl,SqL.of hp,rfl,rfl,_,rfl,fZ (λc1=>?_) (λc1=>?_)⟩
 ·exact⟨_,rfl,p,_,_,_,rfl,rfl,SqL.of hp,rfl,_,rfl,_,_,rfl,rfl,m0,_,rfl,p,_,_,_,rfl,rfl,SqL.of hp,rfl,_,rfl,_,_,rfl,rfl,⟨m0,m30⟩,_,rfl,p,_,_,_,rfl,rfl,hp,rfl,_,rfl,fin _ _ (md _).1 (md _).2 (kU _ _ λb o e _=>e) ⟨_,_,_,au⟩⟩
 ·refine⟨_,rfl,p,_,_,_,rfl,rfl,SqL.of hp,rfl,_,_,rfl,rfl,_,rfl,p,_,_,_,rfl,rfl,hp,rfl,?_⟩
  exact⟨_,_,m,a,b,c+1,rfl,m0,m30,au,λr' x h1 h2=>fin _ _ h1 h2 (kU _ _ (kU _ _ λb o e _=>e)) ⟨_,_,_,au⟩⟩
end
structure IsOrd(n:Int)(l:List Int):Prop where
 len:(l.length:Int)=n
 rng:∀x∈l,0<=x/\x<n
 nd:l.Nodup
def wZ(ds:List D)(P:D->Prop):Prop:=∃n:Int,ds=[.int n]/\0<=n/\n<=16/\∀l,IsOrd n l->P (.list (l.map Â))
def IsOrd.ins{k:Nat}{l:List Int}(h:IsOrd k l)(j:Nat):IsOrd ((k+1:Nat):Int) (l.take j++((k:Nat):Int)::l.drop j):=by
 have p:(l.take j++((k:Nat):Int)::l.drop j).Perm (((k:Nat):Int)::l):=by
  refine List.perm_middle.trans ?_
  rw[ų]
 refine⟨?_,λx hx=>?_,?_⟩
 ·rw[p.length_eq,ã]
  have:=h.len
  omega
 ·rcases Ñ.mp (p.mem_iff.mp hx) with z|z
  ·omega
  ·have:=h.rng x z
   omega
 ·refine p.symm.nodup ?_
  refine ś.mpr ⟨λz=>?_,h.nd⟩
  have:=h.rng _ z
  omega
section
variable {P:Program}{w:World}{K:Ú}{mg:Str->Option Value}{base:Heap}{f:Addr}{fd:FuncData}
def Tf:FnScope ["_law_pen_here","_law_n","_law_found","_law_place"] ["_law_pen_here","_law_n"] (ao (top 50)):=zC
abbrev xR(P:Program)(w:World)(K:Ú)(mg:Str->Option Value)(base:Heap)(k:Nat)(x:Str)(ps:List Str)(g:List D->(D->Prop)->Prop):Prop:=ø P w K mg base k x ps (spP CP g)
def Jc(F:Fun K "_law_order" "_law_order" (top 50) f fd)(B:Ĵ mg)(T:xR P w K mg base 1 "_law_draw" ["_law_pen_here","_law_many"] jP):FnOk P w K mg base CX0 2 f fd ["_law_pen_here","_law_n"] (spP CP wZ):=by
 refine F.ok Tf dG (λcdv A outer s H vs Q E hr h=>?_)
 have nd:=Tf.nd
 refine⟨_,aK (bH (some 0) (ũ (i:=2) nd rfl (ć rfl) (dZ ak)))
  (aK (iW î rfl (aN B.range (aj (dv 1) ak)) (aU (ĺ (i:=3) nd rfl (ć rfl)))
   (aL (FQ (i:=2) (cu (gP ù PySem.F.slot_list_insert PySem.F.type_list_insert uJ (pv 2) (aj (dcP T hr (pv 0) (aj (jC (dv 3) aG) ak)) (aj (dv 3) ak)))))))
  (aL (bB (dv 2)))),enterQ h ?_⟩
 rintro ds P ⟨n,rfl,n0,n16,q⟩
 refine⟨[.im (.int n),.any,.any],rfl,?_⟩
 refine⟨by decide,⟨by omega,by omega⟩,rfl,λ(i:Nat) ρ=>∃(l:List Int) (s:Sl),IsOrd i l/\s.region=none/\ρ=[.pen CP,.im (.int n),.dw 0 (.list (l.map Â)),s],⟨[],.any,⟨rfl,λx hx=>(nomatch hx),.nil⟩,rfl,rfl⟩,?_,?_⟩
 ·rintro i d ρ hd ⟨l,s,hl,hs,rfl⟩
  obtain⟨hi,rfl⟩:=š hd
  have hlen:=hl.len
  refine⟨rfl,_,rfl,by omega,by omega,λr r0 r1=>⟨rfl,r0,?_,?_,?_⟩⟩
  ·rw[Á];omega
  ·rw[Á];omega
  ·refine⟨l.take r.toNat++((i:Nat):Int)::l.drop r.toNat,.im (.int (0+((i:Nat):Int))),hl.ins r.toNat,rfl,?_⟩
   show [ż CP,Sl.im (.int n),Sl.dw 0 (.list ((l.map Â).take r.toNat++Â (0+((i:Nat):Int))::(l.map Â).drop r.toNat)),Sl.im _]=_
   rw[Ù,à,List.map_take,ű,Int.zero_add]
 ·rintro ρ ⟨l,s,hl,hs,rfl⟩
  rw[Ł] at hl
  have e:((n.toNat:Nat):Int)=n:=by omega
  rw[e] at hl
  exact⟨rfl,q l hl⟩
end
def bN(n:Int)(ts:List Tie):Prop:=∀t∈ts,(0<=t.1/\t.1<n)/\0<=t.2/\t.2<n
def bN.app{n:Int}{a b:List Tie}(h:bN n a)(h':bN n b):bN n (a++b):=λt ht=>(å.mp ht).elim (h t) (h' t)
def bN.one{n:Int}{t:Tie}(h:(0<=t.1/\t.1<n)/\0<=t.2/\t.2<n):bN n [t]:=λu hu=>by rw[Ô.mp hu];exact h
abbrev Nr(s:Sl):Prop:=s.region=none
def fgN{s:Sl}{r:Nat}(h:Nr s):(if s.region=some r then Sl.any else s)=s:=by rw[h];rfl
def gK.wk{X:Cx}{ss:List Stmt}{t t':DS}(h:gK X ss t)(w:∀P ρ,t' P ρ->t P ρ):gK X ss t':=PSs.wk' h (by
 rintro Q σ H ⟨p,H0,own,ρ,P,E,t,wi⟩
 exact⟨p,H0,own,ρ,P,E,w P ρ t,wi⟩)
def app1(ts:List Tie)(a b:Int):ts.map pD++[PyData.tuple [.int a,.int b]]=(ts++[((a,b):Tie)]).map pD:=by
 rw[Ù]
 rfl
def kW{P:DEnds}{ρ:List Sl}{rg:Option Nat}{i:Nat}{k:Kd}{d:D}{s:Sl}(e:stK rg ρ i (norm k d) d=some s)(h:P.nx (ρ.set i s)):(match stK rg ρ i (norm k d) d with
 |some s=>P.nx (ρ.set i s)
 |none=>False):=by
 rw[e]
 exact h
def yq{ok:Addr->Prop}{H:Hp}:∀ns:List Int,Rps ok H (ns.map V.int) (ns.map Â)
 |[]=>.nil
 |n::ns=>.cons (.int n) (yq ns)
structure Near(H0 H:Hp)(st:Addr)(as:List Addr)(L:Nat->List Int):Prop where
 top:H st=some (.lst (as.map V.ref))
 nd:as.Nodup
 out:∀a∈as,a≠st
 new:∀a∈as,H0 a=none
 row:∀(j:Nat) (a:Addr),as[j]?=some a->H a=some (.lst ((L j).map V.int))
def Near.app{H0 H:Hp}{st:Addr}{as:List Addr}{L:Nat->List Int}(h:Near H0 H st as L){j0:Nat}(hj:j0<as.length)(x:Int) :
  Near H0 (upd H as[j0] (.lst ((L j0).map V.int++[.int x]))) st as λj=>if j=j0 then L j++[x] else L j:=by
 refine⟨?_,h.nd,h.out,h.new,λj a e=>?_⟩
 ·rw[aq (Ĥ (h.out _ (ģ hj)))]
  exact h.top
 ·by_cases ej:j=j0
  ·subst ej
   rw[Ç hj] at e
   have e:=á e
   subst e
   show _=some (HO.lst ((if j=j then L j++[x] else L j).map V.int))
   rw[au,if_pos rfl,Ù]
   rfl
  ·show _=some (HO.lst ((if j=j0 then L j++[x] else L j).map V.int))
   rw[if_neg ej,aq ?_]
   ·exact h.row j a e
   ·intro z
    have hl:=(Ê.mp e).1
    have hz:as[j]=as[j0]:=by rw[(Ê.mp e).2];exact z
    exact ej ((List.getElem_inj h.nd).mp hz)
def lD(l:List Int):D:=.list (l.map Â)
def yh{ok:Addr->Prop}{H:Hp}:∀(as:List Addr) (L:Nat->List Int),(∀a∈as,ok a)->(∀(j:Nat) (a:Addr),as[j]?=some a->H a=some (.lst ((L j).map V.int)))->Rps ok H (as.map V.ref) ((Þ as.length).map λj=>lD (L j))
 |[],_,_,_=>.nil
 |a::as,L,h,r=>by
  rw[ã,List.range_succ_eq_map,à,à,õ]
  exact .cons (.lst (h a Æ) (r 0 a rfl) (yq (L 0))) (yh as (λj=>L (j+1)) (λb hb=>h b (Ã _ hb)) λj b e=>r (j+1) b e)
def IsOrd.at{n:Int}{l:List Int}(h:IsOrd n l){a:Int}(h0:0<=a)(h1:a<n):∃x:Int,atI (l.map Â) a=some (.int x)/\0<=x/\x<n:=by
 have hl:=h.len
 have hk:a.toNat<l.length:=by omega
 have ek:a=((a.toNat:Nat):Int):=by omega
 have z:atI (l.map Â) ((a.toNat:Nat):Int)=some (.int l[a.toNat]):=dN (by rw[ß,Ç hk];rfl)
 rw[←ek] at z
 exact⟨_,z,h.rng _ (ģ hk)⟩
def FT{α:Type}(l:List α){m:Int}(h0:0<=m)(h1:m<=l.length):dg l none (some m)=l.take m.toNat:=by
 unfold dg
 have e1:HT.sIx l.length 0 none=0:=rfl
 have e2:HT.sIx l.length l.length (some m)=m.toNat:=by
  have ek:m=((m.toNat:Nat):Int):=by omega
  rw[ek,HT.mO]
  omega
 rw[e1,e2,List.drop_zero,Nat.sub_zero]
def qR{H:Hp}{p:Addr}(h:H p=none)(o:HO):Same H (upd H p o):=λb u q=>by rw[aq (aB q h)];exact q
def J0(ds:List D)(P:D->Prop):Prop:=∃n:Int,ds=[.int n]/\2<=n/\n<=16/\∀a b:Int,0<=a->a<n->0<=b->b<n->a≠b->P (pD (a,b))
def QV{a r n:Int}(a0:0<=a)(a1:a<n)(r0:0<=r)(r1:r<n - 1):a≠(a+1+r) % n:=λe=>by
 by_cases h:a+1+r<n
 ·rw[Int.emod_eq_of_lt (by omega) h] at e
  omega
 ·have e2:(a+1+r) % n=a+1+r - n:=by
   rw[←Int.sub_emod_right,Int.emod_eq_of_lt (by omega) (by omega)]
  omega
section
variable {P:Program}{w:World}{K:Ú}{mg:Str->Option Value}{base:Heap}{f:Addr}{fd:FuncData}
def G9:FnScope ["_law_pen_here","_law_n","_law_a"] ["_law_pen_here","_law_n"] (ao (top 51)):=zC
def LR(F:Fun K "_law_pair" "_law_pair" (top 51) f fd)(T:xR P w K mg base 1 "_law_draw" ["_law_pen_here","_law_many"] jP):FnOk P w K mg base CX0 2 f fd ["_law_pen_here","_law_n"] (spP CP J0):=by
 refine F.ok G9 dG (λcdv A outer s H vs Q E hr h=>?_)
 have nd:=G9.nd
 refine⟨_,aK (bH none (ũ (i:=2) nd rfl (ć rfl) (dcP T hr (pv 0) (aj (dv 1) ak))))
  (aL (bB (cM (aj (dv 2) (aj (Qu (jC (jC (dv 2) aG) (dcP T hr (pv 0) (aj (o8 (dv 1) aG) ak))) (dv 1)) ak))))),enterQ h ?_⟩
 rintro ds P ⟨n,rfl,n2,n16,q⟩
 refine⟨[.im (.int n),.any],rfl,rfl,n,rfl,by omega,by omega,λa a0 a1=>⟨rfl,n - 1,rfl,by omega,by omega,λr r0 r1=>⟨(show(0:Int)<n by omega),zK,rfl,?_⟩⟩⟩
 exact q a _ a0 a1 (Int.emod_nonneg _ (by omega)) (Int.emod_lt_of_pos _ (by omega)) (QV a0 a1 r0 r1)
end
def Near.fresh{H0 H:Hp}{st c:Addr}{as:List Addr}{L:Nat->List Int}(h:Near H0 H st as L)(hc:H c=none)(hc0:H0 c=none) :
  Near H0 (upd (upd H c (.lst [])) st (.lst (as.map V.ref++[.ref c]))) st (as++[c]) λj=>if j=as.length then [] else L j:=by
 have cst:c≠st:=λe=>by rw[e,h.top] at hc;cases hc
 have ca:∀a∈as,a≠c:=λa ha e=>by
  obtain⟨j,hj,ej⟩:=List.mem_iff_getElem.mp ha
  have:=h.row j a (by rw[Ç hj,ej])
  rw[e,hc] at this
  cases this
 refine⟨?_,?_,λa ha=>?_,λa ha=>?_,λj a e=>?_⟩
 ·rw[au,Ù]
  rfl
 ·rw[List.nodup_append]
  exact⟨h.nd,by simp,λa ha b hb e=>by rw[Ô.mp hb] at e;exact ca a ha e⟩
 ·rcases å.mp ha with z|z
  ·exact h.out a z
  ·rw[Ô.mp z];exact cst
 ·rcases å.mp ha with z|z
  ·exact h.new a z
  ·rw[Ô.mp z];exact hc0
 ·by_cases hj:j<as.length
  ·rw[ú hj] at e
   have ha:=Î e
   rw[aq (h.out a ha),aq (ca a ha)]
   show _=some (HO.lst ((if j=as.length then [] else L j).map V.int))
   rw[if_neg (by omega)]
   exact h.row j a e
  ·have hl:=(Ê.mp e).1
   rw[È,Ü] at hl
   have ej:j=as.length:=by omega
   subst ej
   rw[é (Ì _),Nat.sub_self] at e
   have e:=á e
   subst e
   rw[aq cst,au]
   show _=some (HO.lst ((if as.length=as.length then [] else L as.length).map V.int))
   rw[if_pos rfl]
   rfl
def Near.keep{H0 H H':Hp}{st p:Addr}{as:List Addr}{L:Nat->List Int}(h:Near H0 H st as L)(hp:p≠st)(hpa:∀a∈as,a≠p)(k:∀b o,H b=some o->b≠p->H' b=some o):Near H0 H' st as L :=
 ⟨k _ _ h.top (Ĥ hp),h.nd,h.out,h.new,λj a e=>k _ _ (h.row j a e) (hpa a (Î e))⟩
structure RowsOk(n:Int)(i:Nat)(m:Nat)(L:Nat->List Int):Prop where
 one:1<=m
 few:m<=i+1
 ne:∀j,j<m->L j≠[]
 len:∀j,j<m->(L j).length<=i+1
 rng:∀j,j<m->∀x∈L j,0<=x/\x<n
def gM(m:Nat)(L:Nat->List Int):List D:=(Þ m).map λj=>lD (L j)
def fGr(ds:List D)(P:D->Prop):Prop:=∃n:Int,ds=[.int n]/\2<=n/\n<=8/\∀ts:List Tie,ts.length<=80->bN n ts->P (.list (ts.map pD))
def dGr:DS:=λP ρ=>∃(n:Int) (m:Nat) (L:Nat->List Int) (s3:Sl),Nr s3/\ρ=[.pen CP,.im (.int n),.sn (.list (gM m L)),s3,.any,.any,.any,.any,.any,.any,.any]/\2<=n/\n<=8/\RowsOk n 7 m L/\∀ts:List Tie,ts.length<=80->bN n ts->P.rt (.list (ts.map pD))
def La{m:Nat}{L:Nat->List Int}{i:Int}(h0:0<=i)(h1:i<m):atI (gM m L) i=some (lD (L i.toNat)):=by
 have ek:i=((i.toNat:Nat):Int):=by omega
 have z:atI (gM m L) ((i.toNat:Nat):Int)=some (lD (L i.toNat)):=dN (by unfold gM;rw[ß,List.getElem?_range (by omega)];rfl)
 rw[←ek] at z
 exact z
def int_at{l:List Int}{i:Int}(h0:0<=i)(h1:i<l.length):∃x,atI (l.map Â) i=some (.int x)/\x∈l:=by
 have ek:i=((i.toNat:Nat):Int):=by omega
 have hk:i.toNat<l.length:=by omega
 have z:atI (l.map Â) ((i.toNat:Nat):Int)=some (.int l[i.toNat]):=dN (by rw[ß,Ç hk];rfl)
 rw[←ek] at z
 exact⟨_,z,ģ hk⟩
def Dr{l:List Int}{i:Int}(h0:-1<=i)(h1:i<l.length)(hl:l≠[]):∃x,atI (l.map Â) i=some (.int x)/\x∈l:=by
 by_cases h:0<=i
 ·exact int_at h h1
 ·have e:i=-1:=by omega
  subst e
  have hd:=List.dropLast_concat_getLast hl
  have z:=oF (l.dropLast.map Â) (Â (l.getLast hl))
  have e2:l.dropLast.map Â++[Â (l.getLast hl)]=l.map Â:=by rw[show [Â (l.getLast hl)]=[l.getLast hl].map Â from rfl,←Ù,hd]
  rw[e2] at z
  exact⟨_,z,List.getLast_mem hl⟩
section
variable {P:Program}{w:World}{K:Ú}{mg:Str->Option Value}{base:Heap}{f:Addr}{fd:FuncData}
abbrev NGr:List Str:=["_law_pen_here","_law_n","_law_some","_law_place","_law_ties_here","_law_places","_law_k","_law_i","_law_j","_law_a","_law_b"]
def S9:FnScope NGr ["_law_pen_here","_law_n"] (ao (top 52)):=zC
def V4:(["_law_k","_law_pen_here","_law_n","_law_some","_law_place","_law_ties_here","_law_places","","_law_i","_law_j","_law_a","_law_b"]:List Str).Nodup:=by decide +kernel
abbrev RGr(n:Int)(m:Nat)(L:Nat->List Int)(ts:List Tie)(s3 s5 s6 s7 s8 s9 s10:Sl):List Sl:=[.pen CP,.im (.int n),.sn (.list (gM m L)),s3,.dw 0 (.list (ts.map pD)),s5,s6,s7,s8,s9,s10]
def Ph{n:Int}{m:Nat}{L:Nat->List Int}{ts ts':List Tie}{s3 s5 s6 s7 s8 s9 s10:Sl}(h3:Nr s3)(h5:Nr s5)(h6:Nr s6)(h7:Nr s7)(h8:Nr s8)(h9:Nr s9)(h10:Nr s10) :
  (forget 0 (RGr n m L ts s3 s5 s6 s7 s8 s9 s10)).set 4 (.dw 0 (.list (ts'.map pD)))=RGr n m L ts' s3 s5 s6 s7 s8 s9 s10:=by
 show [ż CP,Sl.im (.int n),Sl.sn (.list (gM m L)),(if s3.region=some 0 then Sl.any else s3),Sl.dw 0 (.list (ts'.map pD)),(if s5.region=some 0 then Sl.any else s5),(if s6.region=some 0 then Sl.any else s6),(if s7.region=some 0 then Sl.any else s7),(if s8.region=some 0 then Sl.any else s8),(if s9.region=some 0 then Sl.any else s9),(if s10.region=some 0 then Sl.any else s10)]=_
 rw[fgN h3,fgN h5,fgN h6,fgN h7,fgN h8,fgN h9,fgN h10]
def T7(F:Fun K "_law_grouped" "_law_grouped" (top 52) f fd)(B:Ĵ mg)(T:xR P w K mg base 1 "_law_draw" ["_law_pen_here","_law_many"] jP):FnOk P w K mg base CX0 2 f fd ["_law_pen_here","_law_n"] (spP CP fGr):=by
 refine F.ok S9 dG (λcdv A outer s H vs Q E hr h=>?_)
 obtain⟨_,vs',ds,P',⟨p,rfl⟩,rfl,hp0,rp,⟨n,rfl,n2,n8,hP⟩,q⟩:=h
 obtain rfl:vs'=[.int n]:=by
  cases rp with
  |cons h1 t=>cases h1;cases t;rfl
 have nd:=S9.nd
 have h24:=ô
 refine⟨_,į (ũ (i:=2) nd rfl (ć rfl) (jA (Ď (jA (Ď ĝ Ŝ)) Ŝ)))
  (į (oX î rfl (Ew rfl B.range (Ď ĝ (Ď (pv 1) Ŝ))) (ĺ (i:=3) nd rfl (ć rfl))
   (į (p7 (j5 uG (pcS T hr (Ď (pv 0) (Ď ĝ Ŝ)) (by decide) rfl (by decide) rfl rfl) ĝ (bM _)) (Ŭ (cu (gP ù Ś Ř gZ (pv 2) (Ď (jA Ŝ) Ŝ)))) iJ)
   (Ŭ (cu (gP ù Ś Ř gZ (fL cQ (pv 2) (NQ GJ ĝ) (λ_ _=>rfl)) (Ď (pv 3) Ŝ))))))
  (gK.wk (t':=dGr) (aK (bH (some 0) (ũ (i:=4) nd rfl (ć rfl) (dZ ak)))
   (aK (iW î rfl (dY (dv 2)) (aU (ĺ (i:=5) nd rfl (Or.inr rfl)))
    (aL (cJ (i:=4) (cu (gP ù ř ŗ gY (pv 4) (aj (o9 ["_law_k"] ["_law_pen_here","_law_n","_law_some","_law_place","_law_ties_here","_law_places","","_law_i","_law_j","_law_a","_law_b"] rfl (aN B.range (aj (dz B.len (aj (dv 5) ak)) ak)) (λc=>aU (ĺ (i:=0) V4 rfl (ć rfl))) (λc=>cI (iK (dz B.len (aj (dv 6) ak)) aG)) (λc=>cM (aj (gF (dv 6) (o8 (dv 0) aG) (λ_ _=>rfl)) (aj (gF (dv 6) (dv 0) (λ_ _=>rfl)) ak))) (hk:=rfl)) ak))))))
   (aK (iW î rfl (aN B.range (aj (dcP T hr (pv 0) (aj (jC (Ie aG (dz B.len (aj (dv 2) ak))) aG) ak)) ak)) (aU (ĺ (i:=6) nd rfl (ć rfl)))
    (aK (bH none (ũ (i:=7) nd rfl (ć rfl) (dcP T hr (pv 0) (aj (dz B.len (aj (dv 2) ak)) ak))))
    (aK (bH none (ũ (i:=8) nd rfl (ć rfl) (dcP T hr (pv 0) (aj (dz B.len (aj (dv 2) ak)) ak))))
    (aK (bH none (ũ (i:=9) nd rfl (ć rfl) (gF (gF (dv 2) (nu rfl B.min (aj (dv 7) (aj (dv 8) ak))) (λ_ _=>rfl)) (dcP T hr (pv 0) (aj (dz B.len (aj (gF (dv 2) (nu rfl B.min (aj (dv 7) (aj (dv 8) ak))) (λ_ _=>rfl)) ak)) ak)) (λ_ _=>rfl))))
    (aK (bH none (ũ (i:=10) nd rfl (ć rfl) (gF (gF (dv 2) (j7 rfl B.max (aj (dv 7) (aj (dv 8) ak))) (λ_ _=>rfl)) (dcP T hr (pv 0) (aj (dz B.len (aj (gF (dv 2) (j7 rfl B.max (aj (dv 7) (aj (dv 8) ak))) (λ_ _=>rfl)) ak)) ak)) (λ_ _=>rfl))))
    (aL (cY (HX (dv 7) (dv 8)) (aL (cZ (i:=4) (cu (gP ù Ś Ř gZ (pv 4) (aj (cM (aj (dv 9) (aj (dv 10) ak))) ak))))) gH)))))))
   (aL (bB (dv 4)))))) ?rest)),?_⟩
 case rest =>
  rintro P ρ ⟨n,m,L,s3,h3,rfl,n2,n8,ok,q⟩
  have lr:(gM m L).length=m:=by unfold gM;rw[Á,ō]
  have m8:=ok.few
  refine⟨by decide,?_⟩
  refine kW (s:=.dw 0 (.list [])) ?_ ?_
  ·show(if g8 0 [ż CP,.im (.int n),.sn (.list (gM m L)),s3,.any,.any,.any,.any,.any,.any,.any] 4=true then some (Sl.dw 0 (.list [])) else none)=_
   have e:g8 0 [ż CP,.im (.int n),.sn (.list (gM m L)),s3,.any,.any,.any,.any,.any,.any,.any] 4=true:=by
    show(s3.region != some 0&&true)=true
    rw[h3]
    rfl
   rw[if_pos e]
  refine⟨rfl,λ(i:Nat) ρ=>∃(ts:List Tie) (s5:Sl),Nr s5/\ρ=RGr n m L ts s3 s5 .any .any .any .any .any/\ts.length<=8 * i/\bN n ts,⟨[],.any,rfl,rfl,Ì _,λt ht=>nomatch ht⟩,?_,?_⟩
  ·rintro i d ρ hd ⟨ts,s5,h5,rfl,hl,okt⟩
   obtain⟨j,hj,rfl⟩:=cC hd
   have hj2:=(Ê.mp hj).2
   have hj1:=(Ê.mp hj).1
   rw[ō] at hj1
   have ej:j=i:=by rw[←hj2,List.getElem_range]
   subst ej
   have rl:=ok.len j hj1
   have rn:=ok.ne j hj1
   have rr:=ok.rng j hj1
   generalize hL:L j=l at rl rn rr
   have ll:(l.map Â).length=l.length:=Á ..
   refine⟨⟨by omega,by omega⟩,by rw[Ł];omega,.imm,λi ys=>∃us:List Tie,ys=us.map pD/\us.length<=i/\bN n us,⟨[],rfl,Ì _,λt ht=>nomatch ht⟩,?_,?_⟩
   ·rintro k d ys hd ⟨us,rfl,hu,oku⟩
    obtain⟨hk,rfl⟩:=š hd
    refine fZ (λc=>?_) (λc=>⟨us,rfl,by omega,oku⟩)
    obtain⟨x,ex,hx⟩:=Dr (l:=l) (i:=0+((k:Nat):Int) - 1) (by omega) (by omega) rn
    obtain⟨y,ey,hy⟩:=Dr (l:=l) (i:=0+((k:Nat):Int)) (by omega) (by omega) rn
    exact⟨.int x,ex,.int y,ey,zK,rfl,us++[(x,y)],app1 _ _ _,by rw[È,Ü];omega,oku.app (bN.one ⟨rr x hx,rr y hy⟩)⟩
   ·rintro ys ⟨us,rfl,hu,oku⟩
    rw[Ł] at hu
    have lm:(ts.map pD).length=ts.length:=Á ..
    have lu:(us.map pD).length=us.length:=Á ..
    refine⟨rfl,by omega,ts++us,.sn (lD l),rfl,?_,by rw[È];omega,okt.app oku⟩
    rw[←Ù]
    exact Ph (ts:=ts) h3 rfl rfl rfl rfl rfl rfl
  ·rintro ρ ⟨ts,s5,h5,rfl,hl,okt⟩
   rw[lr] at hl
   refine⟨rfl,.inl ⟨by decide,by decide⟩,2 * (((gM m L).length:Nat):Int)+1,rfl,by omega,by omega,λc c0 c1=>⟨⟨by omega,by omega⟩,rfl,λ(i:Nat) ρ=>∃(ts:List Tie) (s6 s7 s8 s9 s10:Sl),Nr s6/\Nr s7/\Nr s8/\Nr s9/\Nr s10/\ρ=RGr n m L ts s3 s5 s6 s7 s8 s9 s10/\ts.length<=64+i/\bN n ts,
    ⟨ts,.any,.any,.any,.any,.any,rfl,rfl,rfl,rfl,rfl,rfl,by omega,okt⟩,?_,?_⟩⟩
   ·rintro i d ρ hd ⟨ts,s6,s7,s8,s9,s10,h6,h7,h8,h9,h10,rfl,hl,okt⟩
    obtain⟨hi,rfl⟩:=š hd
    have lm:(ts.map pD).length=ts.length:=Á ..
    have m1:=ok.one
    refine⟨rfl,_,rfl,by omega,by omega,λa a0 a1=>⟨rfl,_,rfl,by omega,by omega,λb b0 b1=>?_⟩⟩
    rw[lr] at a1 b1
    have row:∀x:Int,0<=x->x<m->atI (gM m L) x=some (lD (L x.toNat))/\L x.toNat≠[]/\(L x.toNat).length<=8/\∀y∈L x.toNat,0<=y/\y<n:=λx x0 x1=>⟨La x0 x1,ok.ne _ (by omega),ok.len _ (by omega),ok.rng _ (by omega)⟩
    obtain⟨e1,ne1,le1,rg1⟩:=row (if b<a then b else a) (by split <;> omega) (by split <;> omega)
    obtain⟨e2,ne2,le2,rg2⟩:=row (if b > a then b else a) (by split <;> omega) (by split <;> omega)
    generalize L (if b<a then b else a).toNat=l1 at e1 ne1 le1 rg1
    generalize L (if b > a then b else a).toNat=l2 at e2 ne2 le2 rg2
    have ll1:(l1.map Â).length=l1.length:=Á ..
    have ll2:(l2.map Â).length=l2.length:=Á ..
    have p1:=List.length_pos_iff.mpr ne1
    have p2:=List.length_pos_iff.mpr ne2
    refine⟨_,e1,rfl,_,e1,_,rfl,by omega,by omega,λr r0 r1=>?_⟩
    obtain⟨x,ex,hx⟩:=int_at (l:=l1) r0 (by omega)
    refine⟨_,ex,_,e2,rfl,_,e2,_,rfl,by omega,by omega,λr' r0' r1'=>?_⟩
    obtain⟨y,ey,hy⟩:=int_at (l:=l2) r0' (by omega)
    refine⟨_,ey,fZ (λc=>⟨zK,rfl,by omega,ts++[(x,y)],.im (.int (0+((i:Nat):Int))),.im (.int a),.im (.int b),.im (.int x),.im (.int y),rfl,rfl,rfl,rfl,rfl,?_,by rw[È,Ü];omega,okt.app (bN.one ⟨rg1 x hx,rg2 y hy⟩)⟩) (λc=>⟨ts,.im (.int (0+((i:Nat):Int))),.im (.int a),.im (.int b),.im (.int x),.im (.int y),rfl,rfl,rfl,rfl,rfl,rfl,by omega,okt⟩)⟩
    have z:=Ph (n:=n) (m:=m) (L:=L) (ts:=ts) (ts':=ts++[(x,y)]) (s3:=s3) (s5:=s5) (s6:=.im (.int (0+((i:Nat):Int)))) (s7:=.im (.int a)) (s8:=.im (.int b)) (s9:=.im (.int x)) (s10:=.im (.int y)) h3 h5 rfl rfl rfl rfl rfl
    rw[←app1] at z
    exact z
   ·rintro ρ ⟨ts,s6,s7,s8,s9,s10,h6,h7,h8,h9,h10,rfl,hl,okt⟩
    rw[Ł] at hl
    exact⟨rfl,q ts (by omega) okt⟩
 -- the rows are made
 have hHp:∃o,H p=some o:=let ⟨a,b,c,e⟩:=hp0;⟨_,e⟩
 have newp:∀a,H a=none->a≠p:=λa e z=>by obtain⟨o,eo⟩:=hHp;rw[z,eo] at e;cases e
 refine⟨by show 1<=sizeLine;decide,λr0 hr0=>⟨by show 1<=sizeLine;decide,λst hst=>?_⟩⟩
 have rst:r0≠st:=λe=>by rw[←e,au] at hst;cases hst
 have hst0:H st=none:=by rw[aq (Ĥ rst)] at hst;exact hst
 have b1:=qR hr0 (.lst [V.int 0])
 have b2:=qR hst (.lst [V.ref r0])
 have hpst:=newp st hst0
 refine⟨_,rfl,1,n,rfl,by omega,kI (lo:=1) (n:=(n - 1).toNat) (λi σ H2=>∃(a3:Option V) (as:List Addr) (L:Nat->List Int),σ=[some (.ref p),some (.int n),some (.ref st),a3,none,none,none,none,none,none,none]/\Near H H2 st as L/\RowsOk n i as.length L/\(∀b o,H b=some o->b≠p->H2 b=some o)/\u9 p H2)
  ⟨none,[r0],λ_=>[0],rfl,⟨au,by simp,λa h=>by rw[Ô.mp h];exact rst,λa h=>by rw[Ô.mp h];exact hr0,λj a e=>?_⟩,⟨Ì _,Ì _,λ_ _=>by simp,λ_ _=>Ì _,λ_ _ x hx=>by rw[Ô.mp hx];omega⟩,λb o e _=>b2 _ _ (b1 _ _ e),?_⟩ ?_ ?_⟩
 ·have hl:=(Ê.mp e).1
  have ej:j=0:=by simpa using hl
  subst ej
  cases e
  rw[aq rst,au]
  rfl
 ·obtain⟨a,b,c,e⟩:=hp0
  exact⟨a,b,c,b2 _ _ (b1 _ _ e)⟩
 ·rintro i σ H2 hi ⟨a3,as,L,rfl,NE,ok,k2,pi2⟩
  have asp:∀a∈as,a≠p:=λa ha=>newp a (NE.new a ha)
  have m1:=ok.one
  have mf:=ok.few
  refine⟨_,rfl,vR p,[.int 3],[.int 3],(λd=>∃r:Int,d=.int r/\0<=r/\r<3),⟨p,rfl⟩,rfl,pi2,.cons (.int 3) .nil,⟨3,rfl,by decide,by decide,λr a b=>⟨r,rfl,a,b⟩⟩,?_⟩
  rintro d v H3 ⟨r,rfl,_,_⟩ k3 pi3 rv
  obtain rfl:=rv.int'
  have NE3:=NE.keep (Ĥ hpst) asp k3
  have kk:∀b o,H b=some o->b≠p->H3 b=some o:=λb o e hb=>k3 b o (k2 b o e hb) hb
  refine⟨rfl,_,rfl,fZ (λc=>?_) (λc=>?_)⟩
  ·refine⟨_,rfl,.inl ⟨rfl,_,SqL.of NE3.top⟩,by show 0<=sizeLine;decide,λz hz=>?_⟩
   have hz0:H z=none:=by
    cases e:H z with
    |none=>rfl
    |some o =>
     have zp:z≠p:=λy=>by
      obtain⟨a,b,c,e⟩:=pi3
      rw[y,e] at hz
      cases hz
     rw[kk z o e zp] at hz
     cases hz
   have NF:=NE3.fresh hz hz0
   have zst:st≠z:=λy=>by rw[←y,NE3.top] at hz;cases hz
   refine⟨st,_,_,rfl,rfl,by rw[aq zst];exact NE3.top,by rw[Á];omega,?_⟩
   have rowz:=NF.row as.length z (by rw[é (Ì _),Nat.sub_self];rfl)
   have la:as.length<(as++[z]).length:=by rw[È,Ü];omega
   have NG:=NF.app la (1+(i:Int))
   have ez:(as++[z])[as.length]=z:=by rw[List.getElem_append_right (Ì _)];simp
   rw[ez] at NG
   first|dsimp only at rowz|skip
   first|dsimp only at NG|skip
   rw[if_pos rfl] at rowz NG
   have lstz:atI ((as++[z]).map V.ref) (-1)=some (.ref z):=by rw[Ù];exact oF _ _
   refine⟨_,rfl,1,rfl,st,_,_,_,rfl,rfl,SqL.of NF.top,lstz,.inl ⟨rfl,_,SqL.of rowz⟩,_,rfl,z,_,_,rfl,rfl,rowz,by show 0<sizeLine;omega,?_⟩
   refine⟨_,as++[z],_,rfl,NG,⟨?_,?_,λj hj=>?_,λj hj=>?_,λj hj x hx=>?_⟩,λb o e hb=>?_,?_⟩
   ·rw[È];omega
   ·rw[È,Ü];omega
   ·first|dsimp only|skip
    by_cases ej:j=as.length
    ·rw[if_pos ej];simp
    ·rw[È,Ü] at hj
     rw[if_neg ej,if_neg ej];exact ok.ne j (by omega)
   ·first|dsimp only|skip
    by_cases ej:j=as.length
    ·rw[if_pos ej,if_pos ej];show 1<=_;omega
    ·rw[È,Ü] at hj
     rw[if_neg ej,if_neg ej];have:=ok.len j (by omega);omega
   ·first|dsimp only at hx|skip
    by_cases ej:j=as.length
    ·rw[if_pos ej,if_pos ej] at hx
     rw[Ô.mp hx]
     omega
    ·rw[È,Ü] at hj
     rw[if_neg ej,if_neg ej] at hx;exact ok.rng j (by omega) x hx
   ·have e3:=kk b o e hb
    have bz:b≠z:=aB e3 hz
    have bs:b≠st:=aB e hst0
    rw[aq bz,aq bs,aq bz]
    exact e3
   ·obtain⟨a,b,c,e⟩:=pi3
    have pz:p≠z:=aB e hz
    exact⟨a,b,c,by rw[aq pz,aq (Ĥ hpst),aq pz];exact e⟩
  ·have la:as.length - 1<as.length:=by omega
   have NG:=NE3.app la (1+(i:Int))
   have rowz:=NE3.row _ _ (Ç la)
   have hlen:=ok.len _ la
   have as0:H as[as.length - 1]=none:=NE3.new _ (ģ la)
   have lst:atI (as.map V.ref) (-1)=some (.ref as[as.length - 1]):=by
    have hne:as≠[]:=λe=>by rw[e] at m1;exact absurd m1 (by decide)
    have e1:=List.dropLast_concat_getLast hne
    have e2:as.getLast hne=as[as.length - 1]:=List.getLast_eq_getElem hne
    have z:=oF (as.dropLast.map V.ref) (V.ref (as.getLast hne))
    rw[show [V.ref (as.getLast hne)]=[as.getLast hne].map V.ref from rfl,←Ù,e1,e2] at z
    exact z
   refine⟨_,rfl,1,rfl,st,_,_,_,rfl,rfl,SqL.of NE3.top,lst,.inl ⟨rfl,_,SqL.of rowz⟩,_,rfl,as[as.length - 1],_,_,rfl,rfl,rowz,by rw[Á];omega,?_⟩
   refine⟨_,as,_,rfl,NG,⟨m1,by omega,λj hj=>?_,λj hj=>?_,λj hj x hx=>?_⟩,λb o e hb=>?_,?_⟩
   ·split
    ·simp
    ·exact ok.ne j hj
   ·have:=ok.len j hj
    split
    ·rw[È,Ü];omega
    ·omega
   ·have hr:=ok.rng j hj
    split at hx
    ·rcases å.mp hx with z|z
     ·exact hr x z
     ·rw[Ô.mp z];omega
    ·exact hr x hx
   ·rw[aq (aB e as0)]
    exact kk b o e hb
   ·obtain⟨a,b,c,e⟩:=pi3
    exact⟨a,b,c,by rw[aq (Ĥ (asp _ (ģ la)))];exact e⟩
 ·rintro σ H2 ⟨a3,as,L,rfl,NE,ok,k2,pi2⟩
  have asp:∀a∈as,a≠p:=λa ha=>newp a (NE.new a ha)
  refine⟨vR p,H,λ_=>none,[.pen CP,.im (.int n),.sn (.list (gM as.length L)),.any,.any,.any,.any,.any,.any,.any,.any],{ nx:=λ_=>False,rt:=P' },?_,⟨n,as.length,L,.any,rfl,rfl,n2,n8,⟨ok.one,by have:=ok.few;omega,ok.ne,λj hj=>by have:=ok.len j hj;omega,ok.rng⟩,hP⟩,?_⟩
  ·refine⟨λb o e hb=>k2 b o e hb,pi2,λa r e=>(nomatch e),λj s' e=>?_,rfl,trivial⟩
   rcases j with _|_|_|j
   ·cases e
    exact⟨rfl,p,rfl⟩
   ·cases e
    exact⟨.int n,rfl,.int n⟩
   ·cases e
    refine⟨.ref st,rfl,.lst ⟨hst0,hpst,rfl⟩ NE.top ?_⟩
    exact yh (ok:=λa=>H a=none/\¬(vR p).fp a/\(none:Option Nat)=none) (H:=H2) as L (λa h=>⟨NE.new a h,asp a h,rfl⟩) NE.row
   ·have hm:s'∈É 8 Sl.any:=Î (i:=j) e
    have e2:=(Ķ.mp hm).2
    subst e2
    trivial
  ·exact⟨λ_ _ _ _ _ _ n=>n.elim,λd v h' n w=>q d v h' n w.k0 w.pen (w.rp.mono (λ_ o=>o.1) (λ_ _ _ e=>e) λ_ _ e=>e),λ_ _ _ _ _ _ n=>n.elim,λ_ _ _ _ _ _ n=>n.elim⟩
end
def zj{α:Type}(l:List α)(m:Nat):dg l none (some (m:Int))=l.take m:=by
 unfold dg
 have e1:HT.sIx l.length 0 none=0:=rfl
 have e2:HT.sIx l.length l.length (some (m:Int))=min m l.length:=HT.mO _ _ _
 rw[e1,e2,List.drop_zero,Nat.sub_zero]
 by_cases h:m<=l.length
 ·rw[Nat.min_eq_left h]
 ·rw[Nat.min_eq_right (by omega),ē,ū (by omega)]
def vI{α β:Type}(f:α->β)(l:List α):∀m:Nat,(É m (l.map f)).flatten=(É m l).flatten.map f
 |0=>rfl
 |m+1=>by rw[Ą,Ą,ë,ë,Ù,vI f l m]
def Cz{α:Type}(l:List α):∀m:Nat,(É m l).flatten.length=l.length * m
 |0=>rfl
 |m+1=>by rw[Ą,ë,È,Cz l m,Nat.mul_succ,Nat.add_comm]
def bN.rep{n:Int}{l:List Tie}(h:bN n l):∀m:Nat,bN n (É m l).flatten
 |0=>λt ht=>nomatch ht
 |m+1=>by rw[Ą,ë];exact h.app (bN.rep h m)
def RM{P:DEnds}{ρ:List Sl}{rg:Option Nat}{i:Nat}{k:Kd}{d:D}{s:Sl}(e:stK rg ρ i (norm k d) d=some s)(h:P.nx (ρ.set i s)):Bt i rg (λ_ P=>P k d) P ρ:=kW e h
def Ox(ds:List D)(P:D->Prop):Prop:=∃n:Int,ds=[.int n]/\1<=n/\n<=8/\∀ts:List Tie,ts.length<=40->bN n ts->P (.list (ts.map pD))
def UL(ds:List D)(P:D->Prop):Prop:=∃m:Int,ds=[.int m]/\1<=m/\m<=8/\∀(n:Int) (us:List Tie),1<=n->n<=8->us.length<=40->bN n us->P (aD n us)
abbrev RT(n k:Int)(ts:List Tie)(s4:Sl):List Sl:=[.pen CP,.im (.int n),.im (.int k),.dw 0 (.list (ts.map pD)),s4]
def Vl{n k:Int}{ts:List Tie}{ds':List D}{s4:Sl}(h4:Nr s4):(forget 0 (RT n k ts s4)).set 3 (.dw 0 (.list ds'))=[.pen CP,.im (.int n),.im (.int k),.dw 0 (.list ds'),s4]:=by
 show [ż CP,Sl.im (.int n),Sl.im (.int k),Sl.dw 0 (.list ds'),(if s4.region=some 0 then Sl.any else s4)]=_
 rw[fgN h4]
def Ov{n k:Int}{ts:List Tie}{s4:Sl}(h4:Nr s4):g8 0 (RT n k ts s4) 3=true:=by
 show(s4.region != some 0&&true)=true
 rw[h4]
 rfl
def pL(L:Nat):DS:=λP ρ=>∃(n k:Int) (ts:List Tie) (s4:Sl),1<=n/\n<=8/\Nr s4/\ρ=RT n k ts s4/\ts.length<=L/\bN n ts/\∀us:List Tie,us.length<=40->bN n us->P.rt (.list (us.map pD))
def pL.on{L:Nat}{P:DEnds}{n k:Int}{ts:List Tie}{s4:Sl}(n1:1<=n)(n8:n<=8)(h4:Nr s4)(hl:ts.length<=L)(ok:bN n ts)(q:∀us:List Tie,us.length<=40->bN n us->P.rt (.list (us.map pD))):pL L P (RT n k ts s4) :=
 ⟨n,k,ts,s4,n1,n8,h4,rfl,hl,ok,q⟩
section
variable {P:Program}{w:World}{K:Ú}{mg:Str->Option Value}{base:Heap}{f:Addr}{fd:FuncData}
abbrev N18:List Str:=["_law_pen_here","_law_n","_law_kind","_law_ties_here","_law_a"]
def Te:FnScope N18 ["_law_pen_here","_law_n"] (ao (top 53)):=zC
def Oh:(["_law_k","_law_pen_here","_law_n","_law_kind","_law_ties_here","_law_a"]:List Str).Nodup:=by decide +kernel
def Uh:(["_law_b","_law_pen_here","_law_n","_law_kind","_law_ties_here","_law_a"]:List Str).Nodup:=by decide +kernel
def LK(F:Fun K "_law_ties" "_law_ties" (top 53) f fd)(B:Ĵ mg)(T:xR P w K mg base 1 "_law_draw" ["_law_pen_here","_law_many"] jP)(PR:xR P w K mg base 2 "_law_pair" ["_law_pen_here","_law_n"] J0)(GR:xR P w K mg base 2 "_law_grouped" ["_law_pen_here","_law_n"] fGr):FnOk P w K mg base CX0 3 f fd ["_law_pen_here","_law_n"] (spP CP Ox):=by
 refine F.ok Te dG (λcdv A outer s H vs Q E hr h=>?_)
 have nd:=Te.nd
 refine⟨_,aK (bH none (ũ (i:=2) nd rfl (ć rfl) (dcP T hr (pv 0) (aj aG ak))))
  (aK (bH (some 0) (ũ (i:=3) nd rfl (ć rfl) (dZ ak)))
  (aK (cY (PDW.pt (gn (iK (dv 1) aG) (eF (Ez (Hq uF uF aG (dv 2) aG) Dh))))
   (aK (bH (some 0) (ũ (i:=3) nd rfl (ć rfl) (Qs (dcP GR hr (pv 0) (aj (dv 1) ak)) (jC aG (Lp (dv 2) aG)))))
   (aL (cJ (i:=3) (cu (gP ù ř ŗ gY (pv 3) (aj (cB ["_law_k"] rfl (aN B.range (aj (dcP T hr (pv 0) (aj aG ak)) ak)) (λc=>aU (ĺ (i:=0) Oh rfl (ć rfl))) (λc=>d8) (λc=>dcP PR hr (pv 1) (aj (dv 2) ak))) ak)))))) gH)
  (gK.wk (t':=pL 170) (aK (cY (PDW.pt (gn (iK (dv 1) aG) (eF (dU hr.units (dv 2) (cM (aj aG (aj aG ak)))))))
   (aL (bH (some 0) (PS.wk' (NK ["_law_k"] (i:=3) rfl nd rfl (ć rfl) (aN B.range (aj (dcP T hr (pv 0) (aj (jC (Ie aG (dv 1)) aG) ak)) ak)) (λc=>aU (ĺ (i:=0) Oh rfl (ć rfl))) (λc=>d8) (λc=>dcP PR hr (pv 1) (aj (dv 2) ak))) (λD σ H q=>nJ σ H _ q)))) gH)
  (gK.wk (t':=pL 170) (aK (cY (HY (dv 2) aG)
   (aL (iW î rfl (aN B.range (aj (dv 1) ak)) (aU (ĺ (i:=4) nd rfl (Or.inr rfl)))
    (aL (cJ (i:=3) (cu (gP ù ř ŗ gY (pv 3) (aj (cB ["_law_b"] rfl (aN B.range (aj (dv 1) ak)) (λc=>aU (ĺ (i:=0) Uh rfl (ć rfl))) (λc=>cI (HX (dv 5) (dv 0))) (λc=>cM (aj (dv 5) (aj (dv 0) ak)))) ak))))))) gH)
  (aL (bB (Ah (dv 3) iY (dJ aG))))) ?m2)) ?m1))),enterQ h ?_⟩
 case m1 =>
  rintro P ρ ⟨n,k,ts,s4,n1,n8,h4,rfl,hl,ok,q⟩
  refine fZ (λc1=>⟨by decide,rfl,rfl,fZ (λc2=>?_) (λc2=>pL.on n1 n8 h4 hl ok q)⟩) (λc1=>aX (pL.on n1 n8 h4 hl ok q))
  have c1:1<n:=of_decide_eq_true c1
  refine⟨rfl,.inl ⟨by decide,by decide⟩,_,rfl,by omega,by omega,λr r0 r1=>⟨⟨by omega,by omega⟩,by rw[Ł];omega,.imm,λi ys=>∃us:List Tie,ys=us.map pD/\us.length=i/\bN n us,⟨[],rfl,rfl,λt ht=>nomatch ht⟩,?_,?_⟩⟩
  ·rintro i d ys hd ⟨us,rfl,hu,oku⟩
   obtain⟨hi,rfl⟩:=š hd
   exact aM (B:=True) ⟨rfl,n,rfl,by omega,by omega,λa b a0 a1 b0 b1 _=>⟨rfl,us++[(a,b)],app1 _ _ _,by rw[È,Ü,hu],oku.app (bN.one ⟨⟨a0,a1⟩,b0,b1⟩)⟩⟩
  ·rintro ys ⟨us,rfl,hu,oku⟩
   rw[Ł] at hu
   refine kW (s:=.dw 0 (.list (us.map pD))) ?_ (pL.on n1 n8 h4 (by omega) oku q)
   show(if g8 0 (RT n k ts s4) 3=true then some (Sl.dw 0 (.list (us.map pD))) else none)=_
   rw[if_pos (Ov h4)]
 case m2 =>
  rintro P ρ ⟨n,k,ts,s4,n1,n8,h4,rfl,hl,ok,q⟩
  -- what is told
  have fin:∀(ts:List Tie) (s4:Sl),bN n ts->Bv (Sg (tV 3) (Jj) (Ji (tK (.int 40)))) P (RT n k ts s4):=λts s4 ok=>by
   refine .inl ⟨?_,rfl,?_⟩
   ·show dH (dg (ts.map pD) none (some ((40:Nat):Int)))=true
    rw[zj,←List.map_take]
    exact cX _
   ·show P.rt (.list (dg (ts.map pD) none (some ((40:Nat):Int))))
    rw[zj,←List.map_take]
    exact q _ (by rw[Ģ];omega) λt ht=>ok t (List.mem_of_mem_take ht)
  refine fZ (λc=>⟨⟨by omega,by omega⟩,rfl,λ(i:Nat) ρ=>∃(ts:List Tie) (s4:Sl),Nr s4/\ρ=RT n k ts s4/\ts.length<=170+8 * i/\bN n ts,⟨ts,s4,h4,rfl,hl,ok⟩,?_,?_⟩) (λc=>fin ts s4 ok)
  ·rintro i d ρ hd ⟨ts,s4,h4,rfl,hl,ok⟩
   obtain⟨hi,rfl⟩:=š hd
   refine⟨⟨by omega,by omega⟩,by rw[Ł];omega,.imm,λi ys=>∃us:List Tie,ys=us.map pD/\us.length<=i/\bN n us,⟨[],rfl,Ì _,λt ht=>nomatch ht⟩,?_,?_⟩
   ·rintro j d ys hd ⟨us,rfl,hu,oku⟩
    obtain⟨hj,rfl⟩:=š hd
    refine fZ (λc=>⟨zK,rfl,us++[(0+((i:Nat):Int),0+((j:Nat):Int))],app1 _ _ _,by rw[È,Ü];omega,oku.app (bN.one ⟨⟨by omega,by omega⟩,by omega,by omega⟩)⟩) (λc=>⟨us,rfl,by omega,oku⟩)
   ·rintro ys ⟨us,rfl,hu,oku⟩
    rw[Ł] at hu
    have lm:(ts.map pD).length=ts.length:=Á ..
    have lu:(us.map pD).length=us.length:=Á ..
    refine⟨rfl,by omega,ts++us,.im (.int (0+((i:Nat):Int))),rfl,?_,by rw[È];omega,ok.app oku⟩
    rw[←Ù]
    exact Vl (s4:=.im (.int (0+((i:Nat):Int)))) rfl
  ·rintro ρ ⟨ts,s4,h4,rfl,hl,ok⟩
   exact fin ts s4 ok
 rintro ds P ⟨n,rfl,n1,n8,q⟩
 refine⟨[.im (.int n),.any,.any,.any],rfl,rfl,8,rfl,by decide,by decide,λk k0 k1=>⟨by decide,?_⟩⟩
 refine fZ (λc1=>?_) (λc1=>aX (pL.on (ts:=[]) n1 n8 rfl (by decide) (λt ht=>nomatch ht) q))
 have c1:1<n:=of_decide_eq_true c1
 show if decide ((0:Int)<k)=true then _ else _
 refine fZ (λc2=>?_) (λc2=>aX (pL.on (ts:=[]) n1 n8 rfl (by decide) (λt ht=>nomatch ht) q))
 show if decide (k<(5:Int))=true then _ else _
 refine fZ (λc3=>?_) (λc3=>pL.on (ts:=[]) n1 n8 rfl (by decide) (λt ht=>nomatch ht) q)
 refine⟨rfl,n,rfl,by omega,n8,λts lt ok=>⟨⟨by decide,by decide⟩,?_⟩⟩
 have k4:0<=k / 4/\k / 4<=1:=by omega
 have e4:(1+k / 4).toNat<=2:=by omega
 have lm:(ts.map pD).length=ts.length:=Á ..
 have lr:ts.length * (1+k / 4).toNat<=160:=by
  have:=ĳ lt e4
  omega
 refine⟨by omega,by omega,by rw[lm];omega,.inl ⟨?_,?_⟩⟩
 ·rw[vI];exact cX _
 rw[vI]
 have hl2:=Cz ts (1+k / 4).toNat
 have ok2:=ok.rep (1+k / 4).toNat
 generalize (É (1+k / 4).toNat ts).flatten=ts2 at hl2 ok2
 show Bt 3 (some 0) (λ_ P=>P .new (.list (ts2.map pD))) _ (RT n k [] .any)
 refine RM (s:=.dw 0 (.list (ts2.map pD))) ?_ ?_
 ·show(if g8 0 (RT n k [] .any) 3=true then some (Sl.dw 0 (.list (ts2.map pD))) else none)=_
  rw[if_pos (Ov rfl)]
 refine⟨rfl,3,rfl,by decide,by decide,λr r0 r1=>⟨⟨by omega,by omega⟩,by rw[Ł];omega,.imm,λi ys=>∃us:List Tie,ys=us.map pD/\us.length=i/\bN n us,⟨[],rfl,rfl,λt ht=>nomatch ht⟩,?_,?_⟩⟩
 ·rintro i d ys hd ⟨us,rfl,hu,oku⟩
  obtain⟨hi,rfl⟩:=š hd
  exact aM (B:=True) ⟨rfl,n,rfl,by omega,by omega,λa b a0 a1 b0 b1 _=>⟨rfl,us++[(a,b)],app1 _ _ _,by rw[È,Ü,hu],oku.app (bN.one ⟨⟨a0,a1⟩,b0,b1⟩)⟩⟩
 ·rintro ys ⟨us,rfl,hu,oku⟩
  rw[Ł] at hu
  have lm:(ts2.map pD).length=ts2.length:=Á ..
  have lu:(us.map pD).length=us.length:=Á ..
  refine⟨rfl,by omega,?_⟩
  have z:=Vl (n:=n) (k:=k) (ts:=ts2) (ds':=ts2.map pD++us.map pD) (s4:=.any) rfl
  show pL 170 _ ((forget 0 (RT n k ts2 .any)).set 3 _)
  rw[z,←Ù]
  exact pL.on n1 n8 rfl (by rw[È];omega) (ok2.app oku) q
def Td:FnScope ["_law_pen_here","_law_most","_law_n","_law_order_here"] ["_law_pen_here","_law_most"] (ao (top 54)):=zC
def Og:(["_law_a","_law_b","_law_pen_here","_law_most","_law_n","_law_order_here"]:List Str).Nodup:=by decide +kernel
def LC(F:Fun K "_law_web" "_law_web" (top 54) f fd)(B:Ĵ mg)(T:xR P w K mg base 1 "_law_draw" ["_law_pen_here","_law_many"] jP)(OR:xR P w K mg base 2 "_law_order" ["_law_pen_here","_law_n"] wZ)(TI:xR P w K mg base 3 "_law_ties" ["_law_pen_here","_law_n"] Ox):FnOk P w K mg base CX0 4 f fd ["_law_pen_here","_law_most"] (spP CP UL):=by
 refine F.ok Td dG (λcdv A outer s H vs Q E hr h=>?_)
 have nd:=Td.nd
 refine⟨_,aK (bH none (ũ (i:=2) nd rfl (ć rfl) (jC aG (dcP T hr (pv 0) (aj (dv 1) ak)))))
  (aK (bH none (ũ (i:=3) nd rfl (Or.inr rfl) (dcP OR hr (pv 0) (aj (dv 2) ak))))
  (aL (bB (cM (aj (dv 2) (aj (iM B.tuple (aj (eG B.sorted (aj (cB ["_law_a","_law_b"] rfl (dY (dcP TI hr (pv 0) (aj (dv 2) ak))) (λc=>fW (n:=2) rfl (jQ (aU (ĺ (i:=0) Og rfl (ć rfl))) (jQ (aU (ĺ (i:=1) Og rfl (ć rfl))) dM))) (λc=>d8) (λc=>cM (aj (gF (dv 5) (dv 0) (λ_ _=>rfl)) (aj (gF (dv 5) (dv 1) (λ_ _=>rfl)) ak)))) ak)) ak)) ak)))))),enterQ h ?_⟩
 rintro ds P ⟨m,rfl,m1,m8,q⟩
 refine⟨[.im (.int m),.any,.any],rfl,?_⟩
 refine⟨rfl,m,rfl,by omega,by omega,λr r0 r1=>⟨rfl,1+r,rfl,by omega,by omega,λl hl=>⟨rfl,1+r,rfl,by omega,by omega,λts lt ok=>?_⟩⟩⟩
 have lm:(ts.map pD).length=ts.length:=Á ..
 refine⟨by omega,.imm,λi ys=>∃us:List Tie,ys=us.map pD/\us.length=i/\bN (1+r) us,⟨[],rfl,rfl,λt ht=>nomatch ht⟩,?_,?_⟩
 ·rintro i d ys hd ⟨us,rfl,hu,oku⟩
  obtain⟨t,ht,rfl⟩:=cC hd
  obtain⟨⟨a0,a1⟩,b0,b1⟩:=ok t (Î ht)
  obtain⟨x,ex,x0,x1⟩:=hl.at a0 a1
  obtain⟨y,ey,y0,y1⟩:=hl.at b0 b1
  exact⟨rfl,aM (B:=True) ⟨.int x,ex,.int y,ey,zK,rfl,us++[(x,y)],app1 _ _ _,by rw[È,Ü,hu],oku.app (bN.one ⟨⟨x0,x1⟩,y0,y1⟩)⟩⟩
 rintro ys ⟨vs,rfl,hv,okv⟩
 refine⟨vs,.inl rfl,by omega,λt ht=>⟨(okv t ht).2.1,by have:=(okv t ht).2.2;omega⟩,λus' hp _=>⟨zK,?_,q (1+r) us' (by omega) (by omega) (by rw[hp.length_eq];omega) λt ht=>okv t (hp.mem_iff.mp ht)⟩⟩
 have e:=d7 (1+r) us'
 show(norm _ (aD (1+r) us')).le .n0=true
 rw[dD e]
 rfl
end
def subs:Nat->List (List Int)
 |0=>[[]]
 |k+1=>subs k++(subs k).map λl=>l++[0+((k:Nat):Int)]
def cD:∀k,(subs k).length=2 ^ k
 |0=>rfl
 |k+1=>by
  show(subs k++(subs k).map _).length=_
  rw[È,Á,cD k,Ů]
  omega
def uo:∀k,∃r,subs k=[]::r/\∀l∈r,l≠[]
 |0=>⟨[],rfl,λl h=>nomatch h⟩
 |k+1=>by
  obtain⟨r,e,h⟩:=uo k
  refine⟨r++(subs k).map λl=>l++[0+((k:Nat):Int)],?_,λl hl=>?_⟩
  ·have h2:∀M:List (List Int),subs k++M=[]::(r++M):=λM=>by rw[e];rfl
   exact h2 _
  ·rcases å.mp hl with z|z
   ·exact h l z
   ·obtain⟨a,_,rfl⟩:=ê.mp z
    simp
def jZ:∀k (l:List Int),l∈subs k->l.Pairwise (·<·)/\(∀x∈l,0<=x/\x<k)/\l.length<=k
 |0,l,h=>by
  rw[Ô.mp h]
  exact⟨.nil,λx h=>(nomatch h),Ì _⟩
 |k+1,l,h=>by
  rcases å.mp h with z|z
  ·obtain⟨h1,h2,h3⟩:=jZ k l z
   exact⟨h1,λx hx=>by have:=h2 x hx;omega,by omega⟩
  ·obtain⟨a,ha,rfl⟩:=ê.mp z
   obtain⟨h1,h2,h3⟩:=jZ k a ha
   refine⟨List.pairwise_append.mpr ⟨h1,by simp,λx hx y hy=>?_⟩,λx hx=>?_,by rw[È,Ü];omega⟩
   ·rw[Ô.mp hy]
    have:=h2 x hx
    omega
   ·rcases å.mp hx with z|z
    ·have:=h2 x z;omega
    ·rw[Ô.mp z];omega
def mX(k:Nat):List Int:=(Þ k).map λi=>0+((i:Nat):Int)
def wX(p:Int->Bool):∀k,(mX k).filter p∈subs k
 |0=>Ô.mpr rfl
 |k+1=>by
  have e:mX (k+1)=mX k++[0+((k:Nat):Int)]:=by
   unfold mX
   rw[List.range_succ,Ù]
   rfl
  rw[e,List.filter_append]
  cases hp:p (0+((k:Nat):Int)) with
  |true =>
   rw[List.filter_cons_of_pos hp]
   exact ì _ (ê.mpr ⟨_,wX p k,rfl⟩)
  |false =>
   rw[List.filter_cons_of_neg (by rw[hp];exact Ò)]
   rw[List.filter_nil,ð]
   exact ī _ (wX p k)
def nF{k:Nat}{x:Int}:x∈mX k↔0<=x/\x<k:=by
 unfold mX
 rw[ê]
 constructor
 ·rintro⟨i,hi,rfl⟩
  have:=Ī.mp hi
  omega
 ·rintro⟨h0,h1⟩
  exact⟨x.toNat,Ī.mpr (by omega),by omega⟩
def fSB(ds:List D)(P:D->Prop):Prop:=∃c:Int,ds=[.int c]/\0<=c/\c<=8/\P (.list ((subs c.toNat).map lD))
def iV(l:List Int)(t:Tie):Bool:=!decide (t.1∈l)&&decide (t.2∈l)
def gR(l:List Int)(t:Tie):Bool:=decide (t.1∈l)&&!decide (t.2∈l)
def inN(us:List Tie)(l:List Int):Nat:=(us.filter (iV l)).length
def jl(us:List Tie)(l:List Int):Nat:=(us.filter (gR l)).length
def Um(us:List Tie)(l:List Int):(us.filter (lv l)).filter (λt=>decide (t.2∈l))=us.filter (iV l):=by
 rw[List.filter_filter]
 congr 1
 funext t
 unfold lv iV
 cases decide (t.1∈l) <;> cases decide (t.2∈l) <;> rfl
def Qv(us:List Tie)(l:List Int):(us.filter (lv l)).filter (λt=>decide (t.1∈l))=us.filter (gR l):=by
 rw[List.filter_filter]
 congr 1
 funext t
 unfold lv gR
 cases decide (t.1∈l) <;> cases decide (t.2∈l) <;> rfl
def U6(ds:List D)(P:D->Prop):Prop:=∃n us l,ds=[aD n us,.list (l.map Â)]/\Proper n l/\us.length<=100/\P (.int (inN us l:Nat))
def OD(ds:List D)(P:D->Prop):Prop:=∃n us l,ds=[aD n us,.list (l.map Â)]/\Proper n l/\us.length<=100/\P (.int (jl us l:Nat))
def byS(us:List Tie)(s:Str)(l:List Int):Nat:=if s="in" then inN us l else jl us l
def fTB(ds:List D)(P:D->Prop):Prop:=∃n us s l,ds=[aD n us,.str s,.list (l.map Â)]/\Proper n l/\us.length<=100/\P (.int (byS us s l:Nat))
def nd1(fa:Int)(m:Nat):Int:=if 0 > fa+1 - (m:Int) then 0 else fa+1 - (m:Int)
def fON(ds:List D)(P:D->Prop):Prop:=∃n us fa s l,ds=[aD n us,.int fa,.str s,.list (l.map Â)]/\Proper n l/\us.length<=100/\P (.int (nd1 fa (byS us s l)))
section
variable {P:Program}{w:World}{K:Ú}{mg:Str->Option Value}{base:Heap}{f:Addr}{fd:FuncData}
def Nx:FnScope ["count","told","place"] ["count"] (ao (top 14)):=zC
def Ui:(["some","count","told","place"]:List Str).Nodup:=by decide +kernel
def T5(F:Fun K "sets_below" "sets_below" (top 14) f fd)(B:Ĵ mg):FnOk P w K mg base CX0 1 f fd ["count"] (spD fSB):=by
 refine F.ok Nx ĩ (λcdv A outer s H vs Q E hr h=>?_)
 have nd:=Nx.nd
 refine⟨_,aK (bH none (ũ (i:=1) nd rfl (ć rfl) (dZ (aj (dZ ak) ak))))
  (aK (iW î rfl (aN B.range (aj (dv 0) ak)) (aU (ĺ (i:=2) nd rfl (Or.inr rfl)))
   (aL (bH none (ũ (i:=1) nd rfl (ć rfl) (Ij (dv 1) (cB ["some"] rfl (dY (dv 1)) (λc=>aU (ĺ (i:=0) Ui rfl (ć rfl))) (λc=>d8) (λc=>Ij (dv 0) (dZ (aj (dv 3) ak)))))))))
  (aL (bB (dv 1)))),aR h ?_⟩
 rintro ds P ⟨c,rfl,c0,c8,q⟩
 refine⟨[.im (.int c),.any,.any],rfl,zK,zK,⟨by omega,by omega⟩,rfl,λ(i:Nat) ρ=>∃s2,ρ=[.im (.int c),.sn (.list ((subs i).map lD)),s2],⟨_,rfl⟩,?_,?_⟩
 ·rintro i d ρ hd ⟨s2,rfl⟩
  obtain⟨hi,rfl⟩:=š hd
  have ls:((subs i).map lD).length<=128:=by
   rw[Á,cD]
   exact Ć (by decide) (show i<=7 by omega)
  refine⟨by omega,.new,λj ys=>ys=((subs i).take j).map λl=>lD (l++[0+((i:Nat):Int)]),rfl,?_,?_⟩
  ·rintro j d ys hd rfl
   obtain⟨l,hl,rfl⟩:=cC hd
   have hok:=jZ i l (Î hl)
   have im:=cO (l++[0+((i:Nat):Int)])
   rw[Ù] at im
   refine aM (B:=True) ⟨zK,?_,.inl ⟨im,rfl,?_⟩⟩
   ·show(l.map Â).length+1<=1000
    rw[Á]
    omega
   ·dsimp only
    rw[pF _ hl]
    show _++[Ŀ (l.map Â++[.int (0+((i:Nat):Int))])]=_++[Ŀ ((l++[0+((i:Nat):Int)]).map Â)]
    rw[Ù]
    rfl
  ·rintro ys rfl
   refine⟨?_,.inr ⟨.im (.int (0+((i:Nat):Int))),?_⟩⟩
   ·rw[Á (as:=List.take _ _),Ģ]
    rw[Á] at ls ⊢
    omega
   ·have e:(subs i).map lD++(((subs i).take ((subs i).map lD).length).map λl=>lD (l++[0+((i:Nat):Int)]))=(subs (i+1)).map lD:=by
     rw[Á,ē]
     show _=(subs i++(subs i).map _).map lD
     rw[Ù,õ]
     rfl
    rw[e]
    rfl
 ·rintro ρ ⟨s2,rfl⟩
  rw[Ł]
  exact⟨rfl,q⟩
def scI:FnScope ["one","some"] ["one","some"] (ao (top 27)):=zC
def ndI:(["tie","one","some"]:List Str).Nodup:=by decide +kernel
def QJ(F:Fun K "ins" "ins" (top 27) f fd)(B:Ĵ mg)(TL:ø P w K mg base 6 "ties_that_leave" ["web","some"] (spD Rx)):FnOk P w K mg base CX0 7 f fd ["one","some"] (spD U6):=by
 refine F.ok scI ĩ (λcdv A outer s H vs Q E hr h=>?_)
 refine⟨_,aL (bB (dz B.len (aj (cB ["tie"] rfl (dY (dc TL hr (aj (dv 0) (aj (dv 1) ak)))) (λc=>aU (ĺ (i:=0) ndI rfl (ć rfl))) (λc=>cI (dU hr.units (jB (dv 0) aG (λ_ _=>rfl)) (dv 2))) (λc=>dv 0)) ak))),aR h ?_⟩
 rintro ds P ⟨n,us,l,rfl,hP,hl,q⟩
 refine⟨[.im (aD n us),.sh (.list (l.map Â))],?_,n,us,l,rfl,hP,hl,?_⟩
 ·show [bw (aD n us),bw (.list (l.map Â))]=_
  rw[bL]
  rfl
 have lf:((us.filter (lv l)).map pD).length<=us.length:=by rw[Á];exact List.length_filter_le _ _
 refine⟨by omega,.imm,λi ys=>ys=(((us.filter (lv l)).take i).filter (λt=>decide (t.2∈l))).map pD,rfl,?_,?_⟩
 ·rintro i d ys hd rfl
  obtain⟨t,ht,rfl⟩:=cC hd
  refine⟨.int t.2,rfl,rfl,bK l,?_⟩
  show if ((l.map Â).any λe=>í e (.int t.2))=true then _ else _
  rw[Ļ]
  have sn:=wW (λt:Tie=>decide (t.2∈l)) pD ht
  cases hb:decide (t.2∈l) with
  |true =>
   rw[hb,if_pos rfl] at sn
   exact aM (B:=True) ⟨rfl,sn.symm⟩
  |false =>
   rw[hb,if_neg Ò,ð] at sn
   exact aX (A:=True) sn.symm
 ·rintro ys rfl
  refine⟨rfl,?_⟩
  show P (.int ((((((us.filter (lv l)).take ((us.filter (lv l)).map pD).length).filter (λt=>decide (t.2∈l))).map pD).length:Nat):Int))
  rw[Á (as:=us.filter (lv l)),ē,Um,Á]
  exact q
def scO:FnScope ["one","some"] ["one","some"] (ao (top 28)):=zC
def Ma(F:Fun K "outs" "outs" (top 28) f fd)(B:Ĵ mg)(TL:ø P w K mg base 6 "ties_that_leave" ["web","some"] (spD Rx)):FnOk P w K mg base CX0 7 f fd ["one","some"] (spD OD):=by
 refine F.ok scO ĩ (λcdv A outer s H vs Q E hr h=>?_)
 refine⟨_,aL (bB (dz B.len (aj (cB ["tie"] rfl (dY (dc TL hr (aj (dv 0) (aj (dv 1) ak)))) (λc=>aU (ĺ (i:=0) ndI rfl (ć rfl))) (λc=>cI (dU hr.units (jB (dv 0) aG (λ_ _=>rfl)) (dv 2))) (λc=>dv 0)) ak))),aR h ?_⟩
 rintro ds P ⟨n,us,l,rfl,hP,hl,q⟩
 refine⟨[.im (aD n us),.sh (.list (l.map Â))],?_,n,us,l,rfl,hP,hl,?_⟩
 ·show [bw (aD n us),bw (.list (l.map Â))]=_
  rw[bL]
  rfl
 have lf:((us.filter (lv l)).map pD).length<=us.length:=by rw[Á];exact List.length_filter_le _ _
 refine⟨by omega,.imm,λi ys=>ys=(((us.filter (lv l)).take i).filter (λt=>decide (t.1∈l))).map pD,rfl,?_,?_⟩
 ·rintro i d ys hd rfl
  obtain⟨t,ht,rfl⟩:=cC hd
  refine⟨.int t.1,rfl,rfl,bK l,?_⟩
  show if ((l.map Â).any λe=>í e (.int t.1))=true then _ else _
  rw[Ļ]
  have sn:=wW (λt:Tie=>decide (t.1∈l)) pD ht
  cases hb:decide (t.1∈l) with
  |true =>
   rw[hb,if_pos rfl] at sn
   exact aM (B:=True) ⟨rfl,sn.symm⟩
  |false =>
   rw[hb,if_neg Ò,ð] at sn
   exact aX (A:=True) sn.symm
 ·rintro ys rfl
  refine⟨rfl,?_⟩
  show P (.int ((((((us.filter (lv l)).take ((us.filter (lv l)).map pD).length).filter (λt=>decide (t.1∈l))).map pD).length:Nat):Int))
  rw[Á (as:=us.filter (lv l)),ē,Qv,Á]
  exact q
def VF:FnScope ["one","side","some"] ["one","side","some"] (ao (top 29)):=zC
def T4(F:Fun K "ties_by" "ties_by" (top 29) f fd)(IN:ø P w K mg base 7 "ins" ["one","some"] (spD U6))(OU:ø P w K mg base 7 "outs" ["one","some"] (spD OD)):FnOk P w K mg base CX0 8 f fd ["one","side","some"] (spD fTB):=by
 refine F.ok VF ĩ (λcdv A outer s H vs Q E hr h=>?_)
 refine⟨_,aL (bB (gQ (HY (dv 1) dW) (dc IN hr (aj (dv 0) (aj (dv 2) ak))) (dc OU hr (aj (dv 0) (aj (dv 2) ak))))),aR h ?_⟩
 rintro ds P ⟨n,us,s,l,rfl,hP,hl,q⟩
 refine⟨[.im (aD n us),.im (.str s),.sh (.list (l.map Â))],?_,?_⟩
 ·show [bw (aD n us),bw (.str s),bw (.list (l.map Â))]=_
  rw[bL]
  rfl
 unfold byS at q
 refine fZ (λc=>⟨n,us,l,rfl,hP,hl,rfl,?_⟩) (λc=>⟨n,us,l,rfl,hP,hl,rfl,?_⟩)
 ·rw[if_pos (of_decide_eq_true c)] at q
  exact q
 ·rw[if_neg (λz=>c (decide_eq_true z))] at q
  exact q
def VG:FnScope ["one","falls","side","some"] ["one","falls","side","some"] (ao (top 30)):=zC
def T6(F:Fun K "one_need" "one_need" (top 30) f fd)(B:Ĵ mg)(TB:ø P w K mg base 8 "ties_by" ["one","side","some"] (spD fTB)):FnOk P w K mg base CX0 9 f fd ["one","falls","side","some"] (spD fON):=by
 refine F.ok VG ĩ (λcdv A outer s H vs Q E hr h=>?_)
 refine⟨_,aL (bB (j7 rfl B.max (aj (o8 (jC (dv 1) aG) (dc TB hr (aj (dv 0) (aj (dv 2) (aj (dv 3) ak))))) (aj aG ak)))),aR h ?_⟩
 rintro ds P ⟨n,us,fa,s,l,rfl,hP,hl,q⟩
 refine⟨[.im (aD n us),.im (.int fa),.im (.str s),.sh (.list (l.map Â))],?_,n,us,s,l,rfl,hP,hl,rfl,q⟩
 show [bw (aD n us),bw (.int fa),bw (.str s),bw (.list (l.map Â))]=_
 rw[bL]
 rfl
end
def rng(n:Int):List Int:=(Þ n.toNat).map λi=>0+((i:Nat):Int)
def oth(n:Int)(l:List Int):List Int:=(rng n).filter λx=>!decide (x∈l)
def Nj{i:Int}{ns:List Int}(h:(0:Int)<((ns.map V.int).length:Nat)):∃v:Int,atI (ns.map V.int) (i % (((ns.map V.int).length:Nat):Int))=some (.int v):=by
 rw[Á] at h ⊢
 have h1:=Int.emod_nonneg i (b:=(ns.length:Int)) (by omega)
 have h2:=Int.emod_lt_of_pos i h
 have hk:(i % (ns.length:Int)).toNat<ns.length:=by omega
 have ek:i % (ns.length:Int)=(((i % (ns.length:Int)).toNat:Nat):Int):=by omega
 have q:atI (ns.map V.int) (((i % (ns.length:Int)).toNat:Nat):Int)=some (.int ns[(i % (ns.length:Int)).toNat]):=dN (by rw[ß,Ç hk];rfl)
 rw[←ek] at q
 exact⟨_,q⟩
def SX(K:Ú):Sp:=λvs H Q _=>∃(a:Addr) (ns:List Int),vs=[.ref a]/\SqL K H a (ns.map V.int)/\∀H',Q (.bl true) H'
def Nu(K:Ú):Sp:=λvs H Q _=>∃(sc:Addr) (ns:List Int) (k:Int),vs=[.ref sc,.int k]/\0<=k/\k<1000/\SqL K H sc (ns.map V.int)/\∀p H',Same H H'->H p=none->u9 p H'->Q (.ref p) H'
def Vs{k:Int}{ns:List Int}(h0:0<=k)(h:k<((ns.map V.int).length:Nat)):∃v:Int,atI (ns.map V.int) k=some (.int v):=by
 rw[Á] at h
 have hk:k.toNat<ns.length:=by omega
 have ek:k=((k.toNat:Nat):Int):=by omega
 have q:atI (ns.map V.int) ((k.toNat:Nat):Int)=some (.int ns[k.toNat]):=dN (by rw[ß,Ç hk];rfl)
 rw[←ek] at q
 exact⟨_,q⟩
def Ss:TS:=λD σ H=>∃(a0:Option V) (k cell:Int),σ=[a0,some (.int k),some (.int cell)]/\∀l a b c,H l=none->D.rt (.ref l) (upd H l (.lst [.int a,.int b,.int c]))
section
variable {P:Program}{w:World}{K:Ú}{mg:Str->Option Value}{base:Heap}{f:Addr}{fd:FuncData}
def S7:FnScope ["_law_script","_law_k","_law_cell"] ["_law_script","_law_k"] (ao (top 48)):=zC
def QF(F:Fun K "_law_pen" "_law_pen" (top 48) f fd)(B:Ĵ mg):FnOk P w K mg base CX0 1 f fd ["_law_script","_law_k"] (Nu K):=by
 refine F.ok S7 (λvs H Q E h=>?_) (λcdv A outer s H vs Q E hr h=>?_)
 ·obtain⟨sc,ns,k,rfl,_⟩:=h
  rfl
 obtain⟨sc,ns,k,rfl,k0,k9,hS,q⟩:=h
 have nd:=S7.nd
 refine⟨_,į (ũ (i:=2) nd rfl (ć rfl) (bV iT (bV lU ĝ (pv 1)) ĝ))
  (į (p7 (j5 uF (pv 1) (eE fB rfl B.len PySem.boot_len (Ď (pv 0) Ŝ)) (bM _))
   (Ŭ (ũ (i:=2) nd rfl (ć rfl) (fL cQ (pv 0) (pv 1) (λ_ _=>rfl))))
   (Ŭ (p7 (j5 N5 (eE fB rfl B.len PySem.boot_len (Ď (pv 0) Ŝ)) ĝ (bM _))
    (Ŭ (ũ (i:=2) nd rfl (ć rfl) (bV iT (bV iR (fL cQ (pv 0) (bV iR (pv 1) (eE fB rfl B.len PySem.boot_len (Ď (pv 0) Ŝ))) (λ_ _=>rfl)) (bV Iu ĝ ĝ)) (bV lU ĝ (pv 1))))) iJ)))
  (PSs.wk (t':=Ss) (į (p7 (j5 IV (eE zy rfl B.abs Dl.boot_abs (Ď (pv 2) Ŝ)) (bV Iu ĝ ĝ) (bM _))
   (Ŭ (fJ (jA (Ď (eE zy rfl B.abs Dl.boot_abs (Ď (pv 2) Ŝ)) (Ď ĝ (Ď ĝ Ŝ)))))) iJ)
  (Ŭ (fJ (jA (Ď (bV iR (pv 2) ĝ) (Ď ĝ (Ď (pv 1) Ŝ))))))) ?pen)),?_⟩
 case pen =>
  rintro D σ H' ⟨a0,k,cell,rfl,hq⟩
  refine⟨_,rfl,cell,rfl,_,_,rfl,rfl,⟨by decide,by decide,by decide⟩,_,_,rfl,rfl,_,rfl,fZ (λc1=>?_) (λc1=>?_)⟩
  ·exact⟨_,rfl,cell,rfl,by show 3<=sizeLine;decide,λl hl=>hq l _ _ _ hl⟩
  ·exact⟨_,rfl,_,_,rfl,rfl,(by show(0:Int)<2147483587;decide),_,rfl,by show 3<=sizeLine;decide,λl hl=>hq l _ _ _ hl⟩
 have fin:∀cell:Int,Ss { nx:=λ_ H'=>Q .non H',rt:=Q } [some (.ref sc),some (.int k),some (.int cell)] H:=λcell=>⟨_,k,cell,rfl,λl a b c hl=>q l _ (qR hl _) hl ⟨a,b,c,au⟩⟩
 refine⟨_,rfl,_,_,rfl,rfl,.inl ⟨by decide,by decide⟩,_,_,rfl,rfl,?_⟩
 refine⟨_,rfl,_,rfl,sc,_,rfl,.inl hS,_,_,rfl,rfl,_,rfl,fZ (λc1=>?_) (λc1=>?_)⟩
 ·obtain⟨v,hv⟩:=Vs k0 (of_decide_eq_true c1)
  exact⟨_,rfl,_,rfl,sc,_,_,_,rfl,rfl,hS,hv,fin v⟩
 ·refine⟨_,rfl,sc,_,rfl,.inl hS,_,_,rfl,rfl,_,rfl,fZ (λc2=>?_) (λc2=>fin _)⟩
  have c2:=of_decide_eq_true c2
  obtain⟨v,hv⟩:=Nj (i:=k) c2
  exact⟨_,rfl,_,rfl,_,rfl,sc,_,rfl,.inl hS,_,_,rfl,rfl,c2,sc,_,_,_,rfl,rfl,hS,hv,_,_,rfl,rfl,⟨by decide,by decide,by decide⟩,_,_,rfl,rfl,(by show(0:Int)<10 ^ 15;decide),_,rfl,_,_,rfl,rfl,.inl ⟨by decide,by decide⟩,_,_,rfl,rfl,fin _⟩
end
def allB(n:Nat)(p:Nat->Bool):Bool:=(Þ n).all p
def allB_iff{n:Nat}{p:Nat->Bool}(h:allB n p=true):∀i,i<n->p i=true:=λi hi=>ę.mp h i (Ī.mpr hi)
def inB(s r:Nat):Bool:=(s &&& r) == s
def chn:Nat->Nat->Nat->List Nat
 |0,_,_=>[]
 |f+1,r,s=>s::(if s=0 then [] else chn f r ((s - 1) &&& r))
def Nh:allB 128 (λr=>chn 129 r r == (Þ (r+1)).reverse.filter (λs=>inB s r))=true:=by decide +kernel
def UG:allB 128 (λr=>allB (r+1) λs=>!inB s r || (((r - s) &&& s == 0)&&inB (r - s) r))=true:=by decide +kernel
def Uz:allB 8 (λj=>allB (2 ^ j) λr=>allB (r+1) λs=>!inB s r || inB (s+2 ^ j) (r+2 ^ j))=true:=by decide +kernel
def UJ:allB 8 (λj=>allB (2 ^ j) λk=>allB (2 ^ j) λs=>(k &&& (s+2 ^ j)) == (k &&& s))=true:=by decide +kernel
def Wg:allB 8 (λj=>allB (2 ^ j) λr=>allB (2 ^ (j+1)) λm=>!inB m (r+2 ^ j) || (if m<2 ^ j then inB m r else inB (m - 2 ^ j) r))=true:=by decide +kernel
def Ow:allB 9 (λn=>allB (2 ^ n) λa=>(subs n).getD a [] == ((Þ n).filter (λi=>a.testBit i)).map λi:Nat=>0+((i:Nat):Int))=true:=by decide +kernel
def fj{s r:Nat}:inB s r=true↔s &&& r=s:=beq_iff_eq
def cL{s r:Nat}(h:inB s r=true):s<=r:=by
 have:=fj.mp h
 rw[←this]
 exact Nat.and_le_right
def Pa{r s:Nat}(hr:r<128)(h:inB s r=true):((r - s) &&& s)=0/\inB (r - s) r=true:=by
 have a:=allB_iff (allB_iff UG r hr) s (by have:=cL h;omega)
 rw[h] at a
 simp only[Bool.not_true,Bool.false_or,Û,beq_iff_eq] at a
 exact a
def Vj{j r s:Nat}(hj:j<8)(hr:r<2 ^ j)(h:inB s r=true):inB (s+2 ^ j) (r+2 ^ j)=true:=by
 have a:=allB_iff (allB_iff (allB_iff Uz j hj) r hr) s (by have:=cL h;omega)
 rw[h] at a
 simpa using a
def Pb{j k s:Nat}(hj:j<8)(hk:k<2 ^ j)(hs:s<2 ^ j):k &&& (s+2 ^ j)=k &&& s:=beq_iff_eq.mp (allB_iff (allB_iff (allB_iff UJ j hj) k hk) s hs)
def Vh{j r m:Nat}(hj:j<8)(hr:r<2 ^ j)(hm:m<2 ^ (j+1))(h:inB m (r+2 ^ j)=true):(m<2 ^ j/\inB m r=true)\/(2 ^ j<=m/\inB (m - 2 ^ j) r=true):=by
 have a:=allB_iff (allB_iff (allB_iff Wg j hj) r hr) m hm
 rw[h] at a
 by_cases c:m<2 ^ j
 ·rw[if_pos c] at a
  exact .inl ⟨c,by simpa using a⟩
 ·rw[if_neg c] at a
  exact .inr ⟨by omega,by simpa using a⟩
def oE{r:Nat}(hr:r<128):∀s,s∈chn 129 r r↔inB s r=true:=λs=>by
 rw[beq_iff_eq.mp (allB_iff Nh r hr),ą,List.mem_reverse,Ī]
 exact⟨λh=>h.2,λh=>⟨by have:=cL h;omega,h⟩⟩
def Et{j:Nat}(h:j<8):2 ^ j<=128:=þ (Ć (n:=2) (by decide) (show j<=7 by omega)) (by decide)
abbrev En:=Int×List Int
def tH(ws ks:List Int):Int:=(ks.map λk=>ws.getD k.toNat 0).sum
def GP(ws ks:List Int)(k:Int):tH ws (ks++[k])=tH ws ks+ws.getD k.toNat 0:=by
 unfold tH
 rw[Ù,List.sum_append]
 simp
structure BE(ws:List Int)(n m:Nat)(e:En):Prop where
 sum:e.1=tH ws e.2
 mem:∀k∈e.2,0<k/\inB k.toNat m=true/\k.toNat+1<2 ^ n
 apart:e.2.Pairwise λa b=>a.toNat &&& b.toNat=0
 top:∀s,inB s m=true->ws.getD s 0<=e.1
 len:∀j,m<2 ^ j->e.2.length<=j
def BE.nil{ws:List Int}{n:Nat}(h:ws.getD 0 0=0):BE ws n 0 (0,[]):=⟨rfl,λk h=>(nomatch h),.nil,λs hs=>by
 have:s=0:=by have:=cL hs;omega
 rw[this,h]
 exact ā _,λ_ _=>ÿ _⟩
def BE.nn{ws:List Int}{n m:Nat}{e:En}(h:BE ws n m e)(h0:ws.getD 0 0=0):0<=e.1:=by
 have:=h.top 0 (fj.mpr (Nat.zero_and m))
 rwa [h0] at this
def BE.zero{ws:List Int}{n:Nat}{e:En}(h:BE ws n 0 e):e=(0,[]):=by
 obtain⟨t,L⟩:=e
 have hL:L=[]:=by
  cases L with
  |nil=>rfl
  |cons k L =>
   obtain⟨h1,h2,_⟩:=h.mem k Æ
   have:=cL h2
   omega
 subst hL
 have:=h.sum
 exact Prod.ext this rfl
def bU(ws:List Int)(bs:List En)(top rest:Nat)(found:En)(sub:Nat):En :=
 if found.1<ws.getD (sub+top) 0+(bs.getD (rest - sub) (0,[])).1 then (ws.getD (sub+top) 0+(bs.getD (rest - sub) (0,[])).1,(bs.getD (rest - sub) (0,[])).2++[((sub+top:Nat):Int)]) else found
structure FE(ws:List Int)(n j rest:Nat)(seen:List Nat)(e:En):Prop where
 sum:e.1=tH ws e.2
 mem:∀k∈e.2,0<k/\inB k.toNat (rest+2 ^ j)=true/\k.toNat+1<2 ^ n
 apart:e.2.Pairwise λa b=>a.toNat &&& b.toNat=0
 low:∀s,inB s rest=true->ws.getD s 0<=e.1
 upp:∀s∈seen,ws.getD (s+2 ^ j) 0<=e.1
 len:e.2.length<=j+1
section
variable {ws:List Int}{n j rest:Nat}{bs:List En} (h0:ws.getD 0 0=0) (h1:ws.getD (2 ^ n - 1) 0=0) (hn:n<=8) (hj:j<n) (hr:rest<2 ^ j) (hb:∀m,m<2 ^ j->BE ws n m (bs.getD m (0,[])))
theorem Ds{k r j:Nat}(hj:j<8)(hr:r<2 ^ j)(h:inB k r=true):inB k (r+2 ^ j)=true:=by
 rw[fj] at h ⊢
 have:=cL (fj.mpr h)
 rw[Pb hj (by omega) hr]
 exact h
include hn hj hr hb in
theorem FE.start:FE ws n j rest [] (bs.getD rest (0,[])):=by
 have b:=hb rest hr
 exact⟨b.sum,λk hk=>let ⟨x,y,z⟩:=b.mem k hk;⟨x,Ds (by omega) hr y,z⟩,b.apart,b.top,λs h=>(nomatch h),by have:=b.len j hr;omega⟩
include h0 h1 hn hj hr hb in
theorem FE.step{seen:List Nat}{e:En}(f:FE ws n j rest seen e){s:Nat}(hs:inB s rest=true):FE ws n j rest (s::seen) (bU ws bs (2 ^ j) rest e s):=by
 have p8:=Et (show j<8 by omega)
 have sl:=cL hs
 obtain⟨q1,q2⟩:=Pa (show rest<128 by omega) hs
 have b:=hb (rest - s) (by omega)
 have bn:=b.nn h0
 have en:0<=e.1:=by
  have:=f.low 0 (fj.mpr (Nat.zero_and _))
  rwa [h0] at this
 unfold bU
 by_cases c:e.1<ws.getD (s+2 ^ j) 0+(bs.getD (rest - s) (0,[])).1
 ·rw[if_pos c]
  have kr:∀k,inB k (rest - s)=true->inB k rest=true/\k &&& s=0:=λk hk=>by
   rw[fj] at hk q2 ⊢
   refine⟨?_,?_⟩
   ·rw[←hk,Nat.and_assoc,q2]
   ·rw[←hk,Nat.and_assoc,q1,Nat.and_zero]
  refine⟨?_,λk hk=>?_,?_,λx hx=>?_,λx hx=>?_,?_⟩
  ·show _=tH ws (_++[_])
   rw[GP,←b.sum,ï]
   omega
  ·rcases å.mp hk with z|z
   ·obtain⟨x,y,w⟩:=b.mem k z
    exact⟨x,Ds (by omega) hr (kr _ y).1,w⟩
   ·rw[Ô.mp z,ï]
    have pj:=Ű j
    refine⟨by omega,Vj (by omega) hr hs,?_⟩
    have pn:2 ^ (j+1)<=2 ^ n:=Ć (by decide) (by omega)
    rw[Ů] at pn
    rcases ş (s+2 ^ j+1) (2 ^ n) with z|z
    ·exact z
    ·have e1:rest - s=0:=by omega
     have e2:s+2 ^ j=2 ^ n - 1:=by omega
     rw[e1] at b c
     rw[e2,h1,b.zero] at c
     exact absurd c (by show ¬e.1<0+0;omega)
  ·refine List.pairwise_append.mpr ⟨b.apart,by simp,λx hx y hy=>?_⟩
   rw[Ô.mp hy,ï]
   obtain⟨_,y1,_⟩:=b.mem x hx
   have k1:=kr _ y1
   have:=cL k1.1
   rw[Pb (by omega) (by omega) (by omega)]
   exact k1.2
  ·have:=f.low x hx
   show _<=_+_
   omega
  ·show _<=ws.getD (s+2 ^ j) 0+_
   rcases Ñ.mp hx with rfl|hx
   ·omega
   ·have:=f.upp x hx
    omega
  ·show(_++[_]).length<=_
   rw[È,Ü]
   have:=b.len j (by omega)
   omega
 ·rw[if_neg c]
  refine⟨f.sum,f.mem,f.apart,f.low,λx hx=>?_,f.len⟩
  rcases Ñ.mp hx with rfl|hx
  ·omega
  ·exact f.upp x hx
include h0 h1 hn hj hr hb in
theorem FE.walk:∀(l:List Nat) {seen:List Nat}{e:En},FE ws n j rest seen e->(∀s∈l,inB s rest=true)->FE ws n j rest (l.reverse++seen) (l.foldl (bU ws bs (2 ^ j) rest) e)
 |[],_,_,f,_=>f
 |s::l,seen,e,f,h=>by
  have:=FE.walk l (FE.step h0 h1 hn hj hr hb f (h s Æ)) λx hx=>h x (Ã _ hx)
  rw[List.reverse_cons,Ĳ]
  exact this
include hn hj hr in
theorem FE.done{seen:List Nat}{e:En}(f:FE ws n j rest seen e)(h:∀s,inB s rest=true->s∈seen):BE ws n (rest+2 ^ j) e:=by
 refine⟨f.sum,f.mem,f.apart,λs hs=>?_,λi hi=>?_⟩
 ·have sl:=cL hs
  rcases Vh (by omega) hr (by rw[Ů];omega) hs with ⟨_,z⟩|⟨c,z⟩
  ·exact f.low s z
  ·have:=f.upp _ (h _ z)
   rwa [show s - 2 ^ j+2 ^ j=s by omega] at this
 ·have:j+1<=i:=by
   rcases ş j i with z|z
   ·omega
   ·have:=Ć (n:=2) (by decide) z
    omega
  exact þ f.len this
end
def bwF(ws:List Int)(bs:List En)(top rest:Nat):En:=(chn 129 rest rest).foldl (bU ws bs top rest) (bs.getD rest (0,[]))
def dI(ws:List Int)(bs:List En)(top:Nat):Nat->List En
 |0=>bs
 |i+1=>dI ws bs top i++[bwF ws (dI ws bs top i) top i]
def grow(ws:List Int):Nat->List En
 |0=>[(0,[])]
 |j+1=>dI ws (grow ws j) (2 ^ j) (2 ^ j)
def KC(ws:List Int)(n:Nat):En:=(grow ws n).getD (2 ^ n - 1) (0,[])
def setOf(n:Nat)(k:Int):List Int:=(subs n).getD k.toNat []
structure HAok(n:Nat)(ws ks:List Int):Prop where
 len:ks.length<=n
 rng:∀k∈ks,0<k/\k<(2 ^ n:Nat) - 1
 apart:ks.Pairwise λa b=>∀x∈setOf n a,x∉setOf n b
 top:∀w∈ws,w<=tH ws ks
 is:ks=(KC ws n).2
 tot:tH ws ks=(KC ws n).1
def BE.ha{n:Nat}{ws:List Int}{e:En}(hn:n<=8)(hl:ws.length=2 ^ n)(b:BE ws n (2 ^ n - 1) e)(he:e=KC ws n):HAok n ws e.2:=by
 have pn:=Ű n
 have sb:∀a,a<2 ^ n->(subs n).getD a []=((Þ n).filter (λi=>a.testBit i)).map λi:Nat=>0+((i:Nat):Int):=λa ha=>beq_iff_eq.mp (allB_iff (allB_iff Ow n (by omega)) a ha)
 refine⟨b.len n (by omega),λk hk=>?_,?_,λw hw=>?_,by rw[he],by rw[←b.sum,he]⟩
 ·obtain⟨h1,_,h3⟩:=b.mem k hk
  omega
 ·have key:∀{l:List Int},l.Pairwise (λa b=>a.toNat &&& b.toNat=0)->(∀k∈l,k.toNat<2 ^ n)->l.Pairwise λa b=>∀x∈setOf n a,x∉setOf n b:=λ{l} h m=>by
   induction h with
   |nil=>exact .nil
   |cons h t ih =>
    refine .cons (λy hy x hx hx2=>?_) (ih λk hk=>m k (Ã _ hk))
    unfold setOf at hx hx2
    rw[sb _ (m _ Æ)] at hx
    rw[sb _ (m _ (Ã _ hy))] at hx2
    obtain⟨i,hi,rfl⟩:=ê.mp hx
    obtain⟨i2,hi2,e⟩:=ê.mp hx2
    have e:i2=i:=by omega
    subst e
    have z:=congrArg (λv=>Nat.testBit v i2) (h y hy)
    simp only[Nat.testBit_and,Nat.zero_testBit,(ą.mp hi).2,(ą.mp hi2).2] at z
    cases z
  exact key b.apart λk hk=>by have:=(b.mem k hk).2.2;omega
 ·obtain⟨s,hs,rfl⟩:=Ţ hw
  have h2:s<2 ^ n:=by omega
  have:=b.top s (fj.mpr (by rw[Nat.and_two_pow_sub_one_eq_mod,Nat.mod_eq_of_lt h2]))
  rw[Ð,Ç hs] at this
  rw[←b.sum]
  exact this
def fHA(ds:List D)(P:D->Prop):Prop:=∃(n:Nat) (ws:List Int),ds=[iD ws]/\1<=n/\n<=8/\ws.length=2 ^ n/\(∀x∈ws,0<=x)/\ws.head?=some 0/\ws.getLast?=some 0/\∀ks,HAok n ws ks->P (iD ks)
def enD(e:En):D:=.tuple [.int e.1,iD e.2]
def fBW(ds:List D)(P:D->Prop):Prop:=∃(n j rest:Nat) (ws:List Int) (bs:List En),ds=[iD ws,.list (bs.map enD),.int ((2 ^ j:Nat):Int),.int ((rest:Nat):Int)]/\n<=8/\j<n/\rest<2 ^ j/\ws.length=2 ^ n/\bs.length=2 ^ j+rest/\(∀e∈bs,e.2.length<=8)/\P (enD (bwF ws bs (2 ^ j) rest))
def KH(a b:Nat):Builtin.bitAnd ((a:Nat):Int) ((b:Nat):Int)=((a &&& b:Nat):Int):=by
 unfold Builtin.bitAnd
 rw[decide_eq_true (by omega),decide_eq_true (by omega)]
 rfl
def Vk{ws:List Int}{i:Nat}(h:i<ws.length):atI (ws.map Â) ((i:Nat):Int)=some (.int (ws.getD i 0)):=by
 refine dN ?_
 rw[ß,Ð,Ç h]
 rfl
def Pg{bs:List En}{i:Nat}(h:i<bs.length):atI (bs.map enD) ((i:Nat):Int)=some (enD (bs.getD i (0,[]))):=by
 refine dN ?_
 rw[ß,Ð,Ç h]
 rfl
def IvB(ws:List Int)(bs:List En)(j rest m:Nat)(ρ:List Sl):Prop:=∃(s:Int) (l:List Nat) (e:En) (s4:Sl),ρ=[.sh (iD ws),.sh (.list (bs.map enD)),.im (.int ((2 ^ j:Nat):Int)),.im (.int ((rest:Nat):Int)),s4,.im (.int s),.any]/\(s4=.sh (enD e)\/s4=.sn (enD e))/\((s=-1/\l=[])\/∃f sN:Nat,s=((sN:Nat):Int)/\sN+1<=f/\l=chn f rest sN)/\l.foldl (bU ws bs (2 ^ j) rest) e=bwF ws bs (2 ^ j) rest/\(∀x∈l,inB x rest=true)/\m=l.length
def Kv(g r s:Nat):chn (g+1) r s=s::(if s=0 then [] else chn g r ((s - 1) &&& r)):=rfl
def Ei{ws:List Int}{bs:List En}{j rest sN g:Nat}{e e':En}{s4:Sl}{t:Int}{Q:DEnds}(hsf:sN+1<=g+1)(h4:s4=.sh (enD e')\/s4=.sn (enD e'))(hf:(chn (g+1) rest sN).foldl (bU ws bs (2 ^ j) rest) e=bwF ws bs (2 ^ j) rest)(he:e'=bU ws bs (2 ^ j) rest e sN)(hin:∀x∈chn (g+1) rest sN,inB x rest=true)(hQ:∀ρ2,(∃m',m'<(chn (g+1) rest sN).length/\IvB ws bs j rest m' ρ2)->Q.nx ρ2) :
  Bu (Bt 5 none (PJ (fX (t2 (gI0 λi j=>PyData.bool (decide (j<i))) (tV 5) (tK (Â 0)))) (t2 (gI0 λi j=>Â (Builtin.bitAnd i j)) (t2 (gI0 λi j=>Â (i - j)) (tV 5) (tK (Â 1))) (tV 3)) (PB (tK (Â 1))))) (Bw [6] Eb) Q
   [.sh (iD ws),.sh (.list (bs.map enD)),.im (.int ((2 ^ j:Nat):Int)),.im (.int ((rest:Nat):Int)),s4,.im (.int ((sN:Nat):Int)),.im (.int t)]:=by
 rw[Kv] at hf hin hQ
 show if decide ((0:Int)<((sN:Nat):Int))=true then _ else _
 by_cases c:sN=0
 ·subst c
  rw[decide_eq_false (by omega)]
  refine aX (A:=True) ?_
  rw[if_pos rfl] at hf hin hQ
  exact hQ _ ⟨0,by simp,-1,[],e',s4,rfl,h4,.inl ⟨rfl,rfl⟩,by rw[he];exact hf,λx hx=>(nomatch hx),rfl⟩
 ·rw[decide_eq_true (by omega)]
  refine aM (B:=True) ?_
  rw[if_neg c] at hf hin hQ
  have eb:Builtin.bitAnd (((sN:Nat):Int) - 1) ((rest:Nat):Int)=(((sN - 1) &&& rest:Nat):Int):=by
   rw[show((sN:Nat):Int) - 1=((sN - 1:Nat):Int) by omega]
   exact KH _ _
  have hl:((sN - 1) &&& rest)<=sN - 1:=Nat.and_le_left
  exact hQ _ ⟨(chn g rest ((sN - 1) &&& rest)).length,by simp,(((sN - 1) &&& rest:Nat):Int),chn g rest ((sN - 1) &&& rest),e',s4,by rw[←eb];rfl,h4,.inr ⟨g,(sN - 1) &&& rest,rfl,by omega,rfl⟩,by rw[he];exact hf,λx hx=>hin x (Ã _ hx),rfl⟩
section
variable {P:Program}{w:World}{K:Ú}{mg:Str->Option Value}{base:Heap}{f:Addr}{fd:FuncData}{CN:Addr}
def mK:FnScope ["weights","best","top","rest","found","sub","total"] ["weights","best","top","rest"] (ao (top 21)):=zC
def wD(F:Fun K "best_with" "best_with" (top 21) f fd)(B:Ĵ mg):FnOk P w K mg base CX0 1 f fd ["weights","best","top","rest"] (spR fBW):=by
 refine F.ok mK wN (λcdv A outer s H vs Q E hr h=>?_)
 have nd:=mK.nd
 refine⟨_,Dl.WR.h (Dl.vH (ñ none (i:=4) nd rfl zQ (ö (Ë 1) (Ë 3)))
  (Dl.vH (ñ none (i:=5) nd rfl zQ (Ë 3))
  (Dl.vH (Wr.nZ î (Wr.Ag (Ë 5) Õ) (Ö (ñ none (i:=6) nd rfl zQ (ğ (ö (Ë 0) (ğ (Ë 5) (Ë 2))) (ö (ö (Ë 1) (Ő (Ë 3) (Ë 5))) Õ)))
  (Ö (Wr.cY (Wr.iK (Ë 6) (ö (Ë 4) Õ)) (ý (ñ none (i:=4) nd rfl zQ (đ (À (Ë 6) (À (ğ (ö (ö (Ë 1) (Ő (Ë 3) (Ë 5))) Õ) (Ě (À (ğ (Ë 5) (Ë 2)) Å))) Å))))) Ğ)
  (Ö (ñ none (i:=5) nd rfl zQ (Wr.gQ (Wr.iK (Ë 5) Õ) (Wr.Lq (Ő (Ë 5) Õ) (Ë 3)) (Wr.lQ Õ))) (Ă [6] Ğ)))))
  (Dl.zX (Ë 4))))),Bp h ?_⟩
 rintro ds P ⟨n,j,rest,ws,bs,rfl,n8,jn,rj,lw,lb,le,q⟩
 refine⟨[.sh (iD ws),.sh (.list (bs.map enD)),.im (.int ((2 ^ j:Nat):Int)),.im (.int ((rest:Nat):Int)),.any,.any,.any],rfl,?_⟩
 have p8:=Et (show j<8 by omega)
 have pn:2 ^ (j+1)<=2 ^ n:=Ć (by decide) (by omega)
 rw[Ů] at pn
 refine⟨_,Pg (by omega),?_⟩
 refine kW (rg:=none) (i:=4) (k:=norm .shr (enD (bs.getD rest (0,[])))) (d:=enD (bs.getD rest (0,[]))) (s:=.sh (enD (bs.getD rest (0,[])))) (by rfl) ?_
 show Tp (Bs _ _) (Tq (tV 4)) P [.sh (iD ws),.sh (.list (bs.map enD)),.im (.int ((2 ^ j:Nat):Int)),.im (.int ((rest:Nat):Int)),.sh (enD (bs.getD rest (0,[]))),.im (.int ((rest:Nat):Int)),.any]
 refine⟨IvB ws bs j rest,
  ⟨_,_,chn 129 rest rest,bs.getD rest (0,[]),_,rfl,.inl rfl,.inr ⟨129,rest,rfl,by omega,rfl⟩,rfl,λx hx=>(oE (by omega) x).mp hx,rfl⟩,?_⟩
 rintro m ρ ⟨s,l,e,s4,rfl,h4,hs,hf,hin,rfl⟩
 show if decide ((0:Int)<=s)=true then _ else _
 rcases hs with ⟨rfl,rfl⟩|⟨f,sN,rfl,hsf,rfl⟩
 ·rw[decide_eq_false (by omega)]
  refine aX (A:=True) ?_
  have hf:e=bwF ws bs (2 ^ j) rest:=hf
  rw[←hf] at q
  rcases h4 with rfl|rfl <;> exact q
 ·rw[decide_eq_true (by omega)]
  refine aM (B:=True) ?_
  obtain⟨g,rfl⟩:∃g,f=g+1:=⟨f - 1,by omega⟩
  have hsr:inB sN rest=true:=hin sN Æ
  have hsl:=cL hsr
  have i1:atI (ws.map Â) (((sN:Nat):Int)+((2 ^ j:Nat):Int))=some (.int (ws.getD (sN+2 ^ j) 0)):=by
   rw[show((sN:Nat):Int)+((2 ^ j:Nat):Int)=((sN+2 ^ j:Nat):Int) by omega]
   exact Vk (by omega)
  have i2:atI (bs.map enD) (((rest:Nat):Int) - ((sN:Nat):Int))=some (enD (bs.getD (rest - sN) (0,[]))):=by
   rw[show((rest:Nat):Int) - ((sN:Nat):Int)=((rest - sN:Nat):Int) by omega]
   exact Pg (by omega)
  refine⟨_,i1,_,i2,_,rfl,?_⟩
  refine kW (rg:=none) (i:=6) (k:=.imm) (d:=.int (ws.getD (sN+2 ^ j) 0+(bs.getD (rest - sN) (0,[])).1)) (s:=.im (.int (ws.getD (sN+2 ^ j) 0+(bs.getD (rest - sN) (0,[])).1))) (by rfl) ?_
  have ln:(bs.getD (rest - sN) (0,[])).2.length<=8:=by
   rw[Ð,Ç (by omega)]
   exact le _ (ģ _)
  have h40:∀{R:Prop},(s4=.sh (enD e)->R)->(s4=.sn (enD e)->R)->R:=λa b=>h4.elim a b
  by_cases c:e.1<ws.getD (sN+2 ^ j) 0+(bs.getD (rest - sN) (0,[])).1
  ·have he:(ws.getD (sN+2 ^ j) 0+(bs.getD (rest - sN) (0,[])).1,(bs.getD (rest - sN) (0,[])).2++[((sN+2 ^ j:Nat):Int)])=bU ws bs (2 ^ j) rest e sN:=by
    unfold bU
    rw[if_pos c]
   have ed:(bs.getD (rest - sN) (0,[])).2.map Â++ķ (λx:Kd×D=>x.snd) [(Kd.imm,Â (((sN:Nat):Int)+((2 ^ j:Nat):Int)))]=((bs.getD (rest - sN) (0,[])).2++[((sN+2 ^ j:Nat):Int)]).map Â:=by
    rw[Ù,show((sN+2 ^ j:Nat):Int)=((sN:Nat):Int)+((2 ^ j:Nat):Int) by omega]
    rfl
   rcases h4 with rfl|rfl
   all_goals
    refine⟨.int e.1,rfl,?_⟩
    show if decide (e.1<_)=true then _ else _
    rw[decide_eq_true c]
    refine aM (B:=True) ⟨_,i2,_,rfl,zK,?_,.inl ⟨?_,zK,?_⟩⟩
    ·rw[Á]
     show _+1<=1000
     omega
    ·rw[ed]
     exact cO _
    ·dsimp only
     rw[ed]
     exact Ei (s4:=.sn (enD (ws.getD (sN+2 ^ j) 0+(bs.getD (rest - sN) (0,[])).1,(bs.getD (rest - sN) (0,[])).2++[((sN+2 ^ j:Nat):Int)]))) hsf (.inr rfl) hf he hin λρ2 h=>h
  ·have he:e=bU ws bs (2 ^ j) rest e sN:=by
    unfold bU
    rw[if_neg c]
   rcases h4 with rfl|rfl
   all_goals
    refine⟨.int e.1,rfl,?_⟩
    show if decide (e.1<_)=true then _ else _
    rw[decide_eq_false c]
    refine aX (A:=True) ?_
    exact Ei hsf (by first|exact .inl rfl|exact .inr rfl) hf he hin λρ2 h=>h
def gj:FnScope ["weights","best","top","rest"] ["weights"] (ao (top 22)):=zC
def nC(F:Fun K "heaviest_apart" "heaviest_apart" (top 22) f fd)(B:Ĵ mg)(C_best_with:ø P w K mg base 1 "best_with" ["weights","best","top","rest"] (spR fBW)):FnOk P w K mg base CX0 2 f fd ["weights"] (spD fHA):=by
 refine F.ok gj ĩ (λcdv A outer s H vs Q E hr h=>?_)
 have nd:=gj.nd
 refine⟨_,Ĝ (Ö (Wr.xg 0 true (i:=1) nd rfl zQ (À (đ (À Õ (À (Ě Å) Å))) Å))
  (Ö (ñ none (i:=2) nd rfl zQ Õ)
  (Ö (Wr.nZ î (Wr.Af (Ë 2) (Ŵ B.len (À (Ë 0) Å))) (Ö (ŵ î rfl (Wr.aN B.range (À (Ë 2) Å)) (è (i:=3) nd rfl zQ) (Ö (Wr.xu C_best_with hr (Ŗ 1) (Ŗ 0) (Ŗ 1) (Ŗ 2) (Ŗ 3)) (Ă [3] Ğ)))
  (Ă [3] (Ö (ñ none (i:=2) nd rfl zQ (Wr.fM Õ (Ë 2))) (Ă [3] Ğ)))))
  (Ă [2,3] (ý (Ē (ö (ö (Ë 1) (Wr.lQ Õ)) Õ))))))),aR h ?_⟩
 rintro ds P ⟨n,ws,rfl,n1,n8,lw,w0,hh,hl,q⟩
 refine⟨[.sh (iD ws),.any,.any,.any],rfl,?_⟩
 have pn:=Ű n
 have p2:2 ^ n<=256:=Ć (n:=2) (by decide) n8
 have h0:ws.getD 0 0=0:=by
  cases ws with
  |nil=>rfl
  |cons x l=>cases hh;rfl
 have h1:ws.getD (2 ^ n - 1) 0=0:=by
  rw[List.getLast?_eq_getElem?,lw] at hl
  rw[Ð,hl]
  rfl
 have el:((iD ws:D)=.list (ws.map Â)):=rfl
 refine⟨zK,zK,zK,rfl,rfl,?_⟩
 refine⟨λm ρ=>∃(j:Nat) (bs:List En),ρ=[.sh (iD ws),.sp 0 true (bs.map enD),.im (.int ((2 ^ j:Nat):Int)),.any]/\j<=n/\bs.length=2 ^ j/\bs=grow ws j/\(∀i,i<2 ^ j->BE ws n i (bs.getD i (0,[])))/\m=n - j,⟨_,0,[(0,[])],rfl,by omega,rfl,rfl,λi hi=>?_,rfl⟩,?_⟩
 ·have:i=0:=by omega
  subst this
  exact .nil h0
 rintro m ρ ⟨j,bs,rfl,jn,lb,eg,hb,rfl⟩
 show if decide (((2 ^ j:Nat):Int)<(((ws.map Â).length:Nat):Int))=true then _ else _
 rw[Á,lw]
 by_cases c:j<n
 ·have pj:2 ^ (j+1)<=2 ^ n:=Ć (by decide) (by omega)
  have pjj:2 ^ (j+1)=2 ^ j * 2:=Ů ..
  have pp:=Ű j
  rw[decide_eq_true (by omega)]
  refine aM (B:=True) ⟨⟨by omega,by omega⟩,rfl,λ(i:Nat) ρ=>∃bs:List En,ρ=[.sh (iD ws),.sp 0 true (bs.map enD),.im (.int ((2 ^ j:Nat):Int)),.any]/\bs.length=2 ^ j+i/\bs=dI ws (grow ws j) (2 ^ j) i/\∀t,t<2 ^ j+i->BE ws n t (bs.getD t (0,[])),⟨bs,rfl,lb,eg,hb⟩,?_,?_⟩
  ·rintro i d ρ hd ⟨bs,rfl,lb,eg,hb⟩
   obtain⟨hi,rfl⟩:=š hd
   rw[ï] at hi
   have be:=(FE.walk h0 h1 n8 c hi (λm hm=>hb m (by omega)) (chn 129 i i) (FE.start n8 c hi λm hm=>hb m (by omega)) λs hs=>(oE (by have:=Et (show j<8 by omega);omega) s).mp hs).done n8 c hi λs hs=>by
    rw[ð,List.mem_reverse]
    exact(oE (by have:=Et (show j<8 by omega);omega) s).mpr hs
   have be:BE ws n (i+2 ^ j) (bwF ws bs (2 ^ j) i):=be
   have l8:∀e∈bs,e.2.length<=8:=λe he=>by
    obtain⟨t,ht,rfl⟩:=Ţ he
    have:=(hb t (by omega)).len n (by omega)
    rw[Ð,Ç ht] at this
    exact þ this n8
   have tn:i+2 ^ j<2 ^ n:=by omega
   have ln:=be.len n tn
   have lt:n<2 ^ n:=Nat.lt_two_pow_self
   refine⟨0,bs.map enD,ws,((2 ^ j:Nat):Int),0+((i:Nat):Int),rfl,rfl,rfl,rfl,?_,by rw[Á];omega,n,j,i,ws,bs,by rw[Int.zero_add],n8,c,hi,lw,lb,l8,(bwF ws bs (2 ^ j) i).1,(bwF ws bs (2 ^ j) i).2,rfl,by omega,bs++[bwF ws bs (2 ^ j) i],?_,by rw[È,Ü];omega,by rw[eg];rfl,λt ht=>?_⟩
   ·cases bs with
    |nil=>simp at lb;omega
    |cons e tl=>exact⟨_,_,_,rfl⟩
   ·show [_,Sl.sp 0 true (bs.map enD++[enD (bwF ws bs (2 ^ j) i)]),_,_]=[_,Sl.sp 0 true ((bs++[bwF ws bs (2 ^ j) i]).map enD),_,_]
    rw[Ù]
    rfl
   ·rcases ş t (2 ^ j+i) with z|z
    ·have:=hb t z
     rw[Ð] at this ⊢
     rw[ú (by omega)]
     exact this
    ·have e:t=i+2 ^ j:=by omega
     subst e
     rw[Ð,é (by omega),show i+2 ^ j - bs.length=0 by omega]
     exact be
  ·rintro ρ ⟨bs,rfl,lb,eg,hb⟩
   rw[Ł,ï] at lb eg hb
   refine⟨?_,n - (j+1),by omega,j+1,bs,?_,by omega,by omega,eg,λt ht=>hb t (by omega),rfl⟩
   ·exact .inl ⟨by decide,by decide⟩
   ·rw[show((2 ^ (j+1):Nat):Int)=2 * ((2 ^ j:Nat):Int) by omega]
    rfl
 ·have jn:j=n:=by omega
  subst jn
  rw[decide_eq_false (by omega)]
  refine aX (A:=True) ?_
  have be:=hb (2 ^ j - 1) (by omega)
  have e1:atI (bs.map enD) (-1)=some (enD (bs.getD (2 ^ j - 1) (0,[]))):=by
   rcases List.eq_nil_or_concat bs with rfl|⟨B,e,hB⟩
   ·simp at lb;omega
   ·rw[List.concat_eq_append] at hB
    subst hB
    rw[È,Ü] at lb
    rw[Ù,Ð,é (by omega),show 2 ^ j - 1 - B.length=0 by omega]
    exact oF _ _
  exact⟨_,e1,_,rfl,rfl,q _ (be.ha n8 lw (by rw[eg];rfl))⟩
end
def iC(n:Nat)(W:List Int->Int):List Int:=0::(((subs n).drop 1).dropLast.map W++[0])
def lO(n:Nat)(W:List Int->Int)(out:List (List Int)):Prop:=∃ks,HAok n (iC n W) ks/\out.Perm (ks.map (setOf n))/\out.Pairwise (λa b=>bA 40 a<=bA 40 b)/\∀l∈out,oK l
def fWt(n:Nat)(W:List Int->Int)(ds:List D)(P:D->Prop):Prop:=∃l:List Int,ds=[.list (l.map Â)]/\Proper ((n:Nat):Int) l/\P (.int (W l))
def tHF(g:List D->(D->Prop)->Prop)(m:Int)(Pd:D->Prop):Prop:=∃(n:Nat) (W:List Int->Int),m=((n:Nat):Int)/\1<=n/\n<=8/\g=fWt n W/\(∀l,0<=W l)/\∀out,lO n W out->Pd (.list (out.map iD))
def Ec{α:Type}(l:List α)(h:2<=l.length):dg l (some 1) (some (-1))=(l.drop 1).dropLast:=by
 unfold dg
 have e1:HT.sIx l.length l.length (some (-1))=l.length - 1:=by
  have e:HT.sIx l.length l.length (some (-1))=((-1:Int)+(l.length:Int)).toNat:=rfl
  rw[e]
  omega
 have e2:HT.sIx l.length 0 (some 1)=min 1 l.length:=HT.mO l.length 0 1
 rw[e1,e2,Nat.min_eq_left (by omega),List.dropLast_eq_take,Ā]
def uh:∀k,∃M f,subs k=M++[f]/\∀l∈M,l.length<k
 |0=>⟨[],[],rfl,λl h=>nomatch h⟩
 |k+1=>by
  obtain⟨M,f,e,h⟩:=uh k
  refine⟨subs k++M.map λl=>l++[0+((k:Nat):Int)],f++[0+((k:Nat):Int)],?_,λl hl=>?_⟩
  ·show subs k++(subs k).map _=_
   rw[show(subs k).map (λl=>l++[0+((k:Nat):Int)])=(M++[f]).map (λl=>l++[0+((k:Nat):Int)]) by rw[←e],Ù,Ĳ]
   rfl
  ·rcases å.mp hl with z|z
   ·have:=(jZ k l z).2.2
    omega
   ·obtain⟨a,ha,rfl⟩:=ê.mp z
    have:=h a ha
    rw[È,Ü]
    omega
def jX{n:Nat}(n1:1<=n)(n8:n<=8):2<=2 ^ n/\2 ^ n<=256:=⟨Ć (n:=2) (by decide) n1,Ć (n:=2) (by decide) n8⟩
def dX{n:Nat}(n1:1<=n)(n8:n<=8){l:List Int}(h:l∈((subs n).drop 1).dropLast):Proper ((n:Nat):Int) l:=by
 obtain⟨M,f,e,hM⟩:=uh n
 obtain⟨r,e2,hr⟩:=uo n
 have h1:=(List.dropLast_sublist _).mem h
 obtain⟨o1,o2,o3⟩:=jZ n l (List.mem_of_mem_drop h1)
 have hne:l≠[]:=by
  rw[e2] at h1
  exact hr l h1
 have p2:=jX n1 n8
 have hM1:l∈M:=by
  have lm:(subs n).length=M.length+1:=by rw[e];simp
  have:((subs n).drop 1).dropLast=M.drop 1:=by
   rw[e,List.drop_append_of_le_length (by rw[cD] at lm;omega),List.dropLast_concat]
  rw[this] at h
  exact List.mem_of_mem_drop h
 have:=hM l hM1
 exact⟨List.length_pos_iff.mpr hne,by omega,o2,o1,by omega⟩
def Gw{n:Nat}{W:List Int->Int}(n1:1<=n)(n8:n<=8)(w0:∀l,0<=W l):(iC n W).length=2 ^ n/\(∀x∈iC n W,0<=x)/\(iC n W).head?=some 0/\(iC n W).getLast?=some 0:=by
 have p2:=jX n1 n8
 unfold iC
 refine⟨?_,λx hx=>?_,rfl,?_⟩
 ·rw[ã,È,Á,ĸ,Ā,cD,Ü]
  omega
 ·rcases Ñ.mp hx with rfl|hx
  ·exact ā _
  ·rcases å.mp hx with z|z
   ·obtain⟨l,_,rfl⟩:=ê.mp z
    exact w0 l
   ·rw[Ô.mp z];exact ā _
 ·rw[←List.cons_append,List.getLast?_concat]
def vG{n:Nat}{k:Int}(h:k.toNat<2 ^ n):(subs n)[k.toNat]?=some (setOf n k)/\setOf n k∈subs n:=by
 have hl:k.toNat<(subs n).length:=by rw[cD];exact h
 have e:(subs n)[k.toNat]?=some (setOf n k):=by
  unfold setOf
  rw[Ð,Ç hl]
  rfl
 exact⟨e,Î e⟩
section
variable {P:Program}{w:World}{K:Ú}{mg:Str->Option Value}{base:Heap}{f:Addr}{fd:FuncData}{CN:Addr}
def fH:FnScope ["n","weigh","sets","weights"] ["n","weigh"] (ao (top 23)):=zC
def jH:(["some","n","weigh","sets","weights"]:List Str).Nodup:=by decide +kernel
def jG:(["number","n","weigh","sets","weights"]:List Str).Nodup:=by decide +kernel
def lW(F:Fun K "heaviest_family" "heaviest_family" (top 23) f fd)(B:Ĵ mg)(C_sets_below:ø P w K mg base 1 "sets_below" ["count"] (spD fSB))(C_heaviest_apart:ø P w K mg base 2 "heaviest_apart" ["weights"] (spD fHA)):FnOk P w K mg base CX0 11 f fd ["n","weigh"] (spF P w K mg base 10 ["some"] tHF):=by
 refine F.ok fH (λvs H Q E h=>by obtain⟨_,_,_,_,_,rfl,_⟩:=h;rfl) (λcdv A outer s H vs Q E hr h=>?_)
 obtain⟨n,fl,Z,g,Pd,rfl,⟨fdl,FW,FA,BW,hZ⟩,z,ht,k⟩:=h
 have nd:=fH.nd
 letI:=grZ Z
 refine⟨_,Ĝ (Ö (ñ none (i:=2) nd rfl zQ (Œ C_sets_below hr (À (Ë 0) Å)))
  (Ö (ñ none (i:=3) nd rfl zQ (ğ (ğ (Ě (À Õ Å)) (Wr.cB ["some"] rfl (Ĕ (Wr.uE (Ë 2) (Wr.dJ Õ) (Wr.dJ (Wr.lQ Õ)))) (λc=>(è (i:=0) jH rfl zQ)) (λc=>ŀ) (λc=>(Wr.dcV hZ FW FA hr BW (Ŗ 2) (À (Ë 0) Å))))) (Ě (À Õ Å))))
  (ý (Ē (Wr.q9 hr.units B.sorted (À (Wr.cB ["number"] rfl (Ĕ (Œ C_heaviest_apart hr (À (Ë 3) Å))) (λc=>(è (i:=0) jG rfl zQ)) (λc=>ŀ) (λc=>(ö (Ë 3) (Ë 0)))) Å)))))),RK z k rfl ?_⟩
 obtain⟨n,W,rfl,n1,n8,rfl,w0,q⟩:=ht
 refine⟨((n:Nat):Int),rfl,by omega,by omega,?_⟩
 rw[ï]
 refine kW (rg:=none) (i:=2) (k:=norm .new (.list ((subs n).map lD))) (d:=.list ((subs n).map lD)) (s:=.sn (.list ((subs n).map lD))) (by rfl) ?_
 have p2:=jX n1 n8
 have ls:=cD n
 obtain⟨f1,f2,f3,f4⟩:=Gw (W:=W) n1 n8 w0
 refine⟨zK,.inr ?_⟩
 have ec:dg ((subs n).map lD) (some 1) (some (-1))=(((subs n).drop 1).dropLast).map lD:=by
  rw[Ec _ (by rw[Á];omega),←ű,←List.map_dropLast]
 have ml:(((subs n).drop 1).dropLast).length<=256:=by rw[ĸ,Ā];omega
 dsimp only
 rw[ec]
 refine pH (((subs n).drop 1).dropLast) lD (λl=>.int (W l)) .imm rfl (by omega) (λl hl A B h=>aM (B:=True) ⟨⟨false,rfl⟩,l,rfl,dX n1 n8 hl,rfl,h⟩) ?_
 refine⟨?_,.inr ⟨zK,?_,.inr ?_⟩⟩
 ·show 1+(ķ _ _).length<=1000
  rw[Á]
  omega
 ·show(ķ _ _++ķ _ _).length+1<=1000
  rw[È,Á,Á]
  show 1+_+1<=1000
  omega
 have ew:(ķ (λx:Kd×D=>x.snd) [(Kd.imm,Â 0)]++(((subs n).drop 1).dropLast).map λl=>Â (W l))++ķ (λx:Kd×D=>x.snd) [(Kd.imm,Â 0)]=(iC n W).map Â:=by
  show Â 0::((((subs n).drop 1).dropLast).map (λl=>Â (W l))++[Â 0])=Â 0::((((subs n).drop 1).dropLast).map W++[0]).map Â
  rw[Ù,õ]
  rfl
 dsimp only
 rw[ew]
 show Bv (tCl wV (bQ (dLC [ç "number"].length (iSq (tFn fHA (bQ (tV 3) je))) (gNm 0) (λx P=>P true) (t2 gIx (tV 3) (tV 0))) je)) { nx:=λx=>Pd PyData.none,rt:=Pd } [.im (.int n),.scr (.ref fl) false,.sn (.list ((subs n).map lD)),.sn (iD (iC n W))]
 refine⟨n,iC n W,rfl,n1,n8,f1,f2,f3,f4,λks hk=>?_⟩
 have kl:=hk.len
 have km:∀k∈ks,k.toNat<2 ^ n/\0<=k:=λk h=>by have:=hk.rng k h;omega
 refine pH ks Â (λk=>lD (setOf n k)) .snw rfl (by omega) (λk h A B z=>aM (B:=True) ⟨lD (setOf n k),?_,rfl,z⟩) ?_
 ·obtain⟨h1,h2⟩:=km k h
  have:=(vG h1).1
  have ek:((k.toNat:Nat):Int)=k:=by omega
  have:=dN (xs:=(subs n).map lD) (j:=k.toNat) (v:=lD (setOf n k)) (by rw[ß,this];rfl)
  rw[ek] at this
  exact this
 ·have nic:∀l∈ks.map (setOf n),oK l:=λl hl=>by
   obtain⟨k,hk',rfl⟩:=ê.mp hl
   obtain⟨o1,o2,o3⟩:=jZ n _ (vG (km k hk').1).2
   exact⟨by omega,λx hx=>by have:=o2 x hx;omega⟩
  refine⟨ks.map (setOf n),by rw[õ];rfl,by rw[Á];omega,nic,λout hp hs=>⟨rfl,q out ⟨ks,hk,hp,hs,λl hl=>nic l (hp.mem_iff.mp hl)⟩⟩⟩
end
abbrev e0:En:=(0,[])
def zA{ws:List Int}{bs bs':List En}{top rest:Nat}(h:∀m,m<=rest->bs.getD m e0=bs'.getD m e0):bwF ws bs top rest=bwF ws bs' top rest:=by
 have hs:bU ws bs top rest=bU ws bs' top rest:=by
  funext f s
  unfold bU
  rw[h (rest - s) (by omega)]
 unfold bwF
 rw[hs,h rest (Ì _)]
def pJ{α:Type}{l m:List α}{i:Nat}{d:α}(h:i<l.length):(l++m).getD i d=l.getD i d:=by
 rw[Ð,Ð,ú h]
def getD_last{α:Type}{l:List α}{x d:α}{i:Nat}(h:i=l.length):(l++[x]).getD i d=x:=by
 subst h
 rw[Ð,é (Ì _),Nat.sub_self]
 rfl
def kE(ws:List Int)(bs:List En)(top:Nat):∀i,(dI ws bs top i).length=bs.length+i
 |0=>rfl
 |i+1=>by
  show(dI ws bs top i++[_]).length=_
  rw[È,kE,Ü]
  omega
def nR(ws:List Int):∀j,(grow ws j).length=2 ^ j
 |0=>rfl
 |j+1=>by
  show(dI ws (grow ws j) (2 ^ j) (2 ^ j)).length=_
  rw[kE,nR,Ů]
  omega
def pI{ws:List Int}{bs:List En}{top m:Nat}(h:m<bs.length):∀i,(dI ws bs top i).getD m e0=bs.getD m e0
 |0=>rfl
 |i+1=>by
  show(dI ws bs top i++[_]).getD m e0=_
  rw[pJ (by rw[kE];omega),pI h i]
def yV{ws:List Int}{bs:List En}{top:Nat}(hb:bs.length=top)(h1:1<=top):∀i r,r<i->i<=top->(dI ws bs top i).getD (r+top) e0=bwF ws (dI ws bs top i) top r
 |0,r,h,_=>by omega
 |i+1,r,h,hi=>by
  have ln:=kE ws bs top i
  show(dI ws bs top i++[bwF ws (dI ws bs top i) top i]).getD (r+top) e0=bwF ws (dI ws bs top i++[bwF ws (dI ws bs top i) top i]) top r
  have cg:bwF ws (dI ws bs top i++[bwF ws (dI ws bs top i) top i]) top r=bwF ws (dI ws bs top i) top r:=zA λm hm=>pJ (by omega)
  rw[cg]
  rcases ş r i with z|z
  ·rw[pJ (by omega)]
   exact yV hb h1 i r z (by omega)
  ·have:r=i:=by omega
   subst this
   exact getD_last (by omega)
def uQ(ws:List Int):∀n,(grow ws n).getD 0 e0=e0
 |0=>rfl
 |n+1=>by
  have:=Ű n
  show(dI ws (grow ws n) (2 ^ n) (2 ^ n)).getD 0 e0=e0
  rw[pI (by rw[nR];exact this)]
  exact uQ ws n
def uR(ws:List Int):∀n j r,j<n->r<2 ^ j->(grow ws n).getD (r+2 ^ j) e0=bwF ws (grow ws n) (2 ^ j) r
 |0,j,r,h,_=>by omega
 |n+1,j,r,h,hr=>by
  have p1:=Ű n
  have p2:=Ű j
  rcases ş j n with z|z
  ·have pl:2 ^ (j+1)<=2 ^ n:=Ć (by decide) (by omega)
   rw[Ů] at pl
   have pre:∀m,m<2 ^ n->(grow ws (n+1)).getD m e0=(grow ws n).getD m e0:=λm hm=>pI (by rw[nR];exact hm) _
   rw[pre _ (by omega),zA (bs:=grow ws (n+1)) (bs':=grow ws n) λm hm=>pre m (by omega)]
   exact uR ws n j r z hr
  ·have:j=n:=by omega
   subst this
   exact yV (nR ws j) p1 (2 ^ j) r hr (Ì _)
def eV(ws:List Int)(n m:Nat):Int:=((grow ws n).getD m e0).1
def sJ{ws:List Int}{bs:List En}{top rest:Nat}:∀(l:List Nat) (e:En),e.1<=(l.foldl (bU ws bs top rest) e).1/\(∀s∈l,ws.getD (s+top) 0+(bs.getD (rest - s) e0).1<=(l.foldl (bU ws bs top rest) e).1)/\((l.foldl (bU ws bs top rest) e).1=e.1\/∃s∈l,(l.foldl (bU ws bs top rest) e).1=ws.getD (s+top) 0+(bs.getD (rest - s) e0).1)
 |[],e=>⟨ā _,λs h=>(nomatch h),.inl rfl⟩
 |s::l,e=>by
  obtain⟨h1,h2,h3⟩:=sJ l (bU ws bs top rest e s)
  have k:e.1<=(bU ws bs top rest e s).1/\ws.getD (s+top) 0+(bs.getD (rest - s) e0).1<=(bU ws bs top rest e s).1/\((bU ws bs top rest e s).1=e.1\/(bU ws bs top rest e s).1=ws.getD (s+top) 0+(bs.getD (rest - s) e0).1):=by
   unfold bU
   by_cases c:e.1<ws.getD (s+top) 0+(bs.getD (rest - s) (0,[])).1
   ·rw[if_pos c]
    exact⟨Int.le_of_lt c,ā _,.inr rfl⟩
   ·rw[if_neg c]
    exact⟨ā _,by show _+(bs.getD (rest - s) (0,[])).1<=_;omega,.inl rfl⟩
  rw[List.foldl_cons]
  refine⟨Int.le_trans k.1 h1,λx hx=>?_,?_⟩
  ·rcases Ñ.mp hx with rfl|hx
   ·exact Int.le_trans k.2.1 h1
   ·exact h2 x hx
  ·rcases h3 with z|⟨x,hx,z⟩
   ·rcases k.2.2 with y|y
    ·exact .inl (z.trans y)
    ·exact .inr ⟨s,Æ,z.trans y⟩
   ·exact .inr ⟨x,Ã _ hx,z⟩
section
variable {ws:List Int}{n:Nat}
def uw{m n:Nat}(h0:0<m)(h:m<2 ^ n):∃j r,m=r+2 ^ j/\r<2 ^ j/\j<n:=by
 have a:=Nat.log2_self_le (n:=m) (by omega)
 have b:=Nat.lt_log2_self (n:=m)
 refine⟨m.log2,m - 2 ^ m.log2,by omega,by rw[Ů] at b;omega,?_⟩
 rcases ş m.log2 n with z|z
 ·exact z
 ·have:=Ć (n:=2) (by decide) z
  omega
def w5(hn:n<=8){j r:Nat}(hj:j<n)(hr:r<2 ^ j):eV ws n r<=eV ws n (r+2 ^ j)/\(∀s,inB s r=true->ws.getD (s+2 ^ j) 0+eV ws n (r - s)<=eV ws n (r+2 ^ j))/\(eV ws n (r+2 ^ j)=eV ws n r\/∃s,inB s r=true/\eV ws n (r+2 ^ j)=ws.getD (s+2 ^ j) 0+eV ws n (r - s)):=by
 have p8:=Et (show j<8 by omega)
 obtain⟨h1,h2,h3⟩:=sJ (ws:=ws) (bs:=grow ws n) (top:=2 ^ j) (rest:=r) (chn 129 r r) ((grow ws n).getD r e0)
 have e:eV ws n (r+2 ^ j)=((chn 129 r r).foldl (bU ws (grow ws n) (2 ^ j) r) ((grow ws n).getD r e0)).1:=by
  unfold eV
  rw[uR ws n j r hj hr]
  rfl
 rw[e]
 refine⟨h1,λs hs=>h2 s ((oE (by omega) s).mpr hs),?_⟩
 rcases h3 with z|⟨s,hs,z⟩
 ·exact .inl z
 ·exact .inr ⟨s,(oE (by omega) s).mp hs,z⟩
def Ni:eV ws n 0=0:=by
 unfold eV
 rw[uQ]
def Uy:allB 128 (λr=>allB (r+1) λs=>!inB s r || (r - s == r ^^^ s))=true:=by decide +kernel
def O9{r s:Nat}(hr:r<128)(h:inB s r=true):r - s=r ^^^ s:=by
 have a:=allB_iff (allB_iff Uy r hr) s (by have:=cL h;omega)
 rw[h] at a
 simpa using a
def qj{s r:Nat}:inB s r=true↔∀i,s.testBit i=true->r.testBit i=true:=by
 rw[fj]
 constructor
 ·intro h i hi
  rw[←h,Nat.testBit_and,Û] at hi
  exact hi.2
 ·intro h
  refine Nat.eq_of_testBit_eq λi=>?_
  rw[Nat.testBit_and]
  cases c:s.testBit i with
  |false=>rfl
  |true=>rw[h i c];rfl
def Vi{r s t:Nat}(hr:r<128)(hs:inB s r=true)(ht:inB t (r - s)=true):inB t r=true/\inB s (r - t)=true:=by
 have h1:inB t r=true:=qj.mpr λi hi=>qj.mp (Pa hr hs).2 i (qj.mp ht i hi)
 refine⟨h1,?_⟩
 rw[O9 hr h1]
 rw[O9 hr hs] at ht
 refine qj.mpr λi hi=>?_
 have a:=qj.mp hs i hi
 rw[Nat.testBit_xor,a]
 cases c:t.testBit i with
 |false=>rfl
 |true =>
  have b:=qj.mp ht i c
  rw[Nat.testBit_xor,a,hi] at b
  cases b
def Rz(hn:n<=8)(h0:ws.getD 0 0=0):∀m,m<2 ^ n->∀s,inB s m=true->ws.getD s 0+eV ws n (m - s)<=eV ws n m:=by
 intro m
 induction m using Nat.strongRecOn with
 |_ m ih =>
  intro hm s hs
  by_cases z:m=0
  ·subst z
   have:s=0:=by have:=cL hs;omega
   subst this
   rw[h0]
   show 0+eV ws n 0<=_
   omega
  ·obtain⟨j,r,rfl,hr,hj⟩:=uw (by omega) hm
   have p8:=Et (show j<8 by omega)
   have sl:=cL hs
   obtain⟨r1,r2,r3⟩:=w5 (ws:=ws) hn hj hr
   rcases Vh (by omega) hr (by rw[Ů];omega) hs with ⟨c,z⟩|⟨c,z⟩
   ·have zl:=cL z
    obtain⟨q1,q2,q3⟩:=w5 (ws:=ws) hn hj (show r - s<2 ^ j by omega)
    have em:r+2 ^ j - s=(r - s)+2 ^ j:=by omega
    rw[em]
    rcases q3 with y|⟨t,ht,y⟩
    ·rw[y]
     have:=ih r (by omega) (by omega) s z
     omega
    ·rw[y]
     obtain⟨t1,t2⟩:=Vi (by omega) z ht
     have:=ih (r - t) (by have:=cL t1;omega) (by omega) s t2
     have:=r2 t t1
     have e:r - s - t=r - t - s:=by omega
     rw[e]
     omega
   ·have:=r2 _ z
    rw[show s - 2 ^ j+2 ^ j=s by omega,show r - (s - 2 ^ j)=r+2 ^ j - s by omega] at this
    exact this
def U8(hn:n<=8):∀m,m<2 ^ n->0<=eV ws n m:=by
 intro m
 induction m using Nat.strongRecOn with
 |_ m ih =>
  intro hm
  by_cases z:m=0
  ·subst z
   rw[Ni]
   exact ā _
  ·obtain⟨j,r,rfl,hr,hj⟩:=uw (by omega) hm
   have:=(w5 (ws:=ws) hn hj hr).1
   have:=ih r (by omega) (by omega)
   omega
end
def KZ(l:List Int):iG (iD l)=l:=vg l
def Dy{n:Int}{L:List (List Int)}(h:∀l∈L,Proper n l)(nd:L.flatten.Nodup):Ux n (.list (L.map iD))=true:=by
 show((L.map iD).all (cF n)&&Ar ((L.map iD).flatMap iG))=true
 have e1:(L.map iD).all (cF n)=true:=ę.mpr λd hd=>by
  obtain⟨l,hl,rfl⟩:=ê.mp hd
  exact qX (h l hl)
 have e2:(L.map iD).flatMap iG=L.flatten:=by
  rw[List.flatMap_map]
  have:(λl=>iG (iD l))=id:=funext KZ
  rw[this,List.flatMap_id]
 rw[e1,e2]
 show Ar L.flatten=true
 exact decide_eq_true ((Al _).mpr nd)
def O4(ds:List D)(P:D->Prop):Prop:=∃(n:Int) (us:List Tie) (L:List (List Int)),ds=[aD n us,.list (L.map iD)]/\n<=16/\L.length<=60/\(∀l∈L,Proper n l)/\L.flatten.Nodup/\P .none
def BZ{N k:Nat}{W:List Int->Int}(k0:0<k)(k1:k+1<2 ^ N):(iC N W).getD k 0=W (setOf N ((k:Nat):Int))/\setOf N ((k:Nat):Int)∈((subs N).drop 1).dropLast:=by
 have e:=(vG (n:=N) (k:=((k:Nat):Int)) (by rw[ï];omega)).1
 rw[ï] at e
 have em:(((subs N).drop 1).dropLast)[k - 1]?=some (setOf N ((k:Nat):Int)):=by
  rw[List.dropLast_eq_take,List.getElem?_take_of_lt (by rw[Ā,cD];omega),List.getElem?_drop,show 1+(k - 1)=k by omega]
  exact e
 refine⟨?_,Î em⟩
 unfold iC
 rw[Ð,show k=(k - 1)+1 by omega,List.getElem?_cons_succ,ú (by rw[Á,ĸ,Ā,cD];omega),ß,em]
 rw[show k - 1+1=k by omega]
 rfl
def Hy{a b:List Int}(h:a.Perm b):a.sum=b.sum:=by
 induction h with
 |nil=>rfl
 |cons x _ ih=>rw[ò,ò,ih]
 |swap x y l=>rw[ò,ò,ò,ò];omega
 |trans _ _ h1 h2=>exact h1.trans h2
def kO{N:Nat}{W:List Int->Int}{out:List (List Int)}(n1:1<=N)(n8:N<=8)(h:lO N W out):(∀l∈out,Proper ((N:Nat):Int) l)/\out.flatten.Nodup/\out.length<=60:=by
 obtain⟨ks,ha,hp,_⟩:=h
 have kr:∀k∈ks,∃q:Nat,k=((q:Nat):Int)/\0<q/\q+1<2 ^ N:=λk hk=>by
  have:=ha.rng k hk
  exact⟨k.toNat,by omega,by omega,by omega⟩
 have mem:∀l∈out,∃q:Nat,l=setOf N ((q:Nat):Int)/\0<q/\q+1<2 ^ N:=λl hl=>by
  obtain⟨k,hk,rfl⟩:=ê.mp (hp.mem_iff.mp hl)
  obtain⟨q,rfl,a,b⟩:=kr k hk
  exact⟨q,rfl,a,b⟩
 have pr:∀l∈out,Proper ((N:Nat):Int) l:=λl hl=>by
  obtain⟨q,rfl,a,b⟩:=mem l hl
  exact dX n1 n8 (BZ (W:=W) a b).2
 have ll:out.length<=60:=by rw[hp.length_eq,Á];have:=ha.len;omega
 refine⟨pr,?_,ll⟩
 refine(hp.flatten).nodup_iff.mpr (List.pairwise_flatten.mpr ⟨λl hl=>?_,?_⟩)
 ·have:=(pr l (hp.mem_iff.mpr hl)).rise
  exact this.imp λz=>by omega
 ·exact List.pairwise_map.mpr (ha.apart.imp λz x hx y hy (e:x=y)=>z x hx (by rw[e];exact hy))
def qD{N:Nat}{W:List Int->Int}{out:List (List Int)}(h:lO N W out):(out.map W).sum=eV (iC N W) N (2 ^ N - 1):=by
 obtain⟨ks,ha,hp,_⟩:=h
 have e:(out.map W).sum=tH (iC N W) ks:=by
  rw[Hy (hp.map W)]
  unfold tH
  rw[õ]
  congr 1
  refine Č λk hk=>?_
  have:=ha.rng k hk
  obtain⟨q,rfl⟩:∃q:Nat,k=((q:Nat):Int):=⟨k.toNat,by omega⟩
  rw[ï,(BZ (by omega) (by omega)).1]
  rfl
 rw[e,ha.tot]
 rfl
def WO(us:List Tie)(fa:Int)(s:Str)(l:List Int):Int:=nd1 fa (byS us s l)
def Gx(us:List Tie)(fa:Int)(s:Str)(l:List Int):0<=WO us fa s l:=by
 unfold WO nd1
 split <;> omega
def Pk{us:List Tie}{fa:Int}(h0:0<=fa)(h1:fa<=10)(s:Str)(l:List Int):-1000000<=WO us fa s l/\WO us fa s l<=1000000:=by
 unfold WO nd1
 split <;> omega
def fOB(ds:List D)(P:D->Prop):Prop:=∃(n:Int) (us:List Tie) (fa:Int) (s:Str) (L:List (List Int)),ds=[aD n us,.int fa,.str s,.list (L.map iD)]/\n<=16/\us.length<=100/\0<=fa/\fa<=10/\L.length<=60/\(∀l∈L,Proper n l)/\L.flatten.Nodup/\P (.int (L.map (WO us fa s)).sum)
section
variable {P:Program}{w:World}{K:Ú}{mg:Str->Option Value}{base:Heap}{f:Addr}{fd:FuncData}{CN:Addr}
def jg:FnScope ["web","thing"] ["web","thing"] (ao (top 20)):=zC
def qu(F:Fun K "check_family" "check_family" (top 20) f fd)(B:Ĵ mg)(C_is_family:ø P w K mg base 5 "is_family" ["n","thing"] (spD Ry)):FnOk P w K mg base CX0 6 f fd ["web","thing"] (spD O4):=by
 refine F.ok jg ĩ (λcdv A outer s H vs Q E hr h=>?_)
 have nd:=jg.nd
 refine⟨_,Ĝ (ý (Wr.cY (Wr.bJ (Wr.bC (Œ C_is_family hr (À (ö (Ë 0) Õ) (À (Ë 1) Å))))) (ý Wr.n6) Ğ)),aR h ?_⟩
 rintro ds P ⟨n,us,L,rfl,n16,ll,hL,nd,q⟩
 refine⟨[.im (aD n us),.sh (.list (L.map iD))],by show [bw (aD n us),_]=_;rw[bL];rfl,?_⟩
 refine⟨.int n,rfl,n,.list (L.map iD),rfl,λes e=>?_,n16,?_⟩
 ·cases e
  refine⟨by rw[Á];exact ll,λe he=>?_⟩
  obtain⟨l,hl,rfl⟩:=ê.mp he
  intro es e2
  cases e2
  rw[Á]
  have:=(hL l hl).few
  omega
 ·rw[Dy hL nd]
  exact aX (A:=True) q
def mG:FnScope ["one","falls","side","family"] ["one","falls","side","family"] (ao (top 31)):=zC
def rQ:(["some","one","falls","side","family"]:List Str).Nodup:=by decide +kernel
def wA(F:Fun K "one_bound" "one_bound" (top 31) f fd)(B:Ĵ mg)(m_sum:mg "sum"=none)(C_check_family:ø P w K mg base 6 "check_family" ["web","thing"] (spD O4))(C_one_need:ø P w K mg base 9 "one_need" ["one","falls","side","some"] (spD fON)):FnOk P w K mg base CX0 10 f fd ["one","falls","side","family"] (spD fOB):=by
 refine F.ok mG ĩ (λcdv A outer s H vs Q E hr h=>?_)
 have nd:=mG.nd
 refine⟨_,Ĝ (Ö (Wr.qF (Œ C_check_family hr (À (Ë 0) (À (Ë 3) Å))))
  (ý (Ē (Wr.nq rfl m_sum (À (Wr.cB ["some"] rfl (Ĕ (Ë 3)) (λc=>(è (i:=0) rQ rfl zQ)) (λc=>ŀ) (λc=>(Œ C_one_need hr (À (Ë 1) (À (Ë 2) (À (Ë 3) (À (Ë 0) Å))))))) Å))))),aR h ?_⟩
 rintro ds P ⟨n,us,fa,s,L,rfl,n16,lu,h0,h1,ll,hL,nd,q⟩
 refine⟨[.im (aD n us),.im (.int fa),.im (.str s),.sh (.list (L.map iD))],by show [bw (aD n us),_,_,_]=_;rw[bL];rfl,?_⟩
 refine⟨n,us,L,rfl,n16,ll,hL,nd,?_⟩
 refine pH L iD (λl=>.int (WO us fa s l)) .imm rfl (by omega) (λl hl A B h=>aM (B:=True) ⟨n,us,fa,s,l,rfl,hL l hl,lu,rfl,h⟩) ?_
 refine⟨L.map (WO us fa s),by rw[õ];rfl,by rw[Á];omega,λx hx=>?_,rfl,q⟩
 obtain⟨l,_,rfl⟩:=ê.mp hx
 exact Pk h0 h1 s l
end
abbrev Spr:=List (List Int×Int)
def mb(l:List Int)(v:Int):Bool:=decide (v∈l)
def psN(n:Nat):List (List Int):=((subs n).drop 1).dropLast
def pG(n:Nat)(X:Int->Bool):List Int:=(mX n).filter X
abbrev RgT(n:Nat)(us:List Tie):Prop:=∀t∈us,(0<=t.1/\t.1<(n:Int))/\(0<=t.2/\t.2<(n:Int))
abbrev RgE(n:Nat)(es:List Int):Prop:=∀e∈es,0<=e/\e<(n:Int)
def fU{n:Nat}{X:Int->Bool}{v:Int}(h:0<=v/\v<(n:Int)):mb (pG n X) v=X v:=by
 unfold mb pG
 rw[ġ,decide_eq_true_iff,ą,nF]
 exact⟨λh=>h.2,λq=>⟨h,q⟩⟩
def Jr{n:Nat}{es:List Int}(he:RgE n es){X Y:Int->Bool}(h:∀v,0<=v/\v<(n:Int)->X v=Y v):Cut.mg es X=Cut.mg es Y:=by
 unfold Cut.mg
 refine Ź λt ht=>?_
 rw[h _ (he t ht)]
def Ab{n:Nat}{l:List Int}(h:Proper ((n:Nat):Int) l):Cut.Prp n (mb l):=by
 refine⟨?_,?_⟩
 ·cases l with
  |nil=>have:=h.one;simp at this
  |cons v r=>exact⟨v,h.rng v Æ,decide_eq_true Æ⟩
 ·apply ĉ
  intro hn
  have all:∀x∈mX n,x∈l:=λx hx=>by
   apply ĉ
   intro hx2
   exact hn ⟨x,nF.mp hx,decide_eq_false hx2⟩
  have nd:(mX n).Nodup:=by
   unfold mX
   exact List.Pairwise.map _ (λa b hab h=>hab (by omega)) List.nodup_range
  have:=nd.length_le_of_subset all
  have fw:=h.few
  unfold mX at this
  rw[Á,ō] at this
  omega
def oW{n:Nat}(n1:1<=n)(n8:n<=8){l:List Int}(h:l∈psN n):Cut.Prp n (mb l):=Ab (dX n1 n8 h)
def DN{n:Nat}(n8:n<=8){X:Int->Bool}(h:Cut.Prp n X):∃q:Nat,0<q/\q+1<2 ^ n/\setOf n ((q:Nat):Int)=pG n X/\∀i,i<n->q.testBit i=X ((i:Nat):Int):=by
 obtain⟨q,hq⟩:=Ş (wX X n)
 have hl:=(Ê.mp hq).1
 rw[cD] at hl
 have es:setOf n ((q:Nat):Int)=pG n X:=by
  unfold setOf
  rw[ï,Ð,hq]
  rfl
 have sb:(subs n).getD q []=((Þ n).filter (λi=>q.testBit i)).map λi:Nat=>0+((i:Nat):Int):=beq_iff_eq.mp (allB_iff (allB_iff Ow n (by omega)) q hl)
 have tb:∀i,i<n->q.testBit i=X ((i:Nat):Int):=λi hi=>by
  have e:(((Þ n).filter (λi=>q.testBit i)).map λi:Nat=>0+((i:Nat):Int))=pG n X:=by
   rw[←sb,←es]
   unfold setOf
   rw[ï]
  have m:=congrArg (λl=>mb l ((i:Nat):Int)) e
  have m:mb (((Þ n).filter (λi=>q.testBit i)).map λi:Nat=>0+((i:Nat):Int)) ((i:Nat):Int)=mb (pG n X) ((i:Nat):Int):=m
  rw[fU (by omega)] at m
  rw[←m]
  unfold mb
  rw[ġ,decide_eq_true_iff,ê]
  constructor
  ·exact λh=>⟨i,ą.mpr ⟨Ī.mpr hi,h⟩,by omega⟩
  ·rintro⟨j,hj,e⟩
   have:j=i:=by omega
   subst this
   exact(ą.mp hj).2
 refine⟨q,?_,?_,es,tb⟩
 ·obtain⟨v,⟨v0,v1⟩,hv⟩:=h.ins
  rcases Nat.eq_zero_or_pos q with z|z
  ·subst z
   have:=tb v.toNat (by omega)
   rw[Nat.zero_testBit,show((v.toNat:Nat):Int)=v by omega,hv] at this
   cases this
  ·exact z
 ·obtain⟨v,⟨v0,v1⟩,hv⟩:=h.out
  rcases ş (q+1) (2 ^ n) with z|z
  ·exact z
  ·have e:q=2 ^ n - 1:=by omega
   have:=tb v.toNat (by omega)
   rw[e,Nat.testBit_two_pow_sub_one,show((v.toNat:Nat):Int)=v by omega,hv,decide_eq_true (by omega)] at this
   cases this
def Ay{n:Nat}(n8:n<=8){X:Int->Bool}(h:Cut.Prp n X):pG n X∈psN n:=by
 obtain⟨q,q0,q1,e,_⟩:=DN n8 h
 rw[←e]
 exact(BZ (W:=λ_=>0) q0 q1).2
def Rw:allB 256 (λr=>allB (r+1) λs=>!inB s r || (r - s == r ^^^ s))=true:=by decide +kernel
def R0{r s:Nat}(hr:r<256)(h:inB s r=true):r - s=r ^^^ s:=by
 have a:=allB_iff (allB_iff Rw r hr) s (by have:=cL h;omega)
 rw[h] at a
 simpa using a
def J7{n:Nat}{ws:List Int}(n8:n<=8)(h0:ws.getD 0 0=0):∀(qs:List Nat) (m:Nat),m<2 ^ n->(∀q∈qs,inB q m=true)->qs.Pairwise (λa b=>a &&& b=0)->(qs.map λq=>ws.getD q 0).sum<=eV ws n m
 |[],m,hm,_,_=>U8 n8 m hm
 |q::qs,m,hm,hi,hp=>by
  have p8:2 ^ n<=256:=Ć (n:=2) (by decide) n8
  have iq:=hi q Æ
  have hp:=List.pairwise_cons.mp hp
  have:=J7 n8 h0 qs (m - q) (by omega) (λx hx=>by
   rw[R0 (by omega) iq]
   refine qj.mpr λi hx2=>?_
   have a:=qj.mp (hi x (Ã _ hx)) i hx2
   have b:=congrArg (λv=>Nat.testBit v i) (hp.1 x hx)
   simp only[Nat.testBit_and,Nat.zero_testBit,hx2,Bool.and_true] at b
   rw[Nat.testBit_xor,a,b]
   rfl) hp.2
  have s:=Rz n8 h0 m hm q iq
  rw[à,ò]
  omega
def jq{α:Type}(l:List α)(f:α->Nat):(l.map λx=>((f x:Nat):Int)).sum=(((l.map f).sum:Nat):Int):=by
 induction l with
 |nil=>rfl
 |cons x l ih=>rw[à,ò,à,ò,ih];omega
structure Side(n:Nat)(us:List Tie)(s:Str)(d:(Int->Bool)->Nat):Prop where
 eq:∀{X Y:Int->Bool},(∀v,0<=v/\v<(n:Int)->X v=Y v)->d X=d Y
 by_:∀l,d (mb l)=byS us s l
def Ot(us:List Tie)(l:List Int):Cut.di us (mb l)=inN us l:=by
 unfold Cut.di inN
 rw[←ŏ]
 rfl
def Qw(us:List Tie)(l:List Int):Cut.dO us (mb l)=jl us l:=by
 unfold Cut.dO jl
 rw[←ŏ]
 rfl
def iI{n:Nat}{us:List Tie}(hu:RgT n us):Side n us "in" (Cut.di us):=⟨λ{X Y} h=>by
 unfold Cut.di
 refine Ź λt ht=>?_
 obtain⟨a,b⟩:=hu t ht
 rw[h _ a,h _ b],λl=>by
 unfold byS
 rw[if_pos rfl,Ot]⟩
def fD{n:Nat}{us:List Tie}(hu:RgT n us):Side n us "out" (Cut.dO us):=⟨λ{X Y} h=>by
 unfold Cut.dO
 refine Ź λt ht=>?_
 obtain⟨a,b⟩:=hu t ht
 rw[h _ a,h _ b],λl=>by
 unfold byS
 rw[if_neg (by decide +kernel),Qw]⟩
def R7{n k:Nat}{us:List Tie}{s:Str}{d:(Int->Bool)->Nat}(S:Side n us s d)(l:List Int):WO us ((k:Int) - 1) s l=((k - d (mb l):Nat):Int):=by
 unfold WO nd1
 rw[S.by_]
 split <;> omega
def jd{n k:Nat}{us:List Tie}{s:Str}{d:(Int->Bool)->Nat}(n1:1<=n)(n8:n<=8)(S:Side n us s d){Gs:List (Int->Bool)}(hd:Gs.Pairwise (Cut.Dj n))(hp:∀X∈Gs,Cut.Prp n X) :
  (((Gs.map λX=>k - d X).sum:Nat):Int)<=eV (iC n (WO us ((k:Int) - 1) s)) n (2 ^ n - 1):=by
 have p2:=jX n1 n8
 have gen:∀Gs:List (Int->Bool),Gs.Pairwise (Cut.Dj n)->(∀X∈Gs,Cut.Prp n X)->∃qs:List Nat,(∀q∈qs,(0<q/\q+1<2 ^ n)/\∃X∈Gs,∀i,i<n->q.testBit i=X ((i:Nat):Int))/\qs.Pairwise (λa b=>a &&& b=0)/\(qs.map λq=>(iC n (WO us ((k:Int) - 1) s)).getD q 0)=Gs.map λX=>((k - d X:Nat):Int):=λGs hd=>by
  induction hd with
  |nil=>intro _;exact⟨[],λq h=>(nomatch h),.nil,rfl⟩
  |@cons X l hX hl ih =>
   intro hp
   obtain⟨qs,h1,h2,h4⟩:=ih λY hY=>hp Y (Ã _ hY)
   obtain⟨q,q0,q1,e,tb⟩:=DN n8 (hp X Æ)
   refine⟨q::qs,λx hx=>?_,.cons (λx hx=>?_) h2,?_⟩
   ·rcases Ñ.mp hx with rfl|hx
    ·exact⟨⟨q0,q1⟩,X,Æ,tb⟩
    ·obtain⟨a,Y,hY,b⟩:=h1 x hx
     exact⟨a,Y,Ã _ hY,b⟩
   ·obtain⟨⟨_,xl⟩,Y,hY,b⟩:=h1 x hx
    refine Nat.eq_of_testBit_eq λi=>?_
    rw[Nat.testBit_and,Nat.zero_testBit]
    rcases ş i n with z|z
    ·rw[tb i z,b i z]
     cases c:X ((i:Nat):Int) with
     |false=>rfl
     |true=>rw[hX Y hY _ (by omega) c];rfl
    ·have:q.testBit i=false:=Nat.testBit_lt_two_pow (æ (show q<2 ^ n by omega) (Ć (by decide) z))
     rw[this]
     rfl
   ·rw[à,à,h4,(BZ q0 q1).1,e,R7 S,S.eq λv hv=>fU hv]
 obtain⟨qs,h1,h2,h4⟩:=gen Gs hd hp
 have h0:(iC n (WO us ((k:Int) - 1) s)).getD 0 0=0:=rfl
 have:=J7 (ws:=iC n (WO us ((k:Int) - 1) s)) n8 h0 qs (2 ^ n - 1) (by omega) (λq hq=>fj.mpr (by
  have:=(h1 q hq).1
  rw[Nat.and_two_pow_sub_one_eq_mod,Nat.mod_eq_of_lt (by omega)])) h2
 rw[h4,jq] at this
 exact this
def tD{n k:Nat}{us:List Tie}{s:Str}{d:(Int->Bool)->Nat}{es:List Int}{out:List (List Int)}(n1:1<=n)(n8:n<=8)(S:Side n us s d)(he:RgE n es)(hC:∀X,Cut.Prp n X->k<=d X+Cut.mg es X)(ho:lO n (WO us ((k:Int) - 1) s) out):(out.map (WO us ((k:Int) - 1) s)).sum<=((es.length:Nat):Int):=by
 obtain⟨pr,nd,ll⟩:=kO n1 n8 ho
 have e:out.map (WO us ((k:Int) - 1) s)=(out.map mb).map λX=>((k - d X:Nat):Int):=by
  rw[õ]
  exact Č λl _=>R7 S l
 have dj:(out.map mb).Pairwise (Cut.Dj n):=List.pairwise_map.mpr ((List.pairwise_flatten.mp nd).2.imp λh v _ ha=>decide_eq_false λhb=>h v (of_decide_eq_true ha) v hb rfl)
 rw[e,jq]
 have a:=(Cut.G3 he dj).1
 have b:((out.map mb).map λX=>k - d X).sum<=((out.map mb).map λX=>Cut.mg es X).sum:=by
  have hp:∀X∈out.map mb,Cut.Prp n X:=λX hX=>by
   obtain⟨l,hl,rfl⟩:=ê.mp hX
   exact Ab (pr l hl)
  have gen:∀M:List (Int->Bool),(∀X∈M,Cut.Prp n X)->(M.map λX=>k - d X).sum<=(M.map λX=>Cut.mg es X).sum:=λM=>by
   induction M with
   |nil=>intro _;exact Ì _
   |cons X l ih =>
    intro hp
    rw[à,à,ò,ò]
    have:=ih λY hY=>hp Y (Ã _ hY)
    have:=hC X (hp X Æ)
    omega
  exact gen _ hp
 omega
def dE(d:(Int->Bool)->Nat)(es:List Int)(X:Int->Bool):Nat:=d X+Cut.mg es X
@[reducible] def DEq(n:Nat)(d:(Int->Bool)->Nat):Prop:=∀{X Y:Int->Bool},(∀v,0<=v/\v<(n:Int)->X v=Y v)->d X=d Y
def mnF(k:Int):List Int->Int
 |[]=>k
 |x::l=>if x<mnF k l then x else mnF k l
def wK(k:Int):∀l,mnF k l∈k::l
 |[]=>Æ
 |x::l=>by
  show(if x<mnF k l then x else mnF k l)∈_
  split
  ·exact Ã _ Æ
  ·rcases Ñ.mp (wK k l) with z|z
   ·rw[z];exact Æ
   ·exact Ã _ (Ã _ z)
def yN(k:Int):∀l,∀a∈k::l,mnF k l<=a
 |[],a,h=>by rw[Ô.mp h];exact ā _
 |x::l,a,h=>by
  show(if x<mnF k l then x else mnF k l)<=a
  have ih:=yN k l
  rcases Ñ.mp h with rfl|h
  ·have:=ih a Æ
   split <;> omega
  ·rcases Ñ.mp h with rfl|h
   ·split <;> omega
   ·have:=ih a (Ã _ h)
    split <;> omega
def Mi{k M:Int}{l:List Int}(h1:M∈k::l)(h2:∀a∈k::l,M<=a):M=mnF k l:=by
 have a:=h2 _ (wK k l)
 have b:=yN k l M h1
 omega
def aZ(n:Nat)(d:(Int->Bool)->Nat):Spr:=(psN n).map λl=>(l,((d (mb l):Nat):Int))
def aF(n k:Nat)(d:(Int->Bool)->Nat)(es:List Int):Spr:=(psN n).map λl=>(l,((dE d es (mb l):Nat):Int) - (k:Int))
def Eo(rows:Spr)(es:List Int)(k:Int):Spr:=rows.map λr=>(r.1,r.2+(((es.filter (mb r.1)).length:Nat):Int) - k)
def ji(sp:Spr)(v:Int)(k:Int):Int:=mnF k ((sp.filter λr=>mb r.1 v).map (·.2))
def qe(sp:Spr)(v lost:Int):Spr:=sp.map λr=>(r.1,if mb r.1 v=true then r.2 - lost else r.2)
def eN(sp0:Spr)(k:Int):Nat->Spr×List Int
 |0=>(sp0,[])
 |i+1=>(qe (eN sp0 k i).1 i (ji (eN sp0 k i).1 i k),(eN sp0 k i).2++É (k - ji (eN sp0 k i).1 i k).toNat ((i:Nat):Int))
def rst(n k i:Nat):List Int:=((Þ n).drop i).flatMap λv=>É k ((v:Nat):Int)
def iu(n k:Nat)(rows:Spr):List Int:=(eN (Eo rows (rst n k 0) k) k n).2
def vp(n k:Nat)(d:(Int->Bool)->Nat)(es:List Int):Eo (aZ n d) es k=aF n k d es:=by
 unfold Eo aZ aF
 rw[õ]
 refine Č λl _=>?_
 show(l,((d (mb l):Nat):Int)+(((es.filter (mb l)).length:Nat):Int) - (k:Int))=_
 rw[←ŏ]
 unfold dE Cut.mg
 simp
def lX(a b:List Int)(X:Int->Bool):Cut.mg (a++b) X=Cut.mg a X+Cut.mg b X:=ń
def Aw(m:Nat)(v:Int)(X:Int->Bool):Cut.mg (É m v) X=if X v=true then m else 0:=by
 unfold Cut.mg
 rw[List.countP_replicate]
def Hh{n k i:Nat}(h:i<n):rst n k i=É k ((i:Nat):Int)++rst n k (i+1):=by
 unfold rst
 rw[ŕ (by rw[ō];exact h),Ÿ,List.getElem_range]
def K9(n k:Nat):rst n k n=[]:=by
 unfold rst
 rw[List.drop_of_length_le (by rw[ō];exact Ì _)]
 rfl
def Hg(n k i:Nat):RgE n (rst n k i):=λe he=>by
 unfold rst at he
 obtain⟨v,hv,hm⟩:=List.mem_flatMap.mp he
 have:=Ī.mp (List.mem_of_mem_drop hv)
 rw[(Ķ.mp hm).2]
 omega
def Tn{n k:Nat}{X:Int->Bool}(h:Cut.Prp n X):k<=Cut.mg (rst n k 0) X:=by
 obtain⟨v,⟨v0,v1⟩,hv⟩:=h.ins
 have m:v.toNat∈Þ n:=Ī.mpr (by omega)
 obtain⟨s,t,e⟩:=List.append_of_mem m
 unfold rst
 rw[List.drop_zero,e,ţ,Ÿ,lX,lX,Aw,show((v.toNat:Nat):Int)=v by omega,if_pos hv]
 omega
def QX{n k:Nat}{d:(Int->Bool)->Nat}{es:List Int}(n8:n<=8)(hu:DEq n d)(he:RgE n es){X:Int->Bool}(h:Cut.Prp n X):(pG n X,((dE d es X:Nat):Int) - (k:Int))∈aF n k d es:=by
 refine ê.mpr ⟨pG n X,Ay n8 h,?_⟩
 unfold dE
 rw[hu λv hv=>fU hv,Jr he λv hv=>fU hv]
structure FewP(n k:Nat)(d:(Int->Bool)->Nat)(L E:List Int):Prop where
 rg:RgE n E
 C:∀X,Cut.Prp n X->k<=dE d E X
 tg:∀v∈L,∃X,Cut.Prp n X/\X v=true/\dE d E X=k
def qC{n k:Nat}{d:(Int->Bool)->Nat}(n1:1<=n)(n8:n<=8)(hu:DEq n d):∀i,i<=n->∃L:List Int,eN (aF n k d (rst n k 0)) k i=(aF n k d (L++rst n k i),L)/\FewP n k d L (L++rst n k i)/\L.Pairwise (·<=·)/\(∀v∈L,v<(i:Int))/\L.length<=i * k
 |0,_=>⟨[],rfl,⟨Hg n k 0,λX hX=>by have:=Tn (k:=k) hX;unfold dE;rw[List.nil_append];omega,λv h=>(nomatch h)⟩,.nil,λv h=>(nomatch h),ÿ _⟩
 |i+1,hi=>by
  obtain⟨L,e,F,so,lt,ln⟩:=qC n1 n8 hu i (by omega)
  have hin:i<n:=by omega
  generalize hlost:ji (aF n k d (L++rst n k i)) ((i:Nat):Int) (k:Int)=lost
  have l1:lost<=(k:Int):=by rw[←hlost];exact yN _ _ _ Æ
  have l2:∀X,Cut.Prp n X->X ((i:Nat):Int)=true->lost<=((dE d (L++rst n k i) X:Nat):Int) - (k:Int):=λX hX hXi=>by
   rw[←hlost]
   refine yN _ _ _ (Ã _ (ê.mpr ⟨_,ą.mpr ⟨QX n8 hu F.rg hX,?_⟩,rfl⟩))
   rw[fU (by omega),hXi]
  have l3:lost=(k:Int)\/∃l∈psN n,mb l ((i:Nat):Int)=true/\lost=((dE d (L++rst n k i) (mb l):Nat):Int) - (k:Int):=by
   have:=wK (k:Int) (((aF n k d (L++rst n k i)).filter λr=>mb r.1 ((i:Nat):Int)).map (·.2))
   rw[show mnF (k:Int) (((aF n k d (L++rst n k i)).filter λr=>mb r.1 ((i:Nat):Int)).map (·.2))=lost from hlost] at this
   rcases Ñ.mp this with z|z
   ·exact .inl z
   ·obtain⟨r,hr,e⟩:=ê.mp z
    obtain⟨h1,h2⟩:=ą.mp hr
    obtain⟨l,hl,rfl⟩:=ê.mp h1
    exact .inr ⟨l,hl,h2,e.symm⟩
  have l0:0<=lost:=by
   rcases l3 with z|⟨l,hl,_,z⟩
   ·omega
   ·have:=F.C _ (oW n1 n8 hl)
    omega
  obtain⟨q,rfl⟩:∃q:Nat,lost=((q:Nat):Int):=⟨lost.toNat,by omega⟩
  have qk:q<=k:=by omega
  have dd:∀X:Int->Bool,dE d ((L++É (k - q) ((i:Nat):Int))++rst n k (i+1)) X+(if X ((i:Nat):Int)=true then q else 0)=dE d (L++rst n k i) X:=λX=>by
   unfold dE
   rw[Hh hin,lX,lX,lX,lX,Aw,Aw]
   split <;> omega
  refine⟨L++É (k - q) ((i:Nat):Int),?_,⟨λv hv=>?_,λX hX=>?_,λv hv=>?_⟩,?_,λv hv=>?_,?_⟩
  ·show(qe (eN _ _ i).1 _ (ji (eN _ _ i).1 _ _),_++É ((k:Int) - ji (eN _ _ i).1 _ _).toNat _)=_
   rw[e]
   show(qe (aF n k d (L++rst n k i)) _ (ji (aF n k d (L++rst n k i)) _ _),L++É ((k:Int) - ji (aF n k d (L++rst n k i)) _ _).toNat _)=_
   rw[hlost,show((k:Int) - ((q:Nat):Int)).toNat=k - q by omega]
   refine Prod.ext ?_ rfl
   show qe _ _ _=aF _ _ _ _
   unfold qe aF
   rw[õ]
   refine Č λl _=>?_
   have:=dd (mb l)
   refine Prod.ext rfl ?_
   show(if mb l ((i:Nat):Int)=true then ((dE d (L++rst n k i) (mb l):Nat):Int) - (k:Int) - ((q:Nat):Int) else ((dE d (L++rst n k i) (mb l):Nat):Int) - (k:Int))=((dE d ((L++É (k - q) ((i:Nat):Int))++rst n k (i+1)) (mb l):Nat):Int) - (k:Int)
   split
   ·rename_i c;rw[if_pos c] at this;omega
   ·rename_i c;rw[if_neg c] at this;omega
  ·rcases å.mp hv with z|z
   ·rcases å.mp z with z|z
    ·exact F.rg v (ī _ z)
    ·rw[(Ķ.mp z).2];omega
   ·exact Hg n k _ v z
  ·have a:=F.C X hX
   have b:=dd X
   by_cases c:X ((i:Nat):Int)=true
   ·have:=l2 X hX c
    rw[if_pos c] at b
    omega
   ·rw[if_neg c] at b
    omega
  ·rcases å.mp hv with z|z
   ·obtain⟨X,x1,x2,x3⟩:=F.tg v z
    refine⟨X,x1,x2,?_⟩
    have b:=dd X
    by_cases c:X ((i:Nat):Int)=true
    ·have:=l2 X x1 c
     rw[if_pos c] at b
     omega
    ·rw[if_neg c] at b
     omega
   ·obtain⟨hne,rfl⟩:=Ķ.mp z
    rcases l3 with y|⟨l,hl,y1,y2⟩
    ·omega
    ·refine⟨mb l,oW n1 n8 hl,y1,?_⟩
     have b:=dd (mb l)
     rw[if_pos y1] at b
     have:=F.C _ (oW n1 n8 hl)
     omega
  ·refine List.pairwise_append.mpr ⟨so,List.pairwise_replicate.mpr (.inr (ā _)),λx hx y hy=>?_⟩
   rw[(Ķ.mp hy).2]
   have:=lt x hx
   omega
  ·rcases å.mp hv with z|z
   ·have:=lt v z;omega
   ·rw[(Ķ.mp z).2];omega
  ·rw[È,ĥ,Nat.add_mul]
   omega
def Bm{n k:Nat}{d:(Int->Bool)->Nat}(n1:1<=n)(n8:n<=8)(hu:DEq n d):FewP n k d (iu n k (aZ n d)) (iu n k (aZ n d))/\(iu n k (aZ n d)).Pairwise (·<=·)/\(iu n k (aZ n d)).length<=n * k:=by
 obtain⟨L,e,F,so,_,ln⟩:=qC (k:=k) n1 n8 hu n (Ì _)
 have:iu n k (aZ n d)=L:=by
  unfold iu
  rw[vp,e]
 rw[this]
 rw[K9,ð] at F
 exact⟨F,so,ln⟩
def jc(sp:Spr)(a b:Int):Bool:=!decide (a=b)&&((sp.filter λr=>mb r.1 a&&mb r.1 b).map λr=>decide (1<=r.2)).all id
def jo(sp:Spr)(a b:Int):Spr:=sp.map λr=>(r.1,if (mb r.1 a&&mb r.1 b)=true then r.2 - 1 else r.2)
def ttF:Spr->List Int->List Int->List Tie
 |_,[],_=>[]
 |sp,a::R,H=>match H.find? (jc sp a) with
  |some b=>(a,b)::ttF (jo sp a b) R (H.erase b)
  |none=>[]
def Du:Spr->List Int->List Int->Prop
 |_,[],_=>True
 |sp,a::R,H=>∃b,H.find? (jc sp a)=some b/\Du (jo sp a b) R (H.erase b)
def bW(n k:Nat)(us:List Tie)(H T:List Int):Spr:=aF n k (Cut.di us) H++aF n k (Cut.dO us) T
def wL{n k:Nat}{us:List Tie}{H T:List Int}{r:List Int×Int}:r∈bW n k us H T↔∃l∈psN n,r=(l,((dE (Cut.di us) H (mb l):Nat):Int) - (k:Int))\/r=(l,((dE (Cut.dO us) T (mb l):Nat):Int) - (k:Int)):=by
 unfold bW aF
 rw[List.mem_append,ê,ê]
 constructor
 ·rintro(⟨l,h,rfl⟩|⟨l,h,rfl⟩)
  ·exact⟨l,h,.inl rfl⟩
  ·exact⟨l,h,.inr rfl⟩
 ·rintro⟨l,h,rfl|rfl⟩
  ·exact .inl ⟨l,h,rfl⟩
  ·exact .inr ⟨l,h,rfl⟩
def Eh{n k:Nat}{us:List Tie}{H T:List Int}(n1:1<=n)(n8:n<=8)(hu:RgT n us)(F:Cut.Fit n k us H T){a b:Int}(ha:0<=a/\a<(n:Int))(hb:0<=b/\b<(n:Int)):jc (bW n k us H T) a b=true↔a≠b/\∀X,Cut.Prp n X->X a=true->X b=true->k+1<=Cut.di us X+Cut.mg H X/\k+1<=Cut.dO us X+Cut.mg T X:=by
 unfold jc
 rw[Û,Bool.not_eq_true',decide_eq_false_iff_not,ę]
 refine and_congr Iff.rfl ⟨λh X hX xa xb=>?_,λh y hy=>?_⟩
 ·have e:(mb (pG n X) a&&mb (pG n X) b)=true:=by rw[fU ha,fU hb,xa,xb];rfl
  have h1:=h (decide (1<=((dE (Cut.di us) H (mb (pG n X)):Nat):Int) - (k:Int))) (ê.mpr ⟨_,ą.mpr ⟨wL.mpr ⟨_,Ay n8 hX,.inl rfl⟩,e⟩,rfl⟩)
  have h2:=h (decide (1<=((dE (Cut.dO us) T (mb (pG n X)):Nat):Int) - (k:Int))) (ê.mpr ⟨_,ą.mpr ⟨wL.mpr ⟨_,Ay n8 hX,.inr rfl⟩,e⟩,rfl⟩)
  have h1:=of_decide_eq_true h1
  have h2:=of_decide_eq_true h2
  unfold dE at h1 h2
  rw[(iI hu).eq (Y:=X) λv hv=>fU hv,Jr (Y:=X) F.rH λv hv=>fU hv] at h1
  rw[(fD hu).eq (Y:=X) λv hv=>fU hv,Jr (Y:=X) F.rT λv hv=>fU hv] at h2
  omega
 ·obtain⟨r,hr,rfl⟩:=ê.mp hy
  obtain⟨h1,h2⟩:=ą.mp hr
  rw[Û] at h2
  refine decide_eq_true ?_
  obtain⟨l,hl,rfl|rfl⟩:=wL.mp h1
  ·have:=(h _ (oW n1 n8 hl) h2.1 h2.2).1
   show(1:Int)<=((dE _ _ _:Nat):Int) - (k:Int)
   unfold dE
   omega
  ·have:=(h _ (oW n1 n8 hl) h2.1 h2.2).2
   show(1:Int)<=((dE _ _ _:Nat):Int) - (k:Int)
   unfold dE
   omega
def K1{n k:Nat}{us:List Tie}{a b:Int}{R H:List Int}(hb:b∈H):jo (bW n k us H (a::R)) a b=bW n k ((a,b)::us) (H.erase b) R:=by
 unfold jo bW aF
 rw[Ù,õ,õ]
 congr 1
 ·refine Č λl _=>Prod.ext rfl ?_
  have e:Cut.di ((a,b)::us) (mb l)+Cut.mg (H.erase b) (mb l)+(mb l a&&mb l b).toNat=Cut.di us (mb l)+Cut.mg H (mb l):=by
   rw[Cut.qG,←Cut.Oi hb (mb l)]
   cases mb l a <;> cases mb l b <;> simp <;> omega
  show(if (mb l a&&mb l b)=true then ((dE _ _ _:Nat):Int) - (k:Int) - 1 else ((dE _ _ _:Nat):Int) - (k:Int))=((dE _ _ _:Nat):Int) - (k:Int)
  unfold dE
  cases c:mb l a&&mb l b <;> rw[c] at e <;> simp at e ⊢ <;> omega
 ·refine Č λl _=>Prod.ext rfl ?_
  have e:Cut.dO ((a,b)::us) (mb l)+Cut.mg R (mb l)+(mb l a&&mb l b).toNat=Cut.dO us (mb l)+Cut.mg (a::R) (mb l):=by
   rw[Cut.qH,Cut.kh]
   cases mb l a <;> cases mb l b <;> simp <;> omega
  show(if (mb l a&&mb l b)=true then ((dE _ _ _:Nat):Int) - (k:Int) - 1 else ((dE _ _ _:Nat):Int) - (k:Int))=((dE _ _ _:Nat):Int) - (k:Int)
  unfold dE
  cases c:mb l a&&mb l b <;> rw[c] at e <;> simp at e ⊢ <;> omega
def oh{a b:List Tie}(h:a.Perm b)(X:Int->Bool):Cut.di a X=Cut.di b X:=h.countP_eq _
def xX{n k:Nat}(n1:1<=n)(n8:n<=8):∀(T H:List Int) (us:List Tie),RgT n us->Cut.Fit n k us H T->Cut.Tgt n k us H T ->
  Du (bW n k us H T) T H/\(ttF (bW n k us H T) T H).length=T.length/\(∀t∈ttF (bW n k us H T) T H,(0<=t.1/\t.1<(n:Int))/\(0<=t.2/\t.2<(n:Int))/\t.1≠t.2)/\∀X,Cut.Prp n X->k<=Cut.di (ttF (bW n k us H T) T H++us) X
 |[],H,us,hu,F,_=>by
  have l0:H=[]:=List.length_eq_zero_iff.mp F.len
  subst l0
  exact⟨trivial,rfl,λt h=>(nomatch h),λX hX=>F.c1 X hX⟩
 |a::R,H,us,hu,F,tg=>by
  have ha:=F.rT a Æ
  obtain⟨b0,m0,n0,h0⟩:=F.split Æ (F.other Æ tg)
  have hfind:∃b,H.find? (jc (bW n k us H (a::R)) a)=some b:=by
   cases c:H.find? (jc (bW n k us H (a::R)) a) with
   |some b=>exact⟨b,rfl⟩
   |none=>exact absurd ((Eh n1 n8 hu F ha (F.rH b0 m0)).mpr ⟨Ĥ n0,h0⟩) (List.find?_eq_none.mp c b0 m0)
  obtain⟨b,hb⟩:=hfind
  have mb':=List.mem_of_find?_eq_some hb
  have rb:=F.rH b mb'
  obtain⟨nab,hX⟩:=(Eh n1 n8 hu F ha rb).mp (List.find?_some hb)
  obtain⟨F',tg'⟩:=F.step mb' hX tg
  obtain⟨g1,g2,g3,g4⟩:=xX n1 n8 R (H.erase b) ((a,b)::us) (λt ht=>by
   rcases Ñ.mp ht with rfl|ht
   ·exact⟨ha,rb⟩
   ·exact hu t ht) F' tg'
  rw[←K1 mb'] at g1 g2 g3 g4
  have e:ttF (bW n k us H (a::R)) (a::R) H=(a,b)::ttF (jo (bW n k us H (a::R)) a b) R (H.erase b):=by
   show(match H.find? (jc (bW n k us H (a::R)) a) with|some b=>_|none=>_)=_
   rw[hb]
  rw[e]
  refine⟨⟨b,hb,g1⟩,by rw[ã,ã,g2],λt ht=>?_,λX hp=>?_⟩
  ·rcases Ñ.mp ht with rfl|ht
   ·exact⟨ha,rb,nab⟩
   ·exact g3 t ht
  ·rw[List.cons_append,←oh (List.perm_middle (a:=(a,b)) (l₁:=ttF (jo (bW n k us H (a::R)) a b) R (H.erase b)) (l₂:=us)) X]
   exact g4 X hp
def rwD(r:List Int×Int):D:=.tuple [iD r.1,.int r.2]
def eU(sp:Spr):D:=.list (sp.map rwD)
def fPS(ds:List D)(P:D->Prop):Prop:=∃n:Nat,ds=[.int ((n:Nat):Int)]/\1<=n/\n<=8/\P (.list ((psN n).map iD))
def fWS(ds:List D)(P:D->Prop):Prop:=∃(rows:Spr) (es:List Int) (k:Int),ds=[eU rows,iD es,.int k]/\rows.length<=300/\es.length<=300/\P (eU (Eo rows es k))
def fFE(ds:List D)(P:D->Prop):Prop:=∃(n k:Nat) (d:(Int->Bool)->Nat),ds=[.int ((n:Nat):Int),eU (aZ n d),.int ((k:Nat):Int)]/\1<=n/\n<=8/\k<=3/\DEq n d/\P (iD (iu n k (aZ n d)))
def fCB(ds:List D)(P:D->Prop):Prop:=∃(sp:Spr) (a b:Int),ds=[eU sp,.int a,.int b,.int 1]/\sp.length<=600/\P (.bool (jc sp a b))
def fTd(ds:List D)(P:D->Prop):Prop:=∃(sp:Spr) (a b:Int),ds=[eU sp,.int a,.int b,.int 1]/\sp.length<=600/\P (eU (jo sp a b))
def fSM(ds:List D)(P:D->Prop):Prop:=∃(n k c:Nat) (d:(Int->Bool)->Nat),ds=[.int ((n:Nat):Int),eU (aZ n d),.int ((k:Nat):Int),.int ((c:Nat):Int)]/\1<=n/\n<=8/\k<=3/\c<=100/\DEq n d/\(iu n k (aZ n d)).length<=c/\P (iD (É (c - (iu n k (aZ n d)).length) 0++iu n k (aZ n d)))
def fTT(ds:List D)(P:D->Prop):Prop:=∃(sp:Spr) (T H:List Int),ds=[eU sp,iD T,iD H]/\sp.length<=600/\H.length<=100/\T.length<=100/\Du sp T H/\P (.list ((ttF sp T H).map pD))
section
variable {P:Program}{w:World}{K:Ú}{mg:Str->Option Value}{base:Heap}{f:Addr}{fd:FuncData}{CN PT:Addr}
def jt:FnScope ["n"] ["n"] (ao (top 15)):=zC
def rJ(F:Fun K "proper_sets" "proper_sets" (top 15) f fd)(B:Ĵ mg)(C_sets_below:ø P w K mg base 1 "sets_below" ["count"] (spD fSB)):FnOk P w K mg base CX0 2 f fd ["n"] (spD fPS):=by
 refine F.ok jt ĩ (λcdv A outer s H vs Q E hr h=>?_)
 have nd:=jt.nd
 refine⟨_,Ĝ (ý (Ē (Wr.uE (Œ C_sets_below hr (À (Ë 0) Å)) (Wr.dJ Õ) (Wr.dJ (Wr.lQ Õ))))),aR h ?_⟩
 rintro ds P ⟨n,rfl,n1,n8,q⟩
 refine⟨[.im (.int ((n:Nat):Int))],rfl,?_⟩
 have p2:=jX n1 n8
 refine⟨((n:Nat):Int),rfl,by omega,by omega,.inr ⟨rfl,?_⟩⟩
 rw[ï,Ec _ (by rw[Á,cD];omega),←ű,←List.map_dropLast]
 exact q
def jr:FnScope ["rows","ends","most"] ["rows","ends","most"] (ao (top 37)):=zC
def gU:(["some","count","rows","ends","most"]:List Str).Nodup:=by decide +kernel
def pB:(["v","some","count","rows","ends","most"]:List Str).Nodup:=by decide +kernel
def rG(F:Fun K "with_spares" "with_spares" (top 37) f fd)(B:Ĵ mg):FnOk P w K mg base CX0 1 f fd ["rows","ends","most"] (spR fWS):=by
 refine F.ok jr wN (λcdv A outer s H vs Q E hr h=>?_)
 have nd:=jr.nd
 refine⟨_,Dl.WR.h (Dl.zX (Wr.cB ["some","count"] rfl (Ĕ (Ë 0)) (λc=>(Wr.fW (n:=2) rfl (ĭ (è (i:=0) gU rfl zQ) (ĭ (è (i:=1) gU rfl zQ) Wr.dM)))) (λc=>ŀ) (λc=>(đ (À (Ë 0) (À (Ő (ğ (Ë 1) (Ŵ B.len (À (Wr.cB ["v"] rfl (Ĕ (Ë 3)) (λc=>(è (i:=0) pB rfl zQ)) (λc=>(Wr.cI (Wr.dU hr.units (Ë 0) (Ë 1)))) (λc=>(Ë 0))) Å))) (Ë 4)) Å)))))),Bp h ?_⟩
 rintro ds P ⟨rows,es,k,rfl,lr,le,q⟩
 refine⟨[.sh (eU rows),.sh (iD es),.im (.int k)],rfl,?_⟩
 refine pH rows rwD (λr=>rwD (r.1,r.2+(((es.filter (mb r.1)).length:Nat):Int) - k)) .shr rfl (by omega) (λr hr A B hA=>⟨rfl,aM (B:=B) ?_⟩) ?_
 ·refine sy es Â (mb r.1) Â .imm rfl (by omega) (λv hv A B hA hB=>?_) ?_
  ·refine⟨rfl,bK r.1,?_⟩
   show if (((r.1.map Â).any λe=>í e (.int v)):Bool)=true then _ else _
   rw[Ļ]
   cases c:mb r.1 v with
   |true =>
    rw[show decide (v∈r.1)=true from c]
    exact aM (B:=True) ⟨rfl,hA c⟩
   |false =>
    rw[show decide (v∈r.1)=false from c]
    exact aX (A:=True) (hB c)
  ·refine⟨zK,?_,?_⟩
   ·rfl
   ·show A (.tuple [iD r.1,.int (r.2+(((ķ Â (List.filter (mb r.1) es)).length:Nat):Int) - k)])
    rw[Á]
    exact hA
 ·unfold eU Eo at q
  rw[õ] at q
  exact q
def jO(m:Nat)(v:Int):(É m [Â v]).flatten=(É m v).map Â:=by
 induction m with
 |zero=>rfl
 |succ m ih=>rw[Ą,ë,ih,Ą];rfl
def K6(rows:Spr)(es:List Int)(k:Int):(Eo rows es k).length=rows.length:=Á _
def Dw(sp0:Spr)(k:Int):∀i,(eN sp0 k i).1.length=sp0.length
 |0=>rfl
 |i+1=>by
  show(qe _ _ _).length=_
  unfold qe
  rw[Á,Dw]
def JW{n k i:Nat}{d:(Int->Bool)->Nat}(n1:1<=n)(n8:n<=8)(hu:DEq n d)(hi:i<n):0<=ji (eN (aF n k d (rst n k 0)) k i).1 ((i:Nat):Int) k/\ji (eN (aF n k d (rst n k 0)) k i).1 ((i:Nat):Int) k<=k:=by
 obtain⟨L,e,F,_⟩:=qC (k:=k) n1 n8 hu i (by omega)
 rw[e]
 refine⟨?_,yN _ _ _ Æ⟩
 show 0<=mnF _ _
 rcases Ñ.mp (wK (k:Int) (((aF n k d (L++rst n k i)).filter λr=>mb r.1 ((i:Nat):Int)).map (·.2))) with z|z
 ·rw[z];omega
 ·obtain⟨r,hr,e⟩:=ê.mp z
  obtain⟨l,hl,rfl⟩:=ê.mp (ą.mp hr).1
  have:=F.C _ (oW n1 n8 hl)
  rw[←e]
  show 0<=((dE d (L++rst n k i) (mb l):Nat):Int) - (k:Int)
  omega
def Rv{n k i:Nat}{d:(Int->Bool)->Nat}(n1:1<=n)(n8:n<=8)(hu:DEq n d)(hi:i<=n):(eN (aF n k d (rst n k 0)) k i).2.length<=i * k:=by
 obtain⟨L,e,_,_,_,ln⟩:=qC (k:=k) n1 n8 hu i hi
 rw[e]
 exact ln
def qT{n:Nat}(n1:1<=n)(n8:n<=8)(d:(Int->Bool)->Nat):(aZ n d).length<=254:=by
 have p2:=jX n1 n8
 unfold aZ psN
 rw[Á,ĸ,Ā,cD]
 omega
def jw:FnScope ["n","rows","most","ends","v","spares","left","lost"] ["n","rows","most"] (ao (top 38)):=zC
def cH:(["some","spare","n","rows","most","ends","v","spares","left","lost"]:List Str).Nodup:=by decide +kernel
def rM(F:Fun K "fewest_ends" "fewest_ends" (top 38) f fd)(B:Ĵ mg)(C_with_spares:ø P w K mg base 1 "with_spares" ["rows","ends","most"] (spR fWS)):FnOk P w K mg base CX0 2 f fd ["n","rows","most"] (spD fFE):=by
 refine F.ok jw ĩ (λcdv A outer s H vs Q E hr h=>?_)
 have nd:=jw.nd
 refine⟨_,Ĝ (Ö (ñ (some 0) (i:=3) nd rfl zQ (Ě Å))
  (Ö (ŵ î rfl (Wr.aN B.range (À (Ë 0) Å)) (è (i:=4) nd rfl zQ) (Ö (Wr.cJ (Ŗ 3) (À (Wr.fM (Ě (À (Ë 4) Å)) (Ë 2)) Å)) (Ă [4] Ğ)))
  (Ă [4] (Wr.sU 3 (Ö (ñ none (i:=5) nd rfl zQ (Dl.dcR C_with_spares hr (À (Ë 1) (À (Ë 3) (À (Ë 2) Å)))))
  (Ö (ñ (some 1) (i:=6) nd rfl zQ (Ě Å))
  (Ö (ŵ î rfl (Wr.aN B.range (À (Ë 0) Å)) (è (i:=4) nd rfl zQ) (Ö (ñ none (i:=7) nd rfl zQ (Wr.vZ rfl B.min (À (ğ (Ě (À (Ë 2) Å)) (Wr.cB ["some","spare"] rfl (Ĕ (Ë 5)) (λc=>(Wr.fW (n:=2) rfl (ĭ (è (i:=0) cH rfl zQ) (ĭ (è (i:=1) cH rfl zQ) Wr.dM)))) (λc=>(Wr.cI (Wr.dU hr.units (Ë 6) (Ë 0)))) (λc=>(Ë 1)))) Å)))
  (Ö (Wr.iy none ["some","spare"] (i:=5) rfl nd rfl zQ (Ĕ (Ë 5)) (λc=>(Wr.fW (n:=2) rfl (ĭ (è (i:=0) cH rfl zQ) (ĭ (è (i:=1) cH rfl zQ) Wr.dM)))) (λc=>ŀ) (λc=>(đ (À (Ë 0) (À (Wr.gQ (Wr.dU hr.units (Ë 6) (Ë 0)) (Ő (Ë 1) (Ë 9)) (Ë 1)) Å)))))
  (Ö (Wr.cJ (Ŗ 6) (À (Wr.fM (Ě (À (Ë 4) Å)) (Ő (Ë 2) (Ë 7))) Å)) (Ă [4,7] Ğ)))))
  (Ă [4,5,7] (ý (Ē (Ë 6))))))))))),aR h ?_⟩
 rintro ds P ⟨n,k,d,rfl,n1,n8,k3,hu,q⟩
 have lr:=qT n1 n8 d
 have lost:=λi=>JW (k:=k) (i:=i) n1 n8 hu
 have lnI:=λi=>Rv (k:=k) (i:=i) n1 n8 hu
 have spe:=vp n k d (rst n k 0)
 unfold iu at q
 rw[spe] at q
 have lsp:(aF n k d (rst n k 0)).length<=254:=by rw[←spe,K6];exact lr
 have lfi:=Dw (aF n k d (rst n k 0)) k
 generalize aZ n d=rows at spe lr
 refine⟨[.im (.int ((n:Nat):Int)),.sh (eU rows),.im (.int ((k:Nat):Int)),.any,.any,.any,.any,.any],rfl,?_⟩
 have pre:∀i,((Þ (i+1)).flatMap λv=>É k ((v:Nat):Int))=((Þ i).flatMap λv=>É k ((v:Nat):Int))++É k ((i:Nat):Int):=λi=>by
  rw[List.range_succ,ţ,Ÿ,List.flatMap_nil,ð]
 have lpre:∀i,((Þ i).flatMap λv=>É k ((v:Nat):Int)).length=i * k:=λi=>by
  induction i with
  |zero=>simp
  |succ i ih=>rw[List.range_succ,ţ,È,ih];simp[Nat.add_mul]
 have nk:n * k<=24:=ĳ n8 k3
 have ik:∀i,i<=n->i * k<=24:=λi hi=>þ (Nat.mul_le_mul_right k hi) nk
 refine⟨zK,⟨by omega,by omega⟩,rfl,λ(i:Nat) ρ=>ρ=[.im (.int ((n:Nat):Int)),.sh (eU rows),.im (.int ((k:Nat):Int)),.dw 0 (iD ((Þ i).flatMap λv=>É k ((v:Nat):Int))),.any,.any,.any,.any],rfl,?_,?_⟩
 ·rintro i d ρ hd rfl
  obtain⟨hi,rfl⟩:=š hd
  rw[ï] at hi
  rw[Int.zero_add]
  have l1:=lpre i
  have l2:=ik i (by omega)
  refine⟨zK,by omega,by omega,?_,.inr ⟨rfl,?_,?_⟩⟩
  ·show 1 * (((k:Nat):Int)).toNat<=1000
   omega
  ·rw[ï]
   show(ķ Â _).length+(É k [Â ((i:Nat):Int)]).flatten.length<=1000
   rw[jO,Á,Á,ĥ,l1]
   omega
  ·rw[ï]
   show [_,_,_,Sl.dw 0 (.list (ķ Â _++(É k [Â ((i:Nat):Int)]).flatten)),_,_,_,_]=[_,_,_,Sl.dw 0 (iD ((Þ (i+1)).flatMap λv=>É k ((v:Nat):Int))),_,_,_,_]
   rw[jO,pre i]
   show _=[_,_,_,Sl.dw 0 (.list (ķ Â (_++_))),_,_,_,_]
   rw[Ù]
   rfl
 rintro ρ rfl
 rw[Ł,ï]
 have e0:((Þ n).flatMap λv=>É k ((v:Nat):Int))=rst n k 0:=by
  unfold rst
  rw[List.drop_zero]
 have l0:=lpre n
 rw[e0] at l0 ⊢
 refine⟨rfl,?_⟩
 refine⟨rfl,rows,rst n k 0,((k:Nat):Int),rfl,by omega,by omega,?_⟩
 rw[spe]
 generalize hsp:aF n k d (rst n k 0)=sp0 at q lost lnI lsp lfi
 refine⟨zK,⟨by omega,by omega⟩,rfl,λ(i:Nat) ρ=>ρ=[.im (.int ((n:Nat):Int)),.sh (eU rows),.im (.int ((k:Nat):Int)),.sn (iD (rst n k 0)),.any,.sh (eU (eN sp0 k i).1),.dw 1 (iD (eN sp0 k i).2),.any],rfl,?_,?_⟩
 ·rintro i d ρ hd rfl
  obtain⟨hi,rfl⟩:=š hd
  rw[ï] at hi
  rw[Int.zero_add]
  have b:=lost i hi
  have l2:=ik i (by omega)
  have ll:=lnI i (by omega)
  have lf:=lfi i
  have eS:(eN sp0 k (i+1)).1=qe (eN sp0 k i).1 i (ji (eN sp0 k i).1 i k):=rfl
  have eL:(eN sp0 k (i+1)).2=(eN sp0 k i).2++É ((k:Int) - ji (eN sp0 k i).1 i k).toNat ((i:Nat):Int):=rfl
  generalize (eN sp0 k i).1=sp at b lf eS eL ⊢
  generalize (eN sp0 k i).2=L at ll eL ⊢
  refine⟨zK,?_⟩
  refine sy sp rwD (λr=>mb r.1 ((i:Nat):Int)) (λr=>.int r.2) .imm rfl (by omega) (λr hr A B hA hB=>⟨rfl,?_⟩) ?_
  ·refine⟨rfl,bK r.1,?_⟩
   show if (((r.1.map Â).any λe=>í e (.int ((i:Nat):Int))):Bool)=true then _ else _
   rw[Ļ]
   cases c:mb r.1 ((i:Nat):Int) with
   |true =>
    rw[show decide (((i:Nat):Int)∈r.1)=true from c]
    exact aM (B:=True) ⟨rfl,hA c⟩
   |false =>
    rw[show decide (((i:Nat):Int)∈r.1)=false from c]
    exact aX (A:=True) (hB c)
  have lfl:(sp.filter λr=>mb r.1 ((i:Nat):Int)).length<=sp.length:=List.length_filter_le _ _
  refine⟨?_,.inr ⟨((k:Nat):Int)::(sp.filter λr=>mb r.1 ((i:Nat):Int)).map (·.2),?_,by simp,λM h1 h2=>?_⟩⟩
  ·show 1+(ķ _ _).length<=1000
   rw[Á]
   omega
  ·show Â ((k:Nat):Int)::ķ (λr:List Int×Int=>Â r.2) _=Â ((k:Nat):Int)::ķ Â (ķ _ _)
   rw[õ]
   rfl
  have eM:M=ji sp ((i:Nat):Int) k:=Mi h1 h2
  rw[←eM] at b eS eL
  refine pH sp rwD (λr=>rwD (r.1,if mb r.1 ((i:Nat):Int)=true then r.2 - M else r.2)) .shr rfl (by omega) (λr hr A B hA=>⟨rfl,aM (B:=B) ⟨rfl,bK r.1,?_⟩⟩) ?_
  ·show if (((r.1.map Â).any λe=>í e (.int ((i:Nat):Int))):Bool)=true then _ else _
   rw[Ļ]
   cases c:mb r.1 ((i:Nat):Int) with
   |true =>
    rw[show decide (((i:Nat):Int)∈r.1)=true from c]
    rw[c] at hA
    exact aM (B:=True) ⟨zK,rfl,hA⟩
   |false =>
    rw[show decide (((i:Nat):Int)∈r.1)=false from c]
    rw[c] at hA
    exact aX (A:=True) ⟨zK,rfl,hA⟩
  refine⟨zK,by omega,by omega,?_,.inr ⟨rfl,?_,?_⟩⟩
  ·show 1 * (((k:Nat):Int) - M).toNat<=1000
   omega
  ·show(ķ Â _).length+(É (((k:Nat):Int) - M).toNat [Â ((i:Nat):Int)]).flatten.length<=1000
   rw[jO,Á,Á,ĥ]
   omega
  ·show [_,_,_,_,_,Sl.sh (.list (sp.map λr=>rwD (r.1,if mb r.1 ((i:Nat):Int)=true then r.2 - M else r.2))),Sl.dw 1 (.list (ķ Â L++(É (((k:Nat):Int) - M).toNat [Â ((i:Nat):Int)]).flatten)),_]=[_,_,_,_,_,Sl.sh (eU (eN sp0 k (i+1)).1),Sl.dw 1 (iD (eN sp0 k (i+1)).2),_]
   rw[jO,eS,eL]
   show _=[_,_,_,_,_,Sl.sh (.list (ķ rwD (ķ _ sp))),Sl.dw 1 (.list (ķ Â (_++_))),_]
   rw[Ù,õ]
   rfl
 rintro ρ rfl
 rw[Ł,ï]
 exact⟨rfl,q⟩
def jx:FnScope ["spares","a","b","taken"] ["spares","a","b","taken"] (ao (top 39)):=zC
def gW:(["some","spare","spares","a","b","taken"]:List Str).Nodup:=by decide +kernel
def rN(F:Fun K "can_be_tied" "can_be_tied" (top 39) f fd)(B:Ĵ mg):FnOk P w K mg base CX0 1 f fd ["spares","a","b","taken"] (spD fCB):=by
 refine F.ok jx ĩ (λcdv A outer s H vs Q E hr h=>?_)
 have nd:=jx.nd
 refine⟨_,Ĝ (ý (Ē (Wr.fO (Wr.vW hr.units (Ë 1) (Ë 2)) (Wr.gD (Wr.lR rfl B.all Dl.boot_all (À (Wr.cB ["some","spare"] rfl (Ĕ (Ë 0)) (λc=>(Wr.fW (n:=2) rfl (ĭ (è (i:=0) gW rfl zQ) (ĭ (è (i:=1) gW rfl zQ) Wr.dM)))) (λc=>(Wr.cI (Wr.wpt (Wr.gn (Wr.dU hr.units (Ë 3) (Ë 0)) (Wr.eF (Wr.dU hr.units (Ë 4) (Ë 0))))))) (λc=>(Wr.Ii (Ë 1) (Ë 5)))) Å)))))),aR h ?_⟩
 rintro ds P ⟨sp,a,b,rfl,ls,q⟩
 refine⟨[.sh (eU sp),.im (.int a),.im (.int b),.im (.int 1)],rfl,?_⟩
 by_cases c:a=b
 ·subst c
  have:jc sp a a=false:=by
   unfold jc
   rw[decide_eq_true rfl]
   rfl
  rw[this] at q
  show if (!decide (a=a))=true then _ else _
  rw[decide_eq_true rfl]
  exact aX (A:=True) ⟨rfl,q⟩
 show if (!decide (a=b))=true then _ else _
 rw[decide_eq_false c]
 refine aM (B:=True) ?_
 refine sy sp rwD (λr=>mb r.1 a&&mb r.1 b) (λr=>.bool (decide (1<=r.2))) .imm rfl (by omega) (λr hr A B hA hB=>⟨rfl,?_⟩) ?_
 ·refine⟨rfl,bK r.1,?_⟩
  show if (((r.1.map Â).any λe=>í e (.int a)):Bool)=true then _ else _
  rw[Ļ]
  cases ca:mb r.1 a with
  |false =>
   rw[show decide (a∈r.1)=false from ca]
   exact aX (A:=True) (aX (A:=True) (hB (by rw[ca];rfl)))
  |true =>
   rw[show decide (a∈r.1)=true from ca]
   refine aM (B:=True) ⟨rfl,bK r.1,?_⟩
   show if (((r.1.map Â).any λe=>í e (.int b)):Bool)=true then _ else _
   rw[Ļ]
   cases cb:mb r.1 b with
   |false =>
    rw[show decide (b∈r.1)=false from cb]
    exact aX (A:=True) (hB (by rw[ca,cb];rfl))
   |true =>
    rw[show decide (b∈r.1)=true from cb]
    exact aM (B:=True) ⟨rfl,hA (by rw[ca,cb];rfl)⟩
 ·refine⟨(sp.filter λr=>mb r.1 a&&mb r.1 b).map λr=>decide (1<=r.2),by rw[õ];rfl,rfl,?_⟩
  have:jc sp a b=((sp.filter λr=>mb r.1 a&&mb r.1 b).map λr=>decide (1<=r.2)).all id:=by
   unfold jc
   rw[decide_eq_false c]
   rfl
  rw[this] at q
  exact q
def Cu:FnScope ["spares","a","b","taken"] ["spares","a","b","taken"] (ao (top 40)):=zC
def uI:(["some","spare","spares","a","b","taken"]:List Str).Nodup:=by decide +kernel
def LQ(F:Fun K "tied" "tied" (top 40) f fd)(B:Ĵ mg):FnOk P w K mg base CX0 1 f fd ["spares","a","b","taken"] (spR fTd):=by
 refine F.ok Cu wN (λcdv A outer s H vs Q E hr h=>?_)
 have nd:=Cu.nd
 refine⟨_,Dl.WR.h (Dl.zX (Wr.cB ["some","spare"] rfl (Ĕ (Ë 0)) (λc=>(Wr.fW (n:=2) rfl (ĭ (è (i:=0) uI rfl zQ) (ĭ (è (i:=1) uI rfl zQ) Wr.dM)))) (λc=>ŀ) (λc=>(đ (À (Ë 0) (À (Wr.gQ (Wr.wpt (Wr.gn (Wr.dU hr.units (Ë 3) (Ë 0)) (Wr.eF (Wr.dU hr.units (Ë 4) (Ë 0))))) (Ő (Ë 1) (Ë 5)) (Ë 1)) Å)))))),Bp h ?_⟩
 rintro ds P ⟨sp,a,b,rfl,ls,q⟩
 refine⟨[.sh (eU sp),.im (.int a),.im (.int b),.im (.int 1)],rfl,?_⟩
 refine pH sp rwD (λr=>rwD (r.1,if (mb r.1 a&&mb r.1 b)=true then r.2 - 1 else r.2)) .shr rfl (by omega) (λr hr A B hA=>⟨rfl,aM (B:=B) ⟨rfl,bK r.1,?_⟩⟩) ?_
 ·show if (((r.1.map Â).any λe=>í e (.int a)):Bool)=true then _ else _
  rw[Ļ]
  cases ca:mb r.1 a with
  |false =>
   rw[show decide (a∈r.1)=false from ca]
   rw[ca] at hA
   exact aX (A:=True) (aX (A:=True) ⟨zK,rfl,hA⟩)
  |true =>
   rw[show decide (a∈r.1)=true from ca]
   refine aM (B:=True) ⟨rfl,bK r.1,?_⟩
   show if (((r.1.map Â).any λe=>í e (.int b)):Bool)=true then _ else _
   rw[Ļ]
   cases cb:mb r.1 b with
   |false =>
    rw[show decide (b∈r.1)=false from cb]
    rw[ca,cb] at hA
    exact aX (A:=True) ⟨zK,rfl,hA⟩
   |true =>
    rw[show decide (b∈r.1)=true from cb]
    rw[ca,cb] at hA
    exact aM (B:=True) ⟨zK,rfl,hA⟩
 ·unfold eU jo at q
  rw[õ] at q
  exact q
def jf:FnScope ["n","rows","most","count","ends"] ["n","rows","most","count"] (ao (top 44)):=zC
def qt(F:Fun K "so_many_ends" "so_many_ends" (top 44) f fd)(B:Ĵ mg)(C_fewest_ends:ø P w K mg base 2 "fewest_ends" ["n","rows","most"] (spD fFE)):FnOk P w K mg base CX0 3 f fd ["n","rows","most","count"] (spD fSM):=by
 refine F.ok jf ĩ (λcdv A outer s H vs Q E hr h=>?_)
 have nd:=jf.nd
 refine⟨_,Ĝ (Ö (ñ none (i:=4) nd rfl zQ (Œ C_fewest_ends hr (À (Ë 0) (À (Ë 1) (À (Ë 2) Å)))))
  (ý (Ē (ğ (Wr.fM (Ě (À Õ Å)) (Ő (Ë 3) (Ŵ B.len (À (Ë 4) Å)))) (Ë 4))))),aR h ?_⟩
 rintro ds P ⟨n,k,c,d,rfl,n1,n8,k3,c1,hu,lc,q⟩
 refine⟨[.im (.int ((n:Nat):Int)),.sh (eU (aZ n d)),.im (.int ((k:Nat):Int)),.im (.int ((c:Nat):Int)),.any],rfl,?_⟩
 refine⟨n,k,d,rfl,n1,n8,k3,hu,?_⟩
 refine⟨zK,?_⟩
 have ln:=(Bm (k:=k) n1 n8 hu).2.2
 have nk:n * k<=24:=ĳ n8 k3
 have e:((c:Int) - ((((iu n k (aZ n d)).map Â).length:Nat):Int)).toNat=c - (iu n k (aZ n d)).length:=by rw[Á];omega
 refine⟨by rw[Á];omega,by rw[Á];omega,?_,?_⟩
 ·show 1 * ((c:Int) - ((((iu n k (aZ n d)).map Â).length:Nat):Int)).toNat<=1000
  rw[e]
  omega
 rw[e]
 have fl:∀m:Nat,(É m [Â 0]).flatten=(É m (0:Int)).map Â:=λm=>jO m 0
 refine .inr ?_
 dsimp only
 rw[show ķ (λx:Kd×D=>x.snd) [(Kd.imm,Â 0)]=[Â 0] from rfl,fl]
 refine⟨?_,.inr ⟨rfl,?_⟩⟩
 ·rw[Á,Á,ĥ]
  omega
 ·rw[←Ù]
  exact q
def mD:FnScope ["spares","tails","heads","left","added","a","b"] ["spares","tails","heads"] (ao (top 45)):=zC
def rP:(["v","spares","tails","heads","left","added","a","b"]:List Str).Nodup:=by decide +kernel
def wz(F:Fun K "tie_tails" "tie_tails" (top 45) f fd)(B:Ĵ mg)(C_can_be_tied:ø P w K mg base 1 "can_be_tied" ["spares","a","b","taken"] (spD fCB))(C_tied:ø P w K mg base 1 "tied" ["spares","a","b","taken"] (spR fTd)):FnOk P w K mg base CX0 2 f fd ["spares","tails","heads"] (spD fTT):=by
 refine F.ok mD ĩ (λcdv A outer s H vs Q E hr h=>?_)
 have nd:=mD.nd
 refine⟨_,Ĝ (Ö (ñ (some 1) (i:=3) nd rfl zQ (Wr.nA B.list (À (Ë 2) Å)))
  (Ö (ñ (some 0) (i:=4) nd rfl zQ (Ě Å))
  (Ö (ŵ î rfl (Ĕ (Ë 1)) (è (i:=5) nd rfl zQ) (Ö (ñ none (i:=6) nd rfl zQ (ö (Wr.cB ["v"] rfl (Ĕ (Ë 3)) (λc=>(è (i:=0) rP rfl zQ)) (λc=>(Wr.cI (Wr.bC (Œ C_can_be_tied hr (À (Ë 1) (À (Ë 6) (À (Ë 0) (À Õ Å)))))))) (λc=>(Ë 0))) Õ))
  (Ö (ñ none (i:=0) nd rfl zQ (Dl.dcR C_tied hr (À (Ë 0) (À (Ë 5) (À (Ë 6) (À Õ Å))))))
  (Ö (Wr.cZ (Ŗ 4) (À (đ (À (Ë 5) (À (Ë 6) Å))) Å))
  (Ö (Wr.pK (Ŗ 3) (À (Ë 6) Å)) (Ă [5,6] Ğ))))))
  (Ă [0,5,6] (ý (Ē (Ë 4))))))),aR h ?_⟩
 rintro ds P ⟨sp,T,H,rfl,ls,lH,lT,g,q⟩
 refine⟨[.sh (eU sp),.sh (iD T),.sh (iD H),.any,.any,.any,.any],rfl,?_⟩
 refine .inl ⟨cO H,?_⟩
 refine⟨zK,rfl,λ(i:Nat) ρ=>∃(sp':Spr) (left:List Int) (ad:List Tie),ρ=[.sh (eU sp'),.sh (iD T),.sh (iD H),.dw 1 (iD left),.dw 0 (.list (ad.map pD)),.any,.any]/\sp'.length<=600/\left.length<=100/\ad.length=i/\Du sp' (T.drop i) left/\ad++ttF sp' (T.drop i) left=ttF sp T H,⟨sp,H,[],rfl,ls,lH,rfl,g,rfl⟩,?_,?_⟩
 ·rintro i d ρ hd ⟨sp',left,ad,rfl,ls',ll,la,gd,et⟩
  obtain⟨a,ha,rfl⟩:=cC hd
  have hi:i<T.length:=(Ê.mp ha).1
  have eT:T.drop i=a::T.drop (i+1):=by
   rw[ŕ hi,(Ê.mp ha).2]
  rw[eT] at gd et
  obtain⟨b,hb,gd⟩:=gd
  have mb':=List.mem_of_find?_eq_some hb
  have et':ttF sp' (a::T.drop (i+1)) left=(a,b)::ttF (jo sp' a b) (T.drop (i+1)) (left.erase b):=by
   show(match left.find? (jc sp' a) with|some b=>_|none=>_)=_
   rw[hb]
  have hx:atI ((left.filter (jc sp' a)).map Â) 0=some (.int b):=by
   have h1:(left.filter (jc sp' a)).head?=some b:=by rw[List.head?_filter,hb]
   have h2:(left.filter (jc sp' a))[0]?=some b:=by rw[←List.head?_eq_getElem?];exact h1
   exact dN (j:=0) (by rw[ß,h2];rfl)
  have lt:(jo sp' a b).length=sp'.length:=Á _
  have le:=List.length_erase_of_mem mb'
  refine sy left Â (jc sp' a) Â .imm rfl (by omega) (λv hv A B hA hB=>⟨sp',a,v,rfl,ls',?_⟩) ?_
  ·show if jc sp' a v=true then _ else _
   cases c:jc sp' a v with
   |true=>exact aM (B:=True) ⟨rfl,hA c⟩
   |false=>exact aX (A:=True) (hB c)
  refine⟨_,hx,rfl,sp',a,b,rfl,ls',zK,rfl,by rw[Á];omega,1,left,rfl,mb',?_⟩
  refine⟨jo sp' a b,left.erase b,ad++[(a,b)],?_,by omega,by omega,by rw[È,Ü,la],gd,by rw[Ĳ,←et,et'];rfl⟩
  rw[Ù]
  rfl
 ·rintro ρ ⟨sp',left,ad,rfl,_,_,_,_,et⟩
  rw[Á,List.drop_length] at et
  have e0:ttF sp' [] left=[]:=rfl
  rw[e0,ð] at et
  rw[←et] at q
  exact⟨rfl,q⟩
end
def lamOf:Expr->Arguments×Expr×Scope×Pos
 |.Lambda a b s p=>(a,b,s,p)
 |e=>(⟨[],[],none,[],[],none,[]⟩,e,{ kind:=.function,names:=[],isGenerator:=false,isCoroutine:=false },⟨0,0,0,0⟩)
def MN:List Stmt->Expr
 |[.Return (some (.Call _ [_,e] _ _)) _]=>e
 |[_,.Return (some (.Call _ _ [k] _)) _]=>k.value
 |_=>.Constant .none 0 ⟨0,0,0,0⟩
def Ra(st:Stmt):Arguments:=(lamOf (MN (bT st))).1
def Q9(st:Stmt):Expr:=(lamOf (MN (bT st))).2.1
def yS(st:Stmt):Scope:=(lamOf (MN (bT st))).2.2.1
def lamP(st:Stmt):Pos:=(lamOf (MN (bT st))).2.2.2
structure CalA(P:Program)(w:World)(K:Ú)(mg:Str->Option Value)(k:Nat)(x:Str)(ps:List Str)(sp:Heap->Sp):Prop where
 ex:∃f fd,(∀base,FnOk P w K mg base CX0 k f fd ps (sp base))/\Binds K fd ps []/\W.keepIn K (.ref f)=true/\mg x=some (.ref f)
def bbq:Str:=("best_by":Str)++".<locals>."++"<lambda>"
def bpq:Str:=("best_paper":Str)++".<locals>."++"<lambda>"
abbrev qb(PT:Addr):Pn:=oZ PT (lamP (top 42)) bbq
abbrev NP(PT:Addr):Pn:=oZ PT (lamP (top 43)) bpq
abbrev fK(P1 P2:Addr):Pn:=(qb P1).plus (NP P2)
def fBB(ds:List D)(P:D->Prop):Prop:=∃(n:Nat) (us:List Tie) (fa:Int) (s:Str),ds=[aD ((n:Nat):Int) us,.int fa,.str s]/\1<=n/\n<=8/\us.length<=100/\∀out,lO n (WO us fa s) out->P (.list (out.map iD))
structure PapOk(n:Nat)(us:List Tie)(fa:Int)(s:Str)(F:List (List Int)):Prop where
 side:s="in"\/s="out"
 fam:lO n (WO us fa s) F
 best:∀s':Str,s'="in"\/s'="out"->eV (iC n (WO us fa s')) n (2 ^ n - 1)<=(F.map (WO us fa s)).sum/\(s'="in"->s="out"->eV (iC n (WO us fa s')) n (2 ^ n - 1)<(F.map (WO us fa s)).sum)
def fBP(ds:List D)(P:D->Prop):Prop:=∃(n:Nat) (us:List Tie) (fa:Int),ds=[aD ((n:Nat):Int) us,.int fa]/\1<=n/\n<=8/\us.length<=100/\0<=fa/\fa<=10/\∀s F,PapOk n us fa s F->P (.tuple [.str s,.list (F.map iD)])
section
variable {P:Program}{w:World}{K:Ú}{mg:Str->Option Value}{base:Heap}{f:Addr}{fd:FuncData}{CN:Addr}
def S6:FnScope ["one","falls","side"] ["one","falls","side"] (ao (top 42)):=zC
abbrev Wi(b:Nat):List (Str×Addr):=[(ç "side",b+1+1+1),(ç "one",b+1),(ç "falls",b+1+1)]
def Oc:(ç "one" == ç "side")=false:=by decide +kernel
def Jp:(ç "one" == ç "falls")=false:=by decide +kernel
def Od:(ç "falls" == ç "side")=false:=by decide +kernel
def Oe:(ç "falls" == ç "one")=false:=by decide +kernel
def KD(b:Nat):LamScope ["some"] ["one","falls","side"] (yS (top 42)) (Wi b):=by
 refine .of rfl rfl rfl (by decide +kernel) (by decide +kernel) (by decide +kernel) (by decide +kernel) ?_ ?_
 ·show ∀y∈(yS (top 42)).names,y.2=.free->y.1∈([ç "side",ç "one",ç "falls"]:List Str)
  decide +kernel
 ·show([b+1+1+1,b+1,b+1+1]:List Nat).Nodup
  simp
  omega
def T9{c PT:Addr}{oc kV doc pm ct:Value}{od an:Option Addr}{osl:Array (Option Value)}(lk:K.lookup f=some ⟨oc,od,.func (W.fnOf "best_by" "best_by" (d9 (top 42)) (bT (top 42)) (ao (top 42)) .none kV doc pm an (.ref c) ct),osl⟩)(hcd:W.codeIn K (.ref c) "best_by"=true)(hC:∀h:Heap,K.In h->W.CodeHd h c PT)(hB:base.BuiltinsAt mg PT)(C_hf:CalA P w K mg 11 "heaviest_family" ["n","weigh"] (λbase=>spF P w K mg base 10 ["some"] tHF))(C_need:∀base,ø P w K mg base 9 "one_need" ["one","falls","side","some"] (spD fON)) :
  FnOk P w K mg base CX0 12 f (W.fnOf "best_by" "best_by" (d9 (top 42)) (bT (top 42)) (ao (top 42)) .none kV doc pm an (.ref c) ct) ["one","falls","side"] (spT (qb PT) fBB):=by
 obtain⟨fh,fdh,HF,hbH,hkH,hmH⟩:=C_hf.ex
 refine JT (N:=["one","falls","side"]) lk hcd S6 Di (λA outer s H vs Q E hr h=>?_)
 obtain⟨ds,Pd,ti,r,⟨n,us,fa,sd,rfl,n1,n8,lu,q⟩,k⟩:=h
 obtain⟨vw,v2,v3,rfl,rw,r2,r3⟩:∃vw v2 v3,vs=[vw,v2,v3]/\Rp (λa=>¬(qb PT).fp a) H vw (aD ((n:Nat):Int) us)/\Rp (λa=>¬(qb PT).fp a) H v2 (.int fa)/\Rp (λa=>¬(qb PT).fp a) H v3 (.str sd):=by
  cases r with
  |cons h1 t=>cases t with
   |cons h2 t=>cases t with
    |cons h3 t=>cases t;exact⟨_,_,_,rfl,h1,h2,h3⟩
 have e2:=r2.int'
 have e3:=r3.str'
 subst e2 e3
 refine⟨_,PSs.nox (Ŭ (fJ (Ae (X:=(zf CX0 P w K mg base ["one","falls","side"] "best_by" (ao (top 42)) f (.ref c) A outer s H E).nox) (x:="heaviest_family") (c:=c) (P:=PT) (ys:=["one","falls","side"]) (qual:=bbq) HF hr rfl hmH hkH hbH (ö (Ë 0) Õ).h rfl rfl rfl rfl (hC base) (λ_=>hB) (λ_=>rfl) ?_ ?_))),?_⟩
 ·refine G4 λp hp=>?_
  show List.lookup p.1 [(ç "side",s.heap.objs.size+1+1+1),(ç "falls",s.heap.objs.size+1+1),(ç "one",s.heap.objs.size+1)]=some p.2
  rcases Ñ.mp hp with rfl|hp
  ·exact lK
  ·rcases Ñ.mp hp with rfl|hp
   ·exact(qd Oc).trans ((qd Jp).trans lK)
   ·rw[Ô.mp hp]
    exact(qd Od).trans lK
 ·intro y hy
  rcases Ñ.mp hy with rfl|hy
  ·exact⟨rfl,_,(qd Oc).trans lK⟩
  ·rcases Ñ.mp hy with rfl|hy
   ·exact⟨rfl,_,(qd Od).trans ((qd Oe).trans lK)⟩
   ·rw[Ô.mp hy]
    exact⟨rfl,_,lK⟩
 have r0:Rp (λ_=>False) H vw (aD ((n:Nat):Int) us):=rw.imm (d7 ((n:Nat):Int) us)
 have lk':∀{base':Heap}{fl c':Addr}{cl:List (Str×Addr)}{pm ctv:Value},base'.get? fl=some (ź "<lambda>" bbq (Ra (top 42)) (Q9 (top 42)) (yS (top 42)) cl pm c' ctv)->LamScope ["some"] ["one","falls","side"] (yS (top 42)) cl->Caps base' cl ["one","falls","side"] [vw,.int fa,.str sd] ->
   Hand P w K mg base' 10 fl ["some"] (λH=>qp H c' bbq/\Rp (λ_=>False) H vw (aD ((n:Nat):Int) us)) (fWt n (WO us fa sd)):=λ{base' fl c' cl pm ctv} e S C=>by
  refine⟨_,JV (cvs:=[vw,.int fa,.str sd]) e (λ_ _ _ _ h=>h.1.1) S C (λvs H Q E h=>?_) (λA outer s H vs Q E hr h=>?_),⟨_,_,_,_,e⟩,.all λus hl=>?_,λH H' ⟨⟨x,φ,h1,h2⟩,h3⟩ sm=>⟨⟨x,φ,sm _ _ h1,h2⟩,h3.mono (λ_ o=>o) (λ_ _ o=>o.elim) λa xs h=>sm a _ h⟩⟩
  ·obtain⟨_,ds,Pd,r,⟨l,rfl,_⟩,_⟩:=h
   exact r.length
  ·obtain⟨⟨_,z⟩,ds,Pd2,r,⟨l,rfl,pr,p⟩,kk⟩:=h
   obtain⟨v1,rfl,r1⟩:∃v1,vs=[v1]/\Rp (λ_=>True) H v1 (.list (l.map Â)):=by
    cases r with
    |cons h t=>cases t;exact⟨_,rfl,h⟩
   refine⟨_,(Œ (C_need base') hr (À (Ë 1) (À (Ë 2) (À (Ë 3) (À (Ë 0) Å))))).h,?_⟩
   refine⟨dR,H,λ_=>none,[.sh (.list (l.map Â)),.im (aD ((n:Nat):Int) us),.im (.int fa),.im (.str sd)],λk d=>d=.int (WO us fa sd l),?_,?_,λkd d v H' hd A rp=>?_⟩
   ·refine⟨λ_ _ e _=>e,trivial,(λ_ _ e=>(nomatch e)),λi s e=>?_,rfl,trivial⟩
    match i,e with
    |0,e=>cases e;exact⟨v1,rfl,r1.mono (λ_ _=>⟨λz=>z,rfl⟩) (λ_ _ _ e=>e) λ_ _ e=>e⟩
    |1,e=>cases e;exact⟨vw,rfl,z⟩
    |2,e=>cases e;exact⟨.int fa,rfl,.int fa⟩
    |3,e=>cases e;exact⟨.str sd,rfl,.str sd⟩
   ·exact⟨((n:Nat):Int),us,fa,sd,l,rfl,pr,lu,rfl⟩
   ·subst hd
    have:=rp.int'
    subst this
    exact kk _ _ H' p (λb o e=>A.kp b o e λz=>z) (.int _)
  ·obtain⟨_,rfl⟩:∃a,us=[a]:=by
    match us,hl with
    |[a],_=>exact⟨a,rfl⟩
   rfl
 refine⟨dR,H,λ_=>none,[.im (aD ((n:Nat):Int) us),.im (.int fa),.im (.str sd)],λk d=>d=.int ((n:Nat):Int),?_,⟨.int ((n:Nat):Int),rfl,rfl⟩,λkd d v H1 hd A1 rp=>?_⟩
 ·refine⟨λ_ _ e _=>e,trivial,(λ_ _ e=>(nomatch e)),λi s e=>?_,rfl,trivial⟩
  match i,e with
  |0,e=>cases e;exact⟨vw,rfl,r0⟩
  |1,e=>cases e;exact⟨.int fa,rfl,.int fa⟩
  |2,e=>cases e;exact⟨.str sd,rfl,.str sd⟩
 subst hd
 have ev:=rp.int'
 subst ev
 have s1:Same H H1:=λb o e=>A1.kp b o e λz=>z
 refine⟨(qb PT).mono H H1 ti λb o _ e=>s1 b o e,[vw,.int fa,.str sd],rfl,λj y v h1 h2=>⟨j,h1,?_⟩,λbase' fl c' H' lam T' kp=>?_⟩
 ·match j,h2 with
  |0,h2=>cases h2;rfl
  |1,h2=>cases h2;rfl
  |2,h2=>cases h2;rfl
 have tp:∀a xs,H a=some (.tup xs)->H' a=some (.tup xs):=λa xs e=>kp a _ (s1 _ _ e) λz=>by
  obtain⟨ps,h,_⟩:=ti
  rw[z,h] at e
  cases e
 have S:=KD s.heap.objs.size
 obtain⟨pm',ctv,hfn⟩:=lam.fn
 refine⟨((n:Nat):Int),fl,_,_,Pd,rfl,lk' hfn S lam.caps,⟨lam.kn,r0.mono (λ_ o=>o) (λ_ _ o=>o.elim) tp⟩,⟨n,WO us fa sd,rfl,n1,n8,rfl,Gx us fa sd,q⟩,λd v H2 hP sm rp2=>k d v H2 hP (λb o e nb=>sm b o (kp b o (s1 b o e) nb)) ((qb PT).mono H' H2 T' λb o _ e=>sm b o e) (rp2.mono (λa ha=>?_) (λ_ _ _ e=>e) λ_ _ e=>e)⟩
 cases e:H a with
 |none=>rfl
 |some o =>
  by_cases z:a=PT
  ·obtain⟨ps,h,_⟩:=T'
   rw[z,h] at ha
   cases ha
  ·rw[kp a o (s1 a o e) z] at ha
   cases ha
def Nv:FnScope ["one","falls","papers"] ["one","falls"] (ao (top 43)):=zC
abbrev Nm(b:Nat):List (Str×Addr):=[(ç "one",b+1),(ç "falls",b+1+1)]
def Kw(b:Nat):LamScope ["paper"] ["one","falls"] (yS (top 43)) (Nm b):=by
 refine .of rfl rfl rfl (by decide +kernel) (by decide +kernel) (by decide +kernel) (by decide +kernel) ?_ ?_
 ·show ∀y∈(yS (top 43)).names,y.2=.free->y.1∈([ç "one",ç "falls"]:List Str)
  decide +kernel
 ·show([b+1,b+1+1]:List Nat).Nodup
  simp
def Ug:(["side","one","falls","papers"]:List Str).Nodup:=by decide +kernel
def yD(s:Str)(F:List (List Int)):D:=.tuple [.str s,.list (F.map iD)]
def Rm(dcs:List D)(dx:D)(k:Int):Prop:=∃(n:Nat) (us:List Tie) (fa:Int) (s:Str) (F:List (List Int)),dcs=[aD ((n:Nat):Int) us,.int fa]/\dx=yD s F/\1<=n/\n<=8/\us.length<=100/\0<=fa/\fa<=10/\lO n (WO us fa s) F/\k=(F.map (WO us fa s)).sum
def Vf(C_bound:∀base,ø P w K mg base 10 "one_bound" ["one","falls","side","family"] (spD fOB)){cvs:List V}{base':Heap}{fl c':Addr}{pm ctv:Value}{b:Nat}(e:base'.get? fl=some (ź "<lambda>" bpq (Ra (top 43)) (Q9 (top 43)) (yS (top 43)) (Nm b) pm c' ctv))(C:Caps base' (Nm b) ["one","falls"] cvs) :
  ∃fd,FnOk P w K mg base' CX0 11 fl fd ["paper"] (Qa bpq Rm cvs c')/\Binds K fd ["paper"] []:=by
 refine⟨_,JV (cvs:=cvs) e (λ_ _ _ _ h=>h.1) (Kw b) C (λvs H Q E h=>?_) (λA outer s H vs Q E hr h=>?_),.all λus hl=>?_⟩
 ·obtain⟨_,v1,_,_,_,rfl,_⟩:=h
  rfl
 ·obtain⟨kn,v1,dcs,dx,k,rfl,rc,r1,⟨n,us,fa,sd,F,rfl,rfl,n1,n8,lu,f0,f1,hF,rfl⟩,kk⟩:=h
  obtain⟨vw,vf,rfl,rw,rf⟩:=rc.two
  refine⟨_,(Œ (C_bound base') hr (À (Ë 1) (À (Ë 2) (À (ö (Ë 0) Õ) (À (ö (Ë 0) Õ) Å))))).h,?_⟩
  obtain⟨pr,nd,ll⟩:=kO n1 n8 hF
  refine⟨dR,H,λ_=>none,[.sh (yD sd F),.im (aD ((n:Nat):Int) us),.im (.int fa)],λk d=>d=.int (F.map (WO us fa sd)).sum,?_,?_,λkd d v H' hd A rp=>?_⟩
  ·refine⟨λ_ _ e _=>e,trivial,(λ_ _ e=>(nomatch e)),λi s e=>?_,rfl,trivial⟩
   match i,e with
   |0,e=>cases e;exact⟨v1,rfl,r1.mono (λ_ _=>⟨λz=>z,rfl⟩) (λ_ _ _ e=>e) λ_ _ e=>e⟩
   |1,e=>cases e;exact⟨vw,rfl,rw⟩
   |2,e=>cases e;exact⟨vf,rfl,rf⟩
  ·exact⟨_,rfl,_,rfl,((n:Nat):Int),us,fa,sd,F,rfl,by omega,lu,f0,f1,ll,pr,nd,rfl⟩
  ·subst hd
   have:=rp.int'
   subst this
   exact kk H' (λb o e=>A.kp b o e λz=>z)
 ·obtain⟨_,rfl⟩:∃a,us=[a]:=by
   match us,hl with
   |[a],_=>exact⟨a,rfl⟩
  rfl
def KR{a b:Int}:jN [a,b]=if b > a then 1 else 0:=by
 unfold jN
 show(if decide (([a,b]:List Int).getD 1 0 > ([a,b]:List Int).getD 0 0)=true then 0+1 else 0)=_
 by_cases c:b > a
 ·rw[if_pos c,if_pos (decide_eq_true (by exact c))]
 ·rw[if_neg c]
  exact if_neg λz=>c (of_decide_eq_true z)
abbrev xBP(P:Program)(w:World)(K:Ú)(mg:Str->Option Value)(base:Heap)(f c:Addr)(A:Around)(outer:List Env)(s:Shared)(H:Hp)(E:XK):Cx:=(zf CX0 P w K mg base ["one","falls","papers"] "best_paper" (ao (top 43)) f (.ref c) A outer s H E).nox
def T8{c P1 PT:Addr}{oc kV doc pm ct:Value}{od an:Option Addr}{osl:Array (Option Value)}(lk:K.lookup f=some ⟨oc,od,.func (W.fnOf "best_paper" "best_paper" (d9 (top 43)) (bT (top 43)) (ao (top 43)) .none kV doc pm an (.ref c) ct),osl⟩)(hcd:W.codeIn K (.ref c) "best_paper"=true)(hC:∀h:Heap,K.In h->W.CodeHd h c PT)(hB:base.BuiltinsAt mg PT)(nP:P1≠PT)(B:Ĵ mg)(C_best_by:ø P w K mg base 12 "best_by" ["one","falls","side"] (spT (qb P1) fBB))(C_bound:∀base,ø P w K mg base 10 "one_bound" ["one","falls","side","family"] (spD fOB)) :
  FnOk P w K mg base CX0 14 f (W.fnOf "best_paper" "best_paper" (d9 (top 43)) (bT (top 43)) (ao (top 43)) .none kV doc pm an (.ref c) ct) ["one","falls"] (spT (fK P1 PT) fBP):=by
 refine JT (N:=["one","falls","papers"]) lk hcd Nv Di (λA outer s H vs Q E hr h=>?_)
 have nd:=Nv.nd
 have C_bb:=C_best_by.TQ (T2:=NP PT) (tE nP)
 letI:=grU (fK P1 PT)
 have MLAM:∀{e:Expr}{te:DE}{p pos kp:Pos},Wr.WD (xBP P w K mg base f c A outer s H E) e te->starEach [e] (xBP P w K mg base f c A outer s H E).env=(false,eval e (xBP P w K mg base f c A outer s H E).env)::starEach [] (xBP P w K mg base f c A outer s H E).env ->
   Wr.WD (xBP P w K mg base f c A outer s H E) (.Call (.Name "max" p) [e] [⟨some "key",.Lambda (Ra (top 43)) (Q9 (top 43)) (yS (top 43)) (lamP (top 43)),kp⟩] pos) (tMX [0,1] Rm te):=λ{e te p pos kp} he hs=>by
  refine⟨PE.wk (Ey (X:=xBP P w K mg base f c A outer s H E) (c:=c) (P:=PT) (ys:=["one","falls"]) (ps:=["paper"]) (qual:=bpq) (k:=11) (cl:=Nm s.heap.objs.size) (spL:=Qa bpq Rm) (λcvs base' fl c' pm ctv hl e C=>Vf C_bound e C) (Room.in1 (hr.mono (show 12<=13 by decide))) hr.hd rfl B.max he.h rfl rfl rfl rfl (hC base) (λ_=>hB) (λ_=>rfl) ?_ ?_ hs) (Mx (tE nP) rfl)⟩
  ·refine G4 λp hp=>?_
   show List.lookup p.1 [(ç "falls",s.heap.objs.size+1+1),(ç "one",s.heap.objs.size+1)]=some p.2
   rcases Ñ.mp hp with rfl|hp
   ·exact(qd Jp).trans lK
   ·rw[Ô.mp hp]
    exact lK
  ·intro y hy
   rcases Ñ.mp hy with rfl|hy
   ·exact⟨rfl,_,lK⟩
   ·rw[Ô.mp hy]
    exact⟨rfl,_,(qd Oe).trans lK⟩
 refine⟨_,PSs.nox (Ĝ (Ö (Wr.iy none ["side"] (i:=2) rfl nd rfl zQ (Ĕ (đ (À Wr.dW (À Wr.dW Å)))) (λc=>(è (i:=0) Ug rfl zQ)) (λc=>ŀ) (λc=>(đ (À (Ë 0) (À (Wr.dcU C_bb hr (À (Ë 1) (À (Ë 2) (À (Ë 0) Å)))) Å)))))
  (ý (Ē (MLAM (Ë 2) rfl))))),RG h ?_⟩
 rintro ds P ⟨n,us,fa,rfl,n1,n8,lu,f0,f1,q⟩
 refine⟨[.im (aD ((n:Nat):Int) us),.im (.int fa),.any],by show [bw (aD _ us),_,_]=_;rw[bL];rfl,?_⟩
 refine⟨zK,zK,.new,λi ys=>(i=0/\ys=[])\/(i=1/\∃F0,ys=[yD "in" F0]/\lO n (WO us fa "in") F0)\/(i=2/\∃F0 F1,ys=[yD "in" F0,yD "out" F1]/\lO n (WO us fa "in") F0/\lO n (WO us fa "out") F1),.inl ⟨rfl,rfl⟩,?_,?_⟩
 ·rintro i d ys hd hI
  have hi:i<2:=(Ê.mp hd).1
  rcases hI with ⟨rfl,rfl⟩|⟨rfl,F0,rfl,h0⟩|⟨rfl,_⟩
  ·cases hd
   refine aM (B:=True) ⟨n,us,fa,"in",rfl,n1,n8,lu,λout ho=>⟨zK,?_,.inr (.inl ⟨rfl,out,rfl,ho⟩)⟩⟩
   rfl
  ·cases hd
   refine aM (B:=True) ⟨n,us,fa,"out",rfl,n1,n8,lu,λout ho=>⟨zK,?_,.inr (.inr ⟨rfl,F0,out,rfl,h0,ho⟩)⟩⟩
   rfl
  ·omega
 ·rintro ys (⟨z,_⟩|⟨z,_⟩|⟨_,F0,F1,rfl,h0,h1⟩)
  ·exact absurd z (show ¬(2:Nat)=0 by decide)
  ·exact absurd z (show ¬(2:Nat)=1 by decide)
  refine⟨[yD "in" F0,yD "out" F1],[(F0.map (WO us fa "in")).sum,(F1.map (WO us fa "out")).sum],[aD ((n:Nat):Int) us,.int fa],rfl,rfl,rfl,(show 1<=2 by decide),λj x c hx hc=>?_,λx hx=>?_⟩
  ·match j,hx,hc with
   |0,hx,hc=>cases hx;cases hc;exact⟨n,us,fa,"in",F0,rfl,rfl,n1,n8,lu,f0,f1,h0,rfl⟩
   |1,hx,hc=>cases hx;cases hc;exact⟨n,us,fa,"out",F1,rfl,rfl,n1,n8,lu,f0,f1,h1,rfl⟩
  ·rw[KR] at hx
   by_cases c:(F1.map (WO us fa "out")).sum > (F0.map (WO us fa "in")).sum
   ·rw[if_pos c] at hx
    cases hx
    refine⟨rfl,q "out" F1 ⟨.inr rfl,h1,λs' hs=>?_⟩⟩
    rcases hs with rfl|rfl
    ·rw[←qD h0]
     exact⟨by omega,λ_ _=>c⟩
    ·rw[←qD h1]
     exact⟨ā _,λz=>absurd z (by decide +kernel)⟩
   ·rw[if_neg c] at hx
    cases hx
    refine⟨rfl,q "in" F0 ⟨.inl rfl,h0,λs' hs=>?_⟩⟩
    rcases hs with rfl|rfl
    ·rw[←qD h0]
     exact⟨ā _,λ_ z=>absurd z (by decide +kernel)⟩
    ·rw[←qD h1]
     exact⟨by omega,λ_ z=>absurd z (by decide +kernel)⟩
end
def v9(c:Nat)(l:List Int):List Int:=É (c - l.length) 0++l
def hdF(n k:Nat)(us:List Tie)(c:Nat):List Int:=v9 c (iu n k (aZ n (Cut.di us)))
def tlF(n k:Nat)(us:List Tie)(c:Nat):List Int:=v9 c (iu n k (aZ n (Cut.dO us)))
def Gp(n k:Nat)(us:List Tie)(c:Nat):List Tie:=ttF (bW n k us (hdF n k us c) (tlF n k us c)) (tlF n k us c) (hdF n k us c)
def gw{c:Nat}{l:List Int}(h:l.length<=c):(v9 c l).length=c:=by
 unfold v9
 rw[È,ĥ]
 omega
def Il(c:Nat)(l:List Int)(X:Int->Bool):Cut.mg l X<=Cut.mg (v9 c l) X:=by
 unfold v9
 rw[lX]
 omega
def Ik{n c:Nat}{l:List Int}(n1:1<=n)(h:RgE n l):RgE n (v9 c l):=λe he=>by
 rcases å.mp he with z|z
 ·rw[(Ķ.mp z).2];omega
 ·exact h e z
def Im{c:Nat}{l:List Int}(h:l.length=c):v9 c l=l:=by
 unfold v9
 rw[h,Nat.sub_self]
 rfl
def sumF(us:List Tie)(fa:Int)(s:Str)(F:List (List Int)):Nat:=(F.map (WO us fa s)).sum.toNat
def vo(us:List Tie)(fa:Int)(s:Str):∀F:List (List Int),0<=(F.map (WO us fa s)).sum
 |[]=>ā _
 |l::F=>by
  rw[à,ò]
  have:=vo us fa s F
  have:=Gx us fa s l
  omega
def wj{n k:Nat}{us:List Tie}{s:Str}{F:List (List Int)}(n1:1<=n)(n8:n<=8)(hu:RgT n us)(h:PapOk n us ((k:Int) - 1) s F) :
  ((iu n k (aZ n (Cut.di us))).length<=sumF us ((k:Int) - 1) s F/\(iu n k (aZ n (Cut.dO us))).length<=sumF us ((k:Int) - 1) s F/\sumF us ((k:Int) - 1) s F<=n * k)/\Cut.Fit n k us (hdF n k us (sumF us ((k:Int) - 1) s F)) (tlF n k us (sumF us ((k:Int) - 1) s F))/\Cut.Tgt n k us (hdF n k us (sumF us ((k:Int) - 1) s F)) (tlF n k us (sumF us ((k:Int) - 1) s F)):=by
 obtain⟨fi,_,li⟩:=Bm (k:=k) n1 n8 (iI hu).eq
 obtain⟨fo,_,lo⟩:=Bm (k:=k) n1 n8 (fD hu).eq
 unfold hdF tlF
 generalize iu n k (aZ n (Cut.di us))=I at fi li ⊢
 generalize iu n k (aZ n (Cut.dO us))=O at fo lo ⊢
 have nn:=vo us ((k:Int) - 1) s F
 have bi:=(h.best "in" (.inl rfl)).1
 have bo:=(h.best "out" (.inr rfl)).1
 have es:((sumF us ((k:Int) - 1) s F:Nat):Int)=(F.map (WO us ((k:Int) - 1) s)).sum:=by unfold sumF;omega
 have up:(s="in"->(F.map (WO us ((k:Int) - 1) s)).sum<=((I.length:Nat):Int))/\(s="out"->(F.map (WO us ((k:Int) - 1) s)).sum<=((O.length:Nat):Int)):=⟨λz=>by
  subst z
  exact tD n1 n8 (iI hu) fi.rg fi.C h.fam,λz=>by
  subst z
  exact tD n1 n8 (fD hu) fo.rg fo.C h.fam⟩
 generalize sumF us ((k:Int) - 1) s F=c at es ⊢
 have a1:I.length<=c:=by
  obtain⟨Gs,g1,g2,g3|g3⟩:=Cut.yg fi.rg fi.C fi.tg (Cut.Kg us) (Cut.Km us)
  ·have:=jd (k:=k) n1 n8 (iI hu) g1 g2
   omega
  ·have:=jd (k:=k) n1 n8 (fD hu) g1 g2
   omega
 have a2:O.length<=c:=by
  obtain⟨Gs,g1,g2,g3|g3⟩:=Cut.yg fo.rg fo.C fo.tg (Cut.Kl us) (Cut.Br us)
  ·have:=jd (k:=k) n1 n8 (fD hu) g1 g2
   omega
  ·have:=jd (k:=k) n1 n8 (iI hu) g1 g2
   omega
 refine⟨⟨a1,a2,?_⟩,⟨Ik n1 fi.rg,Ik n1 fo.rg,(gw a1).trans (gw a2).symm,λX hX=>?_,λX hX=>?_⟩,?_⟩
 ·rcases h.side with z|z
  ·have:=up.1 z;omega
  ·have:=up.2 z;omega
 ·have:=fi.C X hX
  have:=Il c I X
  unfold dE at *
  omega
 ·have:=fo.C X hX
  have:=Il c O X
  unfold dE at *
  omega
 ·rcases h.side with z|z
  ·have:=up.1 z
   rw[Im (c:=c) (l:=I) (by omega)]
   exact .inl fi.tg
  ·have:=up.2 z
   rw[Im (c:=c) (l:=O) (by omega)]
   exact .inr fo.tg
structure OneOk(n k:Nat)(us A:List Tie)(s:Str)(F:List (List Int)):Prop where
 pap:PapOk n us ((k:Int) - 1) s F
 perm:A.Perm (Gp n k us (sumF us ((k:Int) - 1) s F))
 so:A.Pairwise λa b=>aJ a<=aJ b
def ux:∀{l1 l2:List Tie},(∀t∈l1,lZ t)->l1.Perm l2->l1.Pairwise (λa b=>aJ a<=aJ b)->l2.Pairwise (λa b=>aJ a<=aJ b)->l1=l2
 |[],l2,_,p,_,_=>p.nil_eq
 |a::l1,[],_,p,_,_=>absurd p.length_eq (by simp)
 |a::l1,b::l2,hn,p,s1,s2=>by
  have s1:=List.pairwise_cons.mp s1
  have s2:=List.pairwise_cons.mp s2
  have hb:b∈a::l1:=p.mem_iff.mpr Æ
  have ha:a∈b::l2:=p.mem_iff.mp Æ
  have e1:aJ a<=aJ b:=by
   rcases Ñ.mp hb with z|z
   ·rw[z];exact ā _
   ·exact s1.1 b z
  have e2:aJ b<=aJ a:=by
   rcases Ñ.mp ha with z|z
   ·rw[z];exact ā _
   ·exact s2.1 a z
  have e:a=b:=code_inj (hn a Æ) (hn b hb) (by omega)
  subst e
  rw[ux (λt ht=>hn t (Ã _ ht)) ((List.perm_cons a).mp p) s1.2 s2.2]
def Fd{n k:Nat}{us A:List Tie}{s:Str}{F:List (List Int)}(n1:1<=n)(n8:n<=8)(k3:k<=3)(hu:RgT n us)(h:OneOk n k us A s F) :
  A.length<=24/\(∀t∈A,(0<=t.1/\t.1<(n:Int))/\(0<=t.2/\t.2<(n:Int))/\t.1≠t.2)/\((A.length:Nat):Int)=(F.map (WO us ((k:Int) - 1) s)).sum/\∀X,Cut.Prp n X->k<=Cut.di (us++A) X:=by
 obtain⟨⟨a1,a2,a3⟩,fit,tg⟩:=wj n1 n8 hu h.pap
 obtain⟨g1,g2,g3,g4⟩:=xX n1 n8 _ _ us hu fit tg
 have la:=h.perm.length_eq
 have nk:n * k<=24:=ĳ n8 k3
 have nn:=vo us ((k:Int) - 1) s F
 have es:((sumF us ((k:Int) - 1) s F:Nat):Int)=(F.map (WO us ((k:Int) - 1) s)).sum:=by unfold sumF;omega
 have lt:(tlF n k us (sumF us ((k:Int) - 1) s F)).length=sumF us ((k:Int) - 1) s F:=gw a2
 unfold Gp at la
 refine⟨by omega,λt ht=>g3 t (h.perm.mem_iff.mp ht),by omega,λX hX=>?_⟩
 have:=g4 X hX
 rw[oh (a:=us++A) (b:=Gp n k us (sumF us ((k:Int) - 1) s F)++us) ((List.perm_append_comm).trans (h.perm.append_right us)) X]
 exact this
def fOP(ds:List D)(P:D->Prop):Prop:=∃(n k:Nat) (us:List Tie),ds=[aD ((n:Nat):Int) us,.int ((k:Int) - 1)]/\1<=n/\n<=8/\1<=k/\k<=3/\us.length<=100/\RgT n us/\∀A s F,OneOk n k us A s F->P (.tuple [.list (A.map pD),.str s,.list (F.map iD)])
section
variable {P:Program}{w:World}{K:Ú}{mg:Str->Option Value}{base:Heap}{f:Addr}{fd:FuncData}{CN P1 PT:Addr}
def pR:FnScope ["one","falls","paper","count","most","led_in","led_out","heads","tails","spares"] ["one","falls"] (ao (top 46)):=zC
def lC:(["some","one","falls","paper","count","most","led_in","led_out","heads","tails","spares"]:List Str).Nodup:=by decide +kernel
def yG(F:Fun K "one_puts" "one_puts" (top 46) f fd)(B:Ĵ mg)(C_best_paper:ø P w K mg base 14 "best_paper" ["one","falls"] (spT (fK P1 PT) fBP))(C_one_bound:ø P w K mg base 10 "one_bound" ["one","falls","side","family"] (spD fOB))(C_proper_sets:ø P w K mg base 2 "proper_sets" ["n"] (spD fPS))(C_ties_by:ø P w K mg base 8 "ties_by" ["one","side","some"] (spD fTB))(C_so_many_ends:ø P w K mg base 3 "so_many_ends" ["n","rows","most","count"] (spD fSM))(C_with_spares:ø P w K mg base 1 "with_spares" ["rows","ends","most"] (spR fWS))(C_tie_tails:ø P w K mg base 2 "tie_tails" ["spares","tails","heads"] (spD fTT)):FnOk P w K mg base CX0 15 f fd ["one","falls"] (P0 (fK P1 PT) fOP):=by
 refine F.ok pR JD (λcdv A outer s H vs Q E hr h=>?_)
 have nd:=pR.nd
 letI:=grU (fK P1 PT)
 refine⟨_,į (Wr.WDS.h (ñ none (i:=2) nd rfl zQ (Wr.dcU C_best_paper hr (À (Ë 0) (À (Ë 1) Å)))))
  (į (Wr.WDS.h (ñ none (i:=3) nd rfl zQ (Œ C_one_bound hr (À (Ë 0) (À (Ë 1) (À (ö (Ë 2) Õ) (À (ö (Ë 2) Õ) Å)))))))
  (į (Wr.WDS.h (ñ none (i:=4) nd rfl zQ (ğ (Ë 1) Õ)))
  (į (Wr.WDS.h (Wr.iy none ["some"] (i:=5) rfl nd rfl zQ (Ĕ (Œ C_proper_sets hr (À (ö (Ë 0) Õ) Å))) (λc=>(è (i:=0) lC rfl zQ)) (λc=>ŀ) (λc=>(đ (À (Ë 0) (À (Œ C_ties_by hr (À (Ë 1) (À Wr.dW (À (Ë 0) Å)))) Å))))))
  (į (Wr.WDS.h (Wr.iy none ["some"] (i:=6) rfl nd rfl zQ (Ĕ (Œ C_proper_sets hr (À (ö (Ë 0) Õ) Å))) (λc=>(è (i:=0) lC rfl zQ)) (λc=>ŀ) (λc=>(đ (À (Ë 0) (À (Œ C_ties_by hr (À (Ë 1) (À Wr.dW (À (Ë 0) Å)))) Å))))))
  (į (Wr.WDS.h (ñ none (i:=7) nd rfl zQ (Œ C_so_many_ends hr (À (ö (Ë 0) Õ) (À (Ë 5) (À (Ë 4) (À (Ë 3) Å)))))))
  (į (Wr.WDS.h (ñ none (i:=8) nd rfl zQ (Œ C_so_many_ends hr (À (ö (Ë 0) Õ) (À (Ë 6) (À (Ë 4) (À (Ë 3) Å)))))))
  (į (Wr.WDS.h (ñ none (i:=9) nd rfl zQ (ğ (Dl.dcR C_with_spares hr (À (Ë 5) (À (Ë 7) (À (Ë 4) Å)))) (Dl.dcR C_with_spares hr (À (Ë 6) (À (Ë 8) (À (Ë 4) Å)))))))
  (Ŭ (fJ (HB (Ď (Wr.WD.h (Wr.eG B.sorted (À (Œ C_tie_tails hr (À (Ë 9) (À (Ë 8) (À (Ë 7) Å)))) Å))) (Ď (fL wQ (pv 2) ĝ (λ_ _=>rfl)) (Ď (fL wQ (pv 2) ĝ (λ_ _=>rfl)) Ŝ))))))))))))),?_⟩
 obtain⟨ds,P,pi,r,⟨n,k,us,rfl,n1,n8,k1,k3,lu,hu,q⟩,kk⟩:=h
 have E0:=iw (p:=fK P1 PT) (N:=["one","falls","paper","count","most","led_in","led_out","heads","tails","spares"]) rfl pi r
 have e0:([aD ((n:Nat):Int) us,Â ((k:Int) - 1)].map bw++É ((["one","falls","paper","count","most","led_in","led_out","heads","tails","spares"]:List Str).length - vs.length) Sl.any)=[.im (aD ((n:Nat):Int) us),.im (.int ((k:Int) - 1)),.any,.any,.any,.any,.any,.any,.any,.any]:=by
  rw[r.length]
  show [bw (aD _ us),_,_,_,_,_,_,_,_,_]=_
  rw[bL]
  rfl
 rw[e0] at E0
 have nk:n * k<=24:=ĳ n8 k3
 refine zm (zm (zm (zm (zm (zm (zm (zm (u:=Eb) (M:=λρ=>∃s F a b c d e g,PapOk n us ((k:Int) - 1) s F/\ρ=[.im (aD ((n:Nat):Int) us),.im (.int ((k:Int) - 1)),.sn (yD s F),a,b,c,d,e,g,.sh (eU (bW n k us (hdF n k us (sumF us ((k:Int) - 1) s F)) (tlF n k us (sumF us ((k:Int) - 1) s F))))]/\e=.sn (iD (hdF n k us (sumF us ((k:Int) - 1) s F)))/\g=.sn (iD (tlF n k us (sumF us ((k:Int) - 1) s F)))) ?last))))))) _ _ _ _ E0 ?read
 case read =>
  refine⟨n,us,(k:Int) - 1,rfl,n1,n8,lu,by omega,by omega,λs F pap=>?_⟩
  obtain⟨pr,nd,ll⟩:=kO n1 n8 pap.fam
  obtain⟨⟨a1,a2,a3⟩,fit,tg⟩:=wj n1 n8 hu pap
  obtain⟨g1,g2,g3,g4⟩:=xX n1 n8 _ _ us hu fit tg
  have nk:n * k<=24:=ĳ n8 k3
  have nn:=vo us ((k:Int) - 1) s F
  have es:(F.map (WO us ((k:Int) - 1) s)).sum=((sumF us ((k:Int) - 1) s F:Nat):Int):=by unfold sumF;omega
  have ek:(k:Int) - 1+1=(k:Int):=by omega
  refine⟨_,rfl,_,rfl,((n:Nat):Int),us,(k:Int) - 1,s,F,rfl,by omega,lu,by omega,by omega,ll,pr,nd,?_⟩
  have lr:∀d:(Int->Bool)->Nat,(aZ n d).length<=254:=qT n1 n8
  have lp:(psN n).length<=254:=by have:=lr (Cut.di us);unfold aZ at this;rw[Á] at this;exact this
  have er:∀{d:(Int->Bool)->Nat}{sd:Str},Side n us sd d->Ŀ ((psN n).map λl=>rwD (l,((byS us sd l:Nat):Int)))=eU (aZ n d):=λ{d sd} S=>by
   unfold eU aZ
   rw[õ]
   congr 1
   refine Č λl _=>?_
   show rwD (l,_)=rwD (l,_)
   rw[←S.by_]
  refine⟨_,rfl,n,rfl,n1,n8,?_⟩
  refine pH (psN n) iD (λl=>rwD (l,((byS us "in" l:Nat):Int))) .snw rfl (by omega) (λl hl A B hA=>aM (B:=True) ⟨((n:Nat):Int),us,"in",l,rfl,dX n1 n8 hl,lu,zK,rfl,hA⟩) ?_
  rw[er (iI hu)]
  refine⟨_,rfl,n,rfl,n1,n8,?_⟩
  refine pH (psN n) iD (λl=>rwD (l,((byS us "out" l:Nat):Int))) .snw rfl (by omega) (λl hl A B hA=>aM (B:=True) ⟨((n:Nat):Int),us,"out",l,rfl,dX n1 n8 hl,lu,zK,rfl,hA⟩) ?_
  rw[er (fD hu)]
  refine⟨_,rfl,n,k,sumF us ((k:Int) - 1) s F,Cut.di us,by rw[ek,es];rfl,n1,n8,k3,by omega,(iI hu).eq,a1,?_⟩
  refine⟨_,rfl,n,k,sumF us ((k:Int) - 1) s F,Cut.dO us,by rw[ek,es];rfl,n1,n8,k3,by omega,(fD hu).eq,a2,?_⟩
  have lh:(hdF n k us (sumF us ((k:Int) - 1) s F)).length=sumF us ((k:Int) - 1) s F:=gw a1
  have lt:(tlF n k us (sumF us ((k:Int) - 1) s F)).length=sumF us ((k:Int) - 1) s F:=gw a2
  refine⟨rfl,aZ n (Cut.di us),hdF n k us (sumF us ((k:Int) - 1) s F),(k:Int),by rw[ek];rfl,by have:=lr (Cut.di us);omega,by omega,rfl,aZ n (Cut.dO us),tlF n k us (sumF us ((k:Int) - 1) s F),(k:Int),by rw[ek];rfl,by have:=lr (Cut.dO us);omega,by omega,?_⟩
  rw[vp,vp]
  have lall:(bW n k us (hdF n k us (sumF us ((k:Int) - 1) s F)) (tlF n k us (sumF us ((k:Int) - 1) s F))).length<=508:=by
   unfold bW aF
   rw[È,Á,Á]
   omega
  have e9:(aF n k (Cut.di us) (hdF n k us (sumF us ((k:Int) - 1) s F))).map rwD++(aF n k (Cut.dO us) (tlF n k us (sumF us ((k:Int) - 1) s F))).map rwD=(bW n k us (hdF n k us (sumF us ((k:Int) - 1) s F)) (tlF n k us (sumF us ((k:Int) - 1) s F))).map rwD:=by
   unfold bW
   rw[Ù]
  refine⟨?_,.inr ?_⟩
  ·rw[←È,e9,Á]
   omega
  rw[e9]
  exact⟨s,F,_,_,_,_,_,_,pap,rfl,rfl,rfl⟩
 case last =>
  rintro own σ H1 ρ E ⟨s,F,a,b,c,d,e,g,pap,rfl,rfl,rfl⟩
  obtain⟨⟨a1,a2,a3⟩,fit,tg⟩:=wj n1 n8 hu pap
  obtain⟨g1,g2,g3,g4⟩:=xX n1 n8 _ _ us hu fit tg
  have lh:(hdF n k us (sumF us ((k:Int) - 1) s F)).length=sumF us ((k:Int) - 1) s F:=gw a1
  have lt:(tlF n k us (sumF us ((k:Int) - 1) s F)).length=sumF us ((k:Int) - 1) s F:=gw a2
  have lall:(bW n k us (hdF n k us (sumF us ((k:Int) - 1) s F)) (tlF n k us (sumF us ((k:Int) - 1) s F))).length<=508:=by
   have lr:∀d:(Int->Bool)->Nat,(aZ n d).length<=254:=qT n1 n8
   have lp:(psN n).length<=254:=by have:=lr (Cut.di us);unfold aZ at this;rw[Á] at this;exact this
   unfold bW aF
   rw[È,Á,Á]
   omega
  obtain⟨v2,hv2,x2⟩:=E.slot 2 _ rfl
  obtain⟨t2,xs,rfl,ht2,rs⟩:=Rp.eO x2
  obtain⟨va,vm,rfl,ra,rm⟩:=rs.two
  have ea:=ra.str'
  subst ea
  obtain⟨m,ys,rfl,om,hm,rms⟩:=Rp.bR rm
  refine⟨_,_,own,_,(λkd d=>kd=.new/\∃A,d=.list (A.map pD)/\OneOk n k us A s F),E,?_,λkd d v1 H2 ⟨ek,A,ed,ok⟩ A2 r1=>?_⟩
  ·refine⟨bW n k us (hdF n k us (sumF us ((k:Int) - 1) s F)) (tlF n k us (sumF us ((k:Int) - 1) s F)),tlF n k us (sumF us ((k:Int) - 1) s F),hdF n k us (sumF us ((k:Int) - 1) s F),rfl,by omega,by omega,by omega,g1,?_⟩
   refine⟨Gp n k us (sumF us ((k:Int) - 1) s F),.inl rfl,by unfold Gp;omega,λt ht=>?_,λA hp hs=>⟨rfl,A,rfl,⟨pap,hp,hs⟩⟩⟩
   have:=g3 t ht
   exact⟨by omega,by omega⟩
  ·subst ek ed
   obtain⟨l,zs,rfl,ol,hl,rls⟩:=Rp.bR r1
   have ol:H1 l=none:=ol
   have ht3:=A2.tups t2 _ ht2
   refine⟨_,hv2,t2,_,_,_,rfl,rfl,SqT.of ht3,rfl,_,hv2,t2,_,_,_,rfl,rfl,SqT.of ht3,rfl,(by show 3<=sizeLine;decide),λp' hp'=>?_⟩
   have nm:l≠m:=λz=>by
    rw[z,hm] at ol
    cases ol
   have sm:Same H2 (upd H2 p' (.tup [.ref l,.str s,.ref m])):=λb o e=>by rw[aq (aB e hp')];exact e
   have A3:At (fK P1 PT) H own H1 (upd H2 p' (.tup [.ref l,.str s,.ref m])):=A2.go (Kp.of sm) ((fK P1 PT).mono H2 _ A2.pen λb o _ e=>sm b o e)
   refine kk _ _ _ (q A s F ok) (λb o e nb=>A3.kp b o (E.k0 b o e nb) nb) A3.pen (.tup au (.cons ((mU A2 (Kp.of sm) r1).mono (λb o=>A2.h0 o) (λ_ _ _ e=>e) λ_ _ e=>e) (.cons (.str s) (.cons (rm.mono (λb o=>o.1) (λb u o e=>A3.kp b u e o.2.1) A3.tups) .nil)))) ⟨p',l,m,.str s,rfl,au,nm⟩
end
def swp(t:Tie):Tie:=(t.2,t.1)
def Rk(us:List Tie)(l:List Int):inN (us.map swp) l=jl us l:=by
 unfold inN jl
 rw[List.filter_map,Á]
 congr 1
 refine List.filter_congr λt _=>?_
 show(!decide (t.2∈l)&&decide (t.1∈l))=(decide (t.1∈l)&&!decide (t.2∈l))
 exact Bool.and_comm _ _
def tlD(b:Bool)(us:List Tie):D:=match b with
 |false=>.tuple (us.map pD)
 |true=>.list (us.map pD)
def OJ(ds:List D)(P:D->Prop):Prop:=∃(b:Bool) (us:List Tie) (l:List Int),ds=[tlD b us,.list (l.map Â)]/\us.length<=100/\P (.int (inN us l:Nat))
def wH(us:List Tie):okD (.list (us.map pD))=true:=by
 have a1:=Bf us
 have a2:=sW us
 show(Ĉ (us.map pD)&&decide (Ġ (us.map pD)+1<=60))=true
 rw[a1,decide_eq_true (by omega)]
 rfl
def Kc:∀l m:List Int,ŭ (l.map Â) (m.map Â)=decide (l=m)
 |[],[]=>rfl
 |[],_::_=>rfl
 |_::_,[]=>rfl
 |x::l,y::m=>by
  rw[à,à]
  show(decide (x=y)&&ŭ (l.map Â) (m.map Â))=_
  rw[Kc l m,ġ,Û,decide_eq_true_iff,decide_eq_true_iff,decide_eq_true_iff,List.cons.injEq]
def U4(ds:List D)(P:D->Prop):Prop:=∃(n:Int) (us:List Tie) (fa:Int) (s:Str) (l:List Int),ds=[aD n us,.int fa,.str s,.list (l.map Â)]/\us.length<=100/\(s="in"\/s="out")/\P (.int (WO us fa s l))
def O2(ds:List D)(P:D->Prop):Prop:=ds=[]/\∀(n:Int) (us:List Tie),1<=n->n<=8->us.length<=40->bN n us->P (aD n us)
section
variable {P:Program}{w:World}{K:Ú}{mg:Str->Option Value}{base:Heap}{f:Addr}{fd:FuncData}{CN P1 PT:Addr}
def pW:FnScope ["_law_ties_here","_law_some"] ["_law_ties_here","_law_some"] (ao (top 59)):=zC
def tQ:(["_law_tie","_law_ties_here","_law_some"]:List Str).Nodup:=by decide +kernel
def yI(F:Fun K "_law_into" "_law_into" (top 59) f fd)(B:Ĵ mg):FnOk P w K mg base CX0 1 f fd ["_law_ties_here","_law_some"] (spD OJ):=by
 refine F.ok pW ĩ (λcdv A outer s H vs Q E hr h=>?_)
 have nd:=pW.nd
 refine⟨_,Ĝ (ý (Ē (Ŵ B.len (À (Wr.cB ["_law_tie"] rfl (Ĕ (Ë 0)) (λc=>(è (i:=0) tQ rfl zQ)) (λc=>(Wr.cI (Wr.wpt (Wr.gn (Wr.o7 hr.units (ö (Ë 0) Õ) (Ë 2)) (Wr.eF (Wr.dU hr.units (ö (Ë 0) Õ) (Ë 2))))))) (λc=>(Ë 0))) Å)))),aR h ?_⟩
 rintro ds P ⟨b,us,l,rfl,hl,q⟩
 have im:gb (.tuple (us.map pD))=true:=cX us
 cases b with
 |false =>
  refine⟨[.im (.tuple (us.map pD)),.sh (.list (l.map Â))],?_,?_⟩
  ·show [bw (.tuple (us.map pD)),bw (.list (l.map Â))]=_
   unfold bw
   rw[if_pos im]
   rfl
  refine sy us pD (iV l) pD .imm rfl (by omega) (λt ht A B hA hB=>⟨.int t.1,rfl,rfl,bK l,?_⟩) ?_
  ·show if (!((l.map Â).any λe=>í e (.int t.1)))=true then _ else _
   rw[Ļ]
   unfold iV at hA hB
   cases h1:decide (t.1∈l) with
   |true =>
    rw[h1] at hB
    exact aX (A:=True) (aX (A:=True) (hB rfl))
   |false =>
    rw[h1] at hA hB
    refine aM (B:=True) ⟨.int t.2,rfl,rfl,bK l,?_⟩
    show if ((l.map Â).any λe=>í e (.int t.2))=true then _ else _
    rw[Ļ]
    cases hb:decide (t.2∈l) with
    |true =>
     rw[hb] at hA
     exact aM (B:=True) ⟨rfl,hA rfl⟩
    |false =>
     rw[hb] at hB
     exact aX (A:=True) (hB rfl)
  ·refine⟨rfl,?_⟩
   show P (.int (((us.filter (iV l)).map pD).length:Nat))
   rw[Á]
   exact q
 |true =>
  refine⟨[.sh (.list (us.map pD)),.sh (.list (l.map Â))],rfl,?_⟩
  refine sy us pD (iV l) pD .imm rfl (by omega) (λt ht A B hA hB=>⟨.int t.1,rfl,rfl,bK l,?_⟩) ?_
  ·show if (!((l.map Â).any λe=>í e (.int t.1)))=true then _ else _
   rw[Ļ]
   unfold iV at hA hB
   cases h1:decide (t.1∈l) with
   |true =>
    rw[h1] at hB
    exact aX (A:=True) (aX (A:=True) (hB rfl))
   |false =>
    rw[h1] at hA hB
    refine aM (B:=True) ⟨.int t.2,rfl,rfl,bK l,?_⟩
    show if ((l.map Â).any λe=>í e (.int t.2))=true then _ else _
    rw[Ļ]
    cases hb:decide (t.2∈l) with
    |true =>
     rw[hb] at hA
     exact aM (B:=True) ⟨rfl,hA rfl⟩
    |false =>
     rw[hb] at hB
     exact aX (A:=True) (hB rfl)
  ·refine⟨rfl,?_⟩
   show P (.int (((us.filter (iV l)).map pD).length:Nat))
   rw[Á]
   exact q
def pU:FnScope ["_law_web_here","_law_falls","_law_side","_law_some","_law_ties_here"] ["_law_web_here","_law_falls","_law_side","_law_some"] (ao (top 60)):=zC
def lE:(["_law_a","_law_b","_law_web_here","_law_falls","_law_side","_law_some","_law_ties_here"]:List Str).Nodup:=by decide +kernel
def yH(F:Fun K "_law_need" "_law_need" (top 60) f fd)(B:Ĵ mg)(C__law_into:ø P w K mg base 1 "_law_into" ["_law_ties_here","_law_some"] (spD OJ)):FnOk P w K mg base CX0 2 f fd ["_law_web_here","_law_falls","_law_side","_law_some"] (spD U4):=by
 refine F.ok pU ĩ (λcdv A outer s H vs Q E hr h=>?_)
 have nd:=pU.nd
 refine⟨_,Ĝ (Ö (ñ none (i:=4) nd rfl zQ (ö (Ë 0) Õ))
  (Ö (Wr.cY (Wr.gq hr.units (Ë 2) Wr.dW) (ý (Wr.iy none ["_law_a","_law_b"] (i:=4) rfl nd rfl zQ (Ĕ (ö (Ë 0) Õ)) (λc=>(Wr.fW (n:=2) rfl (ĭ (è (i:=0) lE rfl zQ) (ĭ (è (i:=1) lE rfl zQ) Wr.dM)))) (λc=>ŀ) (λc=>(đ (À (Ë 1) (À (Ë 0) Å)))))) Ğ)
  (ý (Ē (Wr.j7 rfl B.max (À Õ (À (Ő (ğ (Ë 1) Õ) (Œ C__law_into hr (À (Ë 4) (À (Ë 3) Å)))) Å))))))),aR h ?_⟩
 rintro ds P ⟨n,us,fa,s,l,rfl,lu,hs,q⟩
 refine⟨[.im (aD n us),.im (.int fa),.im (.str s),.sh (.list (l.map Â)),.any],by show [bw (aD _ us),_,_,_,_]=_;rw[bL];rfl,?_⟩
 have ew:(if fa+1 - ((byS us s l:Nat):Int) > 0 then fa+1 - ((byS us s l:Nat):Int) else 0)=WO us fa s l:=by
  unfold WO nd1
  split <;> split <;> omega
 refine⟨_,rfl,fZ (λc=>?_) (λc=>?_)⟩
 ·have c:s=ç "out":=of_decide_eq_true c
  refine⟨_,rfl,?_⟩
  refine pH us pD (λt=>pD (swp t)) .imm rfl (by omega) (λt ht A B hA=>⟨rfl,aM (B:=B) ⟨zK,rfl,hA⟩⟩) ?_
  refine⟨true,us.map swp,l,by show [Ŀ (us.map λt=>pD (swp t)),_]=[Ŀ ((us.map swp).map pD),_];rw[õ];rfl,by rw[Á];exact lu,rfl,?_⟩
  have e:inN (us.map swp) l=byS us s l:=by
   unfold byS
   rw[Rk,c,if_neg (by decide +kernel)]
  rw[e]
  show P (.int (if fa+1 - ((byS us s l:Nat):Int) > 0 then fa+1 - ((byS us s l:Nat):Int) else 0))
  rw[ew]
  exact q
 ·have c:s≠ç "out":=λz=>c (decide_eq_true z)
  refine⟨false,us,l,rfl,lu,rfl,?_⟩
  have e:inN us l=byS us s l:=by
   unfold byS
   rcases hs with z|z
   ·rw[z,if_pos rfl]
   ·exact absurd z c
  rw[e]
  show P (.int (if fa+1 - ((byS us s l:Nat):Int) > 0 then fa+1 - ((byS us s l:Nat):Int) else 0))
  rw[ew]
  exact q
def pZ:FnScope ["_law_pen_here","_law_n","_law_order_here","_law_ties_here"] ["_law_pen_here"] (ao (top 55)):=zC
def tR:(["_law_k","_law_pen_here","_law_n","_law_order_here","_law_ties_here"]:List Str).Nodup:=by decide +kernel
def lG:(["_law_a","_law_b","_law_pen_here","_law_n","_law_order_here","_law_ties_here"]:List Str).Nodup:=by decide +kernel
def yJ(F:Fun K "_law_full" "_law_full" (top 55) f fd)(B:Ĵ mg)(C__law_draw:ø P w K mg base 1 "_law_draw" ["_law_pen_here","_law_many"] (spP CP jP))(C__law_order:ø P w K mg base 2 "_law_order" ["_law_pen_here","_law_n"] (spP CP wZ))(C__law_pair:ø P w K mg base 2 "_law_pair" ["_law_pen_here","_law_n"] (spP CP J0)):FnOk P w K mg base CX0 3 f fd ["_law_pen_here"] (spP CP O2):=by
 refine F.ok pZ dG (λcdv A outer s H vs Q E hr h=>?_)
 have nd:=pZ.nd
 refine⟨_,Ĝ (Ö (ñ none (i:=1) nd rfl zQ (ğ Õ (Wr.dcP C__law_draw hr (Ŗ 0) (À Õ Å))))
  (Ö (ñ none (i:=2) nd rfl zQ (Wr.dcP C__law_order hr (Ŗ 0) (À (Ë 1) Å)))
  (Ö (Wr.iy (some 0) ["_law_k"] (i:=3) rfl nd rfl zQ (Wr.aN B.range (À Õ Å)) (λc=>(è (i:=0) tR rfl zQ)) (λc=>ŀ) (λc=>(Wr.dcP C__law_pair hr (Ŗ 1) (À (Ő (Ë 2) Õ) Å))))
  (Ö (Wr.cY (Wr.gq hr.units (Wr.dcP C__law_draw hr (Ŗ 0) (À Õ Å)) Õ) (ý (Wr.xq (Ŗ 3) Õ (ö (Ě (À (đ (À (Ő (Ë 1) Õ) (À Õ Å))) (À (đ (À Õ (À (Ő (Ë 1) Õ) Å))) Å))) (Wr.dcP C__law_draw hr (Ŗ 0) (À Õ Å))))) Ğ)
  (ý (Ē (đ (À (Ë 1) (À (Wr.iM B.tuple (À (Wr.eG B.sorted (À (Wr.cB ["_law_a","_law_b"] rfl (Ĕ (Ë 3)) (λc=>(Wr.fW (n:=2) rfl (ĭ (è (i:=0) lG rfl zQ) (ĭ (è (i:=1) lG rfl zQ) Wr.dM)))) (λc=>ŀ) (λc=>(đ (À (ö (Ë 4) (Ë 0)) (À (ö (Ë 4) (Ë 1)) Å))))) Å)) Å)) Å))))))))),enterQ h ?_⟩
 rintro ds P ⟨rfl,q⟩
 refine⟨[.any,.any,.any],rfl,?_⟩
 refine⟨rfl,4,rfl,by decide,by decide,λr r0 r1=>⟨rfl,3+r,rfl,by omega,by omega,λo ho=>?_⟩⟩
 refine⟨⟨by decide,by decide⟩,zK,.imm,λi ys=>∃us:List Tie,ys=us.map pD/\us.length=i/\bN (3+r) us,⟨[],rfl,rfl,λt ht=>nomatch ht⟩,?_,?_⟩
 ·rintro i d ys hd ⟨us,rfl,hu,oku⟩
  exact aM (B:=True) ⟨rfl,3+r - 1,rfl,by omega,by omega,λa b a0 a1 b0 b1 _=>⟨rfl,us++[(a,b)],by rw[Ù];rfl,by rw[È,Ü,hu],oku.app (bN.one ⟨⟨a0,by omega⟩,b0,by omega⟩)⟩⟩
 have fin:∀us:List Tie,us.length=40->bN (3+r) us->Bv (vh (bQ (tV 1) (bQ (tCl Dv (bQ (tCl wU (bQ (dLC [ç "_law_a",ç "_law_b"].length (iSq (tV 3)) (gTp 2 (lY (gNm 0) (lY (gNm 1) Dt))) (λx P=>P true) (vh (bQ (t2 gIx (tV 4) (tV 0)) (bQ (t2 gIx (tV 4) (tV 1)) je)))) je)) je)) je))) { nx:=λ_=>P .none,rt:=P } [.pen CP,.im (.int (3+r)),.sn (.list (o.map Â)),.dw 0 (.list (us.map pD))]:=λus hu ok=>by
  have lm:(us.map pD).length=us.length:=Á ..
  refine⟨by omega,.imm,λi ys=>∃vs:List Tie,ys=vs.map pD/\vs.length=i/\bN (3+r) vs,⟨[],rfl,rfl,λt ht=>nomatch ht⟩,?_,?_⟩
  ·rintro i d ys hd ⟨vs,rfl,hv,okv⟩
   obtain⟨t,ht,rfl⟩:=cC hd
   obtain⟨⟨a0,a1⟩,b0,b1⟩:=ok t (Î ht)
   obtain⟨x,ex,x0,x1⟩:=ho.at a0 a1
   obtain⟨y,ey,y0,y1⟩:=ho.at b0 b1
   exact⟨rfl,aM (B:=True) ⟨.int x,ex,.int y,ey,zK,rfl,vs++[(x,y)],by rw[Ù];rfl,by rw[È,Ü,hv],okv.app (bN.one ⟨⟨x0,x1⟩,y0,y1⟩)⟩⟩
  rintro ys ⟨vs,rfl,hv,okv⟩
  refine⟨vs,.inl rfl,by omega,λt ht=>⟨(okv t ht).2.1,by have:=(okv t ht).2.2;omega⟩,λus' hp _=>⟨zK,?_,q (3+r) us' (by omega) (by omega) (by rw[hp.length_eq];omega) λt ht=>okv t (hp.mem_iff.mp ht)⟩⟩
  have e:=d7 (3+r) us'
  show(norm _ (aD (3+r) us')).le .n0=true
  rw[dD e]
  rfl
 rintro ys ⟨us,rfl,hu,oku⟩
 have hu:us.length=40:=hu
 refine⟨rfl,2,rfl,by decide,by decide,λc c0 c1=>fZ (λ_=>?_) (λ_=>fin us hu oku)⟩
 refine⟨zK,zK,zK,?_⟩
 refine⟨rfl,2,rfl,by decide,by decide,λe e0 e1=>?_⟩
 have put:∀t:Tie,(0<=t.1/\t.1<3+r)/\0<=t.2/\t.2<3+r->bN (3+r) (us.set 0 t):=λt ht x hx=>by
  rcases List.mem_or_eq_of_mem_set hx with h|rfl
  ·exact oku x h
  ·exact ht
 have st:∀t:Tie,(us.map pD).set 0 (pD t)=(us.set 0 t).map pD:=λt=>by rw[List.map_set]
 have h0:ixN (us.map pD).length 0=some 0:=by
  rw[Á,hu]
  rfl
 rcases(by omega:e=0\/e=1) with rfl|rfl
 ·refine⟨pD (3+r - 1,0),rfl,0,us.map pD,rfl,rfl,0,h0,?_⟩
  rw[st]
  exact fin _ (by rw[List.length_set];exact hu) (put _ (by show(0<=3+r - 1/\3+r - 1<3+r)/\(0:Int)<=0/\(0:Int)<3+r;omega))
 ·refine⟨pD (0,3+r - 1),rfl,0,us.map pD,rfl,rfl,0,h0,?_⟩
  rw[st]
  exact fin _ (by rw[List.length_set];exact hu) (put _ (by show((0:Int)<=0/\(0:Int)<3+r)/\0<=3+r - 1/\3+r - 1<3+r;omega))
end
def GdN(n:Nat)(A:List Tie):Prop:=∀t∈A,(0<=t.1/\t.1<(n:Int))/\(0<=t.2/\t.2<(n:Int))/\t.1≠t.2
def Np(A:List Tie):Prop:=A.Pairwise λa b=>aJ a<=aJ b
def Nq(n:Int)(F:List (List Int)):Prop:=(∀l∈F,Proper n l)/\F.flatten.Nodup
def GdN.rg{n:Nat}{A:List Tie}(h:GdN n A):RgT n A:=λt ht=>by have:=h t ht;exact⟨⟨by omega,by omega⟩,by omega,by omega⟩
def GdN.nice{n:Nat}{A:List Tie}(h:GdN n A)(n8:n<=8):∀t∈A,lZ t:=λt ht=>by have:=h t ht;exact⟨by omega,by omega⟩
def U5(ds:List D)(P:D->Prop):Prop:=∃(n:Nat) (t:Tie),ds=[.int ((n:Nat):Int),pD t]/\((0<=t.1/\t.1<(n:Int))/\(0<=t.2/\t.2<(n:Int))/\t.1≠t.2)/\P (.bool true)
def U7(ds:List D)(P:D->Prop):Prop:=∃(n:Nat) (us A:List Tie),ds=[aD ((n:Nat):Int) us,.list (A.map pD)]/\n<=8/\Srt A/\GdN n A/\∀b:Bool,(b=true↔Np A)->P (.bool b)
def UW(ds:List D)(P:D->Prop):Prop:=∃(n:Nat) (us vs:List Tie),ds=[aD ((n:Nat):Int) us,.list (vs.map pD)]/\us.length+vs.length<64/\n<=16/\RgT n us/\RgT n vs/\∀ws:List Tie,ws.Perm (us++vs)->P (aD ((n:Nat):Int) ws)
def Oz(ds:List D)(P:D->Prop):Prop:=∃s:Str,ds=[.str s]/\(s="in"\/s="out")/\P (.bool true)
def U3(ds:List D)(P:D->Prop):Prop:=∃(n:Nat) (us:List Tie) (fa:Int),ds=[aD ((n:Nat):Int) us,.int fa]/\1<=n/\n<=8/\us.length<=100/\(∀X,Cut.Prp n X->fa<((Cut.di us X:Nat):Int))/\P (.bool true)
structure DueO(n:Nat)(us A:List Tie)(fa:Int)(s:Str)(F:List (List Int)):Prop where
 side:s="in"\/s="out"
 gd:GdN n A
 rise:Np A
 fam:Nq ((n:Nat):Int) F
 few:((A.length:Nat):Int)<=(F.map (WO us fa s)).sum
 st:∀X,Cut.Prp n X->fa<((Cut.di (us++A) X:Nat):Int)
def J2(ds:List D)(P:D->Prop):Prop:=∃(n:Nat) (us A:List Tie) (fa:Int) (s:Str) (F:List (List Int)),ds=[aD ((n:Nat):Int) us,.int fa,.list (A.map pD),.str s,.list (F.map iD)]/\1<=n/\n<=8/\0<=fa/\fa<=10/\us.length+A.length<64/\RgT n us/\F.length<=60/\DueO n us A fa s F/\P (.bool true)
section
variable {P:Program}{w:World}{K:Ú}{mg:Str->Option Value}{base:Heap}{f:Addr}{fd:FuncData}{CN P1 PT:Addr}
def uy:FnScope ["n","thing"] ["n","thing"] (ao (top 6)):=zC
def Fj(F:Fun K "is_tie" "is_tie" (top 6) f fd)(B:Ĵ mg)(C_is_below:ø P w K mg base 2 "is_below" ["limit","thing"] (spD Bo)):FnOk P w K mg base CX0 3 f fd ["n","thing"] (spD U5):=by
 refine F.ok uy ĩ (λcdv A outer s H vs Q E hr h=>?_)
 have nd:=uy.nd
 refine⟨_,Ĝ (Ö (Wr.cY (Wr.wpt (Wr.gC (Wr.bJ (Wr.bC (Wr.cG kit_tuple B.isinstance (Ë 1) (Wr.wty rfl B.tuple boot_tuple)))) (Wr.eX (Wr.vU hr.units (Ŵ B.len (À (Ë 1) Å)) Õ)))) (ý (Ē Wr.jh)) Ğ)
  (ý (Ē (Wr.fO (Œ C_is_below hr (À (Ë 0) (À (ö (Ë 1) Õ) Å))) (Wr.fO (Œ C_is_below hr (À (Ë 0) (À (ö (Ë 1) Õ) Å))) (Wr.gD (Wr.vW hr.units (ö (Ë 1) Õ) (ö (Ë 1) Õ)))))))),aR h ?_⟩
 rintro ds P ⟨n,t,rfl,ht,q⟩
 refine⟨[.im (.int ((n:Nat):Int)),.im (pD t)],rfl,?_⟩
 refine aX (A:=True) (aX (A:=True) ⟨.int t.1,rfl,_,_,rfl,?_⟩)
 have bl:∀x:Int,0<=x->x<(n:Int)->cR ((n:Nat):Int) (.int x)=true:=λx h0 h1=>by
  show(decide _)=true
  exact decide_eq_true ⟨h0,h1⟩
 show if cR ((n:Nat):Int) (.int t.1)=true then _ else _
 rw[bl _ (by omega) (by omega)]
 refine aM (B:=True) ⟨.int t.2,rfl,_,_,rfl,?_⟩
 show if cR ((n:Nat):Int) (.int t.2)=true then _ else _
 rw[bl _ (by omega) (by omega)]
 refine aM (B:=True) ⟨.int t.1,rfl,.int t.2,rfl,rfl,?_⟩
 show P (.bool (!decide (t.1=t.2)))
 rw[decide_eq_false (by omega)]
 exact q
def mq:FnScope ["web","added"] ["web","added"] (ao (top 7)):=zC
def wu(F:Fun K "with_ties" "with_ties" (top 7) f fd)(B:Ĵ mg):FnOk P w K mg base CX0 1 f fd ["web","added"] (spD UW):=by
 refine F.ok mq ĩ (λcdv A outer s H vs Q E hr h=>?_)
 have nd:=mq.nd
 refine⟨_,Ĝ (ý (Ē (đ (À (ö (Ë 0) Õ) (À (Wr.iM B.tuple (À (Wr.eG B.sorted (À (ğ (ö (Ë 0) Õ) (Wr.iM B.tuple (À (Ë 1) Å))) Å)) Å)) Å))))),aR h ?_⟩
 rintro ds P ⟨n,us,vs,rfl,lu,n16,oku,okv,q⟩
 refine⟨[.im (aD ((n:Nat):Int) us),.sh (.list (vs.map pD))],?_,?_⟩
 ·show [bw (aD _ us),bw (.list (vs.map pD))]=_
  rw[bL]
  rfl
 have lm:∀xs:List Tie,(xs.map pD).length=xs.length:=λxs=>Á ..
 have ok:RgT n (us++vs):=λt ht=>(å.mp ht).elim (oku t) (okv t)
 refine⟨.int ((n:Nat):Int),rfl,.tuple (us.map pD),rfl,by rw[lm,lm];omega,us++vs,.inr ?_,by rw[È];omega,λt ht=>?_,λws hp hs=>⟨zK,?_,q ws hp⟩⟩
 ·rw[Ù]
 ·have:=ok t ht
  exact⟨by omega,by omega⟩
 ·have e:=d7 ((n:Nat):Int) ws
  show(norm _ (aD ((n:Nat):Int) ws)).le .n0=true
  rw[dD e]
  rfl
def mL:FnScope ["web","thing"] ["web","thing"] (ao (top 25)):=zC
def rR:(["tie","web","thing"]:List Str).Nodup:=by decide +kernel
def wF(F:Fun K "are_leads" "are_leads" (top 25) f fd)(B:Ĵ mg)(C_is_tie:ø P w K mg base 3 "is_tie" ["n","thing"] (spD U5)):FnOk P w K mg base CX0 4 f fd ["web","thing"] (spD U7):=by
 refine F.ok mL ĩ (λcdv A outer s H vs Q E hr h=>?_)
 have nd:=mL.nd
 refine⟨_,Ĝ (Ö (Wr.cY (Wr.wpt (Wr.gC (Wr.bJ (Wr.bC (Wr.cG sE B.isinstance (Ë 1) (Wr.wty rfl B.list boot_list)))) (Wr.eX (Wr.bJ (Wr.bC (Wr.lR rfl B.all Dl.boot_all (À (Wr.cB ["tie"] rfl (Ĕ (Ë 1)) (λc=>(è (i:=0) rR rfl zQ)) (λc=>ŀ) (λc=>(Œ C_is_tie hr (À (ö (Ë 1) Õ) (À (Ë 0) Å))))) Å))))))) (ý (Ē Wr.jh)) Ğ)
  (ý (Ē (Wr.rC hr.units (Wr.qZ B.sorted (À (Ë 1) Å)) (Ë 1))))),aR h ?_⟩
 rintro ds P ⟨n,us,A,rfl,n8,lA,gA,q⟩
 refine⟨[.im (aD ((n:Nat):Int) us),.sh (.list (A.map pD))],by show [bw (aD _ us),_]=_;rw[bL];rfl,?_⟩
 have lA':=lA.lt
 refine aX (A:=True) ?_
 refine pH A pD (λ_=>.bool true) .imm rfl (by omega) (λt ht A' B hA=>aM (B:=B) ⟨_,rfl,n,t,rfl,gA t ht,rfl,hA⟩) ?_
 refine⟨A.map λ_=>true,by rw[õ];rfl,?_⟩
 have al:(A.map λ_=>true).all id=true:=ę.mpr λx hx=>by
  obtain⟨_,_,rfl⟩:=ê.mp hx
  rfl
 show if (!(A.map λ_=>true).all id)=true then _ else _
 rw[al]
 refine aX (A:=True) ⟨A,.inl rfl,lA,gA.nice n8,λws hp hs=>?_⟩
 refine⟨wH ws,wH A,rfl,?_⟩
 show P (.bool (í (.list (ws.map pD)) (.list (A.map pD))))
 rw[DP]
 refine q _ ⟨λh=>?_,λh=>decide_eq_true (ux (gA.nice n8) hp.symm h hs).symm⟩
 have e:ws=A:=of_decide_eq_true h
 rw[←e]
 exact hs
def qQ:FnScope ["thing"] ["thing"] (ao (top 34)):=zC
def Aq(F:Fun K "is_side" "is_side" (top 34) f fd)(B:Ĵ mg)(m_str:mg "str"=none):FnOk P w K mg base CX0 1 f fd ["thing"] (spD Oz):=by
 refine F.ok qQ ĩ (λcdv A outer s H vs Q E hr h=>?_)
 have nd:=qQ.nd
 refine⟨_,Ĝ (ý (Ē (Wr.fO (Wr.cG MP B.isinstance (Ë 0) (Wr.wty rfl m_str Dl.boot_str)) (Wr.gD (Wr.yC hr.units (Ë 0) (đ (À Wr.dW (À Wr.dW Å)))))))),aR h ?_⟩
 rintro ds P ⟨s,rfl,hs,q⟩
 refine⟨[.im (.str s)],rfl,?_⟩
 rcases hs with rfl|rfl
 ·have e:([PyData.str "in",PyData.str "out"].any λe=>í e (.str "in"))=true:=by decide +kernel
  refine aM (B:=True) ⟨zK,by decide +kernel,by decide +kernel,rfl,?_⟩
  show P (.bool ([PyData.str "in",PyData.str "out"].any λe=>í e (.str "in")))
  rw[e]
  exact q
 ·have e:([PyData.str "in",PyData.str "out"].any λe=>í e (.str "out"))=true:=by decide +kernel
  refine aM (B:=True) ⟨zK,by decide +kernel,by decide +kernel,rfl,?_⟩
  show P (.bool ([PyData.str "in",PyData.str "out"].any λe=>í e (.str "out")))
  rw[e]
  exact q
def lg:FnScope ["one","falls","some"] ["one","falls"] (ao (top 33)):=zC
def tO(F:Fun K "one_stands" "one_stands" (top 33) f fd)(B:Ĵ mg)(C_proper_sets:ø P w K mg base 2 "proper_sets" ["n"] (spD fPS))(C_one_need:ø P w K mg base 9 "one_need" ["one","falls","side","some"] (spD fON)):FnOk P w K mg base CX0 10 f fd ["one","falls"] (spD U3):=by
 refine F.ok lg ĩ (λcdv A outer s H vs Q E hr h=>?_)
 have nd:=lg.nd
 refine⟨_,Ĝ (Ö (ŵ î rfl (Ĕ (Œ C_proper_sets hr (À (ö (Ë 0) Õ) Å))) (è (i:=2) nd rfl zQ) (Ö (Wr.cY (Wr.iK (Œ C_one_need hr (À (Ë 0) (À (Ë 1) (À Wr.dW (À (Ë 2) Å))))) Õ) (ý (Ē Wr.jh)) Ğ) (Ă [2] Ğ)))
  (Ă [2] (ý (Ē Wr.jh)))),aR h ?_⟩
 rintro ds P ⟨n,us,fa,rfl,n1,n8,lu,st,q⟩
 refine⟨[.im (aD ((n:Nat):Int) us),.im (.int fa),.any],by show [bw (aD _ us),_,_]=_;rw[bL];rfl,?_⟩
 refine⟨.int ((n:Nat):Int),rfl,n,rfl,n1,n8,?_⟩
 refine⟨rfl,λ(i:Nat) ρ=>∃s2,ρ=[.im (aD ((n:Nat):Int) us),.im (.int fa),s2],⟨_,rfl⟩,?_,?_⟩
 ·rintro i d ρ hd ⟨s2,rfl⟩
  obtain⟨l,hl,rfl⟩:=cC hd
  have ml:=Î hl
  have hp:=dX n1 n8 ml
  have hs:=st _ (Ab hp)
  rw[Ot] at hs
  refine⟨n,us,fa,"in",l,rfl,hp,lu,?_⟩
  have e0:nd1 fa (byS us "in" l)=0:=by
   unfold nd1 byS
   rw[if_pos rfl]
   split <;> omega
  rw[e0]
  exact aX (A:=True) ⟨_,rfl⟩
 ·rintro ρ ⟨s2,rfl⟩
  exact⟨rfl,q⟩
def ju:FnScope ["one","falls","added","side","family"] ["one","falls","added","side","family"] (ao (top 35)):=zC
def rK(F:Fun K "one_lets_by" "one_lets_by" (top 35) f fd)(B:Ĵ mg)(C_is_family:ø P w K mg base 5 "is_family" ["n","thing"] (spD Ry))(C_is_side:ø P w K mg base 1 "is_side" ["thing"] (spD Oz))(C_are_leads:ø P w K mg base 4 "are_leads" ["web","thing"] (spD U7))(C_one_stands:ø P w K mg base 10 "one_stands" ["one","falls"] (spD U3))(C_with_ties:ø P w K mg base 1 "with_ties" ["web","added"] (spD UW))(C_one_bound:ø P w K mg base 10 "one_bound" ["one","falls","side","family"] (spD fOB)):FnOk P w K mg base CX0 11 f fd ["one","falls","added","side","family"] (spD J2):=by
 refine F.ok ju ĩ (λcdv A outer s H vs Q E hr h=>?_)
 have nd:=ju.nd
 refine⟨_,Ĝ (Ö (Wr.cY (Wr.wpt (Wr.gC (Wr.bJ (Wr.bC (Œ C_are_leads hr (À (Ë 0) (À (Ë 2) Å))))) (Wr.gC (Wr.bJ (Wr.bC (Œ C_is_side hr (À (Ë 3) Å)))) (Wr.eX (Wr.bJ (Wr.bC (Œ C_is_family hr (À (ö (Ë 0) Õ) (À (Ë 4) Å))))))))) (ý (Ē Wr.jh)) Ğ)
  (ý (Ē (Wr.fO (Wr.Ig (Ŵ B.len (À (Ë 2) Å)) (Œ C_one_bound hr (À (Ë 0) (À (Ë 1) (À (Ë 3) (À (Ë 4) Å)))))) (Wr.gD (Œ C_one_stands hr (À (Œ C_with_ties hr (À (Ë 0) (À (Ë 2) Å))) (À (Ë 1) Å)))))))),aR h ?_⟩
 rintro ds P ⟨n,us,A,fa,s,F,rfl,n1,n8,f0,f1,lw,hu,lF,⟨hs,gA,ri,fk,few,st⟩,q⟩
 refine⟨[.im (aD ((n:Nat):Int) us),.im (.int fa),.sh (.list (A.map pD)),.im (.str s),.sh (.list (F.map iD))],by show [bw (aD _ us),_,_,_,_]=_;rw[bL];rfl,?_⟩
 have pl:∀l∈F,l.length<=16:=λl hl=>by have:=(fk.1 l hl).few;have:=(fk.1 l hl).one;omega
 refine⟨n,us,A,rfl,n8,.inl (by omega),gA,λb hb=>?_⟩
 obtain rfl:b=true:=hb.mpr ri
 refine aX (A:=True) ⟨s,rfl,hs,aX (A:=True) ?_⟩
 refine⟨.int ((n:Nat):Int),rfl,((n:Nat):Int),.list (F.map iD),rfl,λes e=>?_,by omega,?_⟩
 ·cases e
  refine⟨by rw[Á];exact lF,λe he=>?_⟩
  obtain⟨l,hl,rfl⟩:=ê.mp he
  intro es e2
  cases e2
  rw[Á]
  have:=pl l hl
  omega
 rw[Dy fk.1 fk.2]
 refine aX (A:=True) ⟨((n:Nat):Int),us,fa,s,F,rfl,by omega,by omega,f0,f1,lF,fk.1,fk.2,?_⟩
 show if decide ((((A.map pD).length:Nat):Int)<=(F.map (WO us fa s)).sum)=true then _ else _
 rw[Á,decide_eq_true few]
 refine aM (B:=True) ⟨n,us,A,rfl,by omega,by omega,hu,gA.rg,λws hp=>⟨n,ws,fa,rfl,n1,n8,by rw[hp.length_eq,È];omega,λX hX=>?_,rfl,q⟩⟩
 rw[oh hp]
 exact st X hX
end
structure Hps(n:Nat)(H:List (List Int)):Prop where
 two:2<=H.length
 five:H.length<=5
 size:∀h∈H,1<=h.length/\h.length<=2
 flat:IsOrd n H.flatten
 n8:n<=8
def J5(ds:List D)(P:D->Prop):Prop:=ds=[]/\∀(n:Nat) (H:List (List Int)),Hps n H->P (.list (H.map iD))
def U0(ds:List D)(P:D->Prop):Prop:=∃l:List Int,ds=[.list (l.map Â)]/\1<=l.length/\l.length<=100/\∀x∈l,P (.int x)
def Kq{α:Type}(l:List α){m:Int}(h0:0<=m)(h1:m<=l.length):dg l (some m) none=l.drop m.toNat:=by
 unfold dg
 have e1:HT.sIx l.length 0 (some m)=m.toNat:=by
  have ek:m=((m.toNat:Nat):Int):=by omega
  rw[ek,HT.mO]
  omega
 have e2:HT.sIx l.length l.length none=l.length:=rfl
 rw[e1,e2]
 exact ū (by rw[Ā];exact Ì _)
def R3{l:List Int}{r:Int}(h0:0<=r)(h1:r<((l.length:Nat):Int)):∃x∈l,atI (l.map Â) r=some (.int x):=by
 have hk:r.toNat<l.length:=by omega
 have ek:r=((r.toNat:Nat):Int):=by omega
 have z:atI (l.map Â) ((r.toNat:Nat):Int)=some (.int l[r.toNat]):=dN (by rw[ß,Ç hk];rfl)
 rw[←ek] at z
 exact⟨_,ģ hk,z⟩
section
variable {P:Program}{w:World}{K:Ú}{mg:Str->Option Value}{base:Heap}{f:Addr}{fd:FuncData}{CN P1 PT:Addr}
def qO:FnScope ["_law_pen_here","_law_some"] ["_law_pen_here","_law_some"] (ao (top 57)):=zC
def Am(F:Fun K "_law_one" "_law_one" (top 57) f fd)(B:Ĵ mg)(C__law_draw:ø P w K mg base 1 "_law_draw" ["_law_pen_here","_law_many"] (spP CP jP)):FnOk P w K mg base CX0 2 f fd ["_law_pen_here","_law_some"] (spP CP U0):=by
 refine F.ok qO dG (λcdv A outer s H vs Q E hr h=>?_)
 have nd:=qO.nd
 refine⟨_,Ĝ (ý (Ē (ö (Ë 1) (Wr.dcP C__law_draw hr (Ŗ 0) (À (Ŵ B.len (À (Ë 1) Å)) Å))))),enterQ h ?_⟩
 rintro ds P ⟨l,rfl,l1,l2,q⟩
 refine⟨[.sh (.list (l.map Â))],rfl,?_⟩
 refine⟨rfl,((l.map Â).length:Int),rfl,by rw[Á];omega,by rw[Á];omega,λr r0 r1=>?_⟩
 rw[Á] at r1
 obtain⟨x,hx,ex⟩:=R3 r0 r1
 exact⟨.int x,ex,rfl,q x hx⟩
def mJ:FnScope ["_law_pen_here","_law_many","_law_room","_law_sizes","_law_k","_law_more","_law_order_here","_law_found","_law_size"] ["_law_pen_here"] (ao (top 56)):=zC
def wC(F:Fun K "_law_heaps" "_law_heaps" (top 56) f fd)(B:Ĵ mg)(m_sum:mg "sum"=none)(C__law_draw:ø P w K mg base 1 "_law_draw" ["_law_pen_here","_law_many"] (spP CP jP))(C__law_order:ø P w K mg base 2 "_law_order" ["_law_pen_here","_law_n"] (spP CP wZ)):FnOk P w K mg base CX0 3 f fd ["_law_pen_here"] (spP CP J5):=by
 refine F.ok mJ dG (λcdv A outer s H vs Q E hr h=>?_)
 have nd:=mJ.nd
 refine⟨_,Ĝ (Ö (ñ none (i:=1) nd rfl zQ (ğ Õ (Wr.dcP C__law_draw hr (Ŗ 0) (À Õ Å))))
  (Ö (ñ none (i:=2) nd rfl zQ (Ő Õ (Ë 1)))
  (Ö (ñ (some 0) (i:=3) nd rfl zQ (Ě Å))
  (Ö (ŵ î rfl (Wr.aN B.range (À (Ë 1) Å)) (è (i:=4) nd rfl zQ) (Ö (ñ none (i:=5) nd rfl zQ (Wr.nu rfl B.min (À (Ë 2) (À (Wr.v7 B.int boot_int (À (Wr.rC hr.units (Wr.dcP C__law_draw hr (Ŗ 0) (À Õ Å)) Õ) Å)) Å))))
  (Ö (ñ none (i:=2) nd rfl zQ (Ő (Ë 2) (Ë 5)))
  (Ö (Wr.cZ (Ŗ 3) (À (ğ Õ (Ë 5)) Å)) (Ă [4,5] Ğ)))))
  (Ă [2,4,5] (Wr.sU 3 (Ö (ñ none (i:=6) nd rfl zQ (Wr.dcP C__law_order hr (Ŗ 0) (À (Wr.nq rfl m_sum (À (Ë 3) Å)) Å)))
  (Ö (ñ (some 1) (i:=7) nd rfl zQ (Ě Å))
  (Ö (ŵ î rfl (Ĕ (Ë 3)) (è (i:=8) nd rfl zQ) (Ö (Wr.cZ (Ŗ 7) (À (Wr.uE (Ë 6) Wr.iY (Wr.dJ (Ë 8))) Å))
  (Ö (ñ none (i:=6) nd rfl zQ (Wr.uE (Ë 6) (Wr.dJ (Ë 8)) Wr.iY)) (Ă [8] Ğ))))
  (Ă [6,8] (ý (Ē (Ë 7))))))))))))),enterQ h ?_⟩
 rintro ds P ⟨rfl,q⟩
 refine⟨[.any,.any,.any,.any,.any,.any,.any,.any],rfl,?_⟩
 refine⟨rfl,4,rfl,by decide,by decide,λr r0 r1=>?_⟩
 refine⟨by decide,⟨by omega,by omega⟩,rfl,λ(i:Nat) ρ=>∃(sz:List Int) (room:Int),ρ=[.pen CP,.im (.int (2+r)),.im (.int room),.dw 0 (.list (sz.map Â)),.any,.any,.any,.any,.any]/\sz.length=i/\(∀x∈sz,x=1\/x=2)/\0<=room/\sz.sum+room=((i:Nat):Int)+(6 - r),⟨[],8 - (2+r),rfl,rfl,λx hx=>(nomatch hx),by omega,by show(0:Int)+_=_;omega⟩,?_,?_⟩
 ·rintro i d ρ hd ⟨sz,room,rfl,lz,az,h0,hs⟩
  obtain⟨hi,rfl⟩:=š hd
  refine⟨rfl,3,rfl,by decide,by decide,λc c0 c1=>?_⟩
  obtain⟨m,hm,m01⟩:∃m:Int,(if (if decide (c=0)=true then (1:Int) else 0)<room then (if decide (c=0)=true then (1:Int) else 0) else room)=m/\(m=0\/m=1)/\m<=room:=by
   refine⟨_,rfl,?_⟩
   split <;> split <;> omega
  have l9:(qg 0 (2+r).toNat).length<=5:=by rw[Ł];omega
  refine⟨rfl,by rw[Á];omega,sz++[1+m],room - m,?_,by rw[È,lz];rfl,λx hx=>?_,by omega,?_⟩
  ·show [ż CP,.im (.int (2+r)),.im (.int (room - (if (if decide (c=0)=true then (1:Int) else 0)<room then (if decide (c=0)=true then (1:Int) else 0) else room))),.dw 0 (.list (sz.map Â++[.int (1+(if (if decide (c=0)=true then (1:Int) else 0)<room then (if decide (c=0)=true then (1:Int) else 0) else room))])),.any,.any,.any,.any,.any]=_
   rw[hm,Ù]
   rfl
  ·rcases å.mp hx with h|h
   ·exact az x h
   ·have:=Ô.mp h
    omega
  ·rw[List.sum_append,ò,List.sum_nil]
   omega
 ·rintro ρ ⟨sz,room,rfl,lz,az,h0,hs⟩
  rw[Ł] at lz hs
  have lz':((sz.length:Nat):Int)=2+r:=by omega
  have sp:∀l:List Int,(∀x∈l,x=1\/x=2)->((l.length:Nat):Int)<=l.sum/\l.sum<=2 * ((l.length:Nat):Int):=λl=>by
   induction l with
   |nil=>exact λ_=>⟨by simp,by simp⟩
   |cons a l ih =>
    intro h
    have:=ih λx hx=>h x (Ã _ hx)
    have:=h a Æ
    rw[ò,ã]
    omega
  have:=sp sz az
  refine⟨rfl,rfl,sz,rfl,by omega,λx hx=>by have:=az x hx;omega,sz.sum,rfl,by omega,by omega,λo ho=>?_⟩
  have e67:∀a b c d:Int,True:=λ_ _ _ _=>trivial
  show Bu _ _ _ [.pen CP,.im (.int (2+r)),.any,.sn (.list (sz.map Â)),.any,.any,.sn (.list (o.map Â)),.any,.any]
  refine⟨by decide,rfl,λ(i:Nat) ρ=>∃(H:List (List Int)) (o':List Int),ρ=[.pen CP,.im (.int (2+r)),.any,.sn (.list (sz.map Â)),.any,.any,.sn (.list (o'.map Â)),.dw 1 (.list (H.map iD)),.any]/\o=H.flatten++o'/\H.length=i/\(∀h∈H,1<=h.length/\h.length<=2)/\((o'.length:Nat):Int)=(sz.drop i).sum,⟨[],o,rfl,rfl,rfl,λh hh=>(nomatch hh),by rw[List.drop_zero];exact ho.len⟩,?_,?_⟩
  ·rintro i d ρ hd ⟨H,o',rfl,eo,lH,sH,lo⟩
   obtain⟨x,hx,rfl⟩:=cC hd
   have x12:=az x (Î hx)
   obtain⟨hi,hx'⟩:=Ê.mp hx
   have ed:sz.drop i=x::sz.drop (i+1):=by rw[←hx'];exact ŕ hi
   have nn:=sp (sz.drop (i+1)) λy hy=>az y (List.mem_of_mem_drop hy)
   rw[ed,ò] at lo
   have lm:∀l:List Int,(l.map Â).length=l.length:=λl=>Á ..
   have ec1:dg (o'.map Â) none (some x)=(o'.take x.toNat).map Â:=by
    rw[FT _ (by omega) (by rw[lm];omega),List.map_take]
   have ec2:dg (o'.map Â) (some x) none=(o'.drop x.toNat).map Â:=by
    rw[Kq _ (by omega) (by rw[lm];omega),ű]
   refine .inl ⟨by rw[ec1];exact cO _,rfl,by rw[Á];omega,.inl ⟨by rw[ec2];exact cO _,H++[o'.take x.toNat],o'.drop x.toNat,?_,?_,by rw[È,lH];rfl,λh hh=>?_,?_⟩⟩
   ·show [ż CP,.im (.int (2+r)),.any,.sn (.list (sz.map Â)),.any,.any,.sn (.list (dg (o'.map Â) (some x) none)),.dw 1 (.list (H.map iD++[.list (dg (o'.map Â) none (some x))])),.any]=_
    rw[ec1,ec2,Ù]
    rfl
   ·rw[List.flatten_append,List.flatten_singleton,Ĳ,ų]
    exact eo
   ·rcases å.mp hh with z|z
    ·exact sH h z
    ·rw[Ô.mp z,Ģ]
     omega
   ·rw[Ā]
    omega
  ·rintro ρ ⟨H,o',rfl,eo,lH,sH,lo⟩
   rw[Á,List.drop_length] at lo
   rw[Á] at lH
   have lo:((o'.length:Nat):Int)=0:=lo
   obtain rfl:o'=[]:=List.eq_nil_of_length_eq_zero (by omega)
   rw[ð] at eo
   subst eo
   exact⟨rfl,q sz.sum.toNat H ⟨by omega,by omega,sH,by rw[show((sz.sum.toNat:Nat):Int)=sz.sum by omega];exact ho,by omega⟩⟩
end
def pr1(k:Nat)(h:List Int):List Tie:=match h with
 |[a,b]=>(É k [(a,b),(b,a)]).flatten
 |_=>[]
def prs(k:Nat)(H:List (List Int)):List Tie:=H.flatMap (pr1 k)
def pvN(m j:Nat):Nat:=if j=0 then m - 1 else j - 1
def Edg(H:List (List Int))(j:Nat)(t:Tie):Prop:=j<H.length/\∃a b,H[pvN H.length j]?=some a/\H[j]?=some b/\t.1∈a/\t.2∈b
def Rng(k:Nat)(H:List (List Int))(us gs:List Tie)(L:Nat)(c:Nat->Nat):Prop :=
 (∃R:List (Nat×Tie),(us++gs).Perm (prs k H++R.map (·.2))/\R.length=L/\(∀x∈R,Edg H x.1 x.2)/\∀j,R.countP (λx=>decide (x.1=j))=c j)/\∀t∈gs,∃j,Edg H j t
def Rng.one{k:Nat}{H:List (List Int)}{us gs us' gs':List Tie}{L j:Nat}{c:Nat->Nat}{t:Tie}(h:Rng k H us gs L c)(e:Edg H j t)(hp:(us'++gs').Perm (us++gs++[t]))(hg:∀u∈gs',u∈gs\/u=t):Rng k H us' gs' (L+1) (λi=>c i+if j=i then 1 else 0):=by
 obtain⟨⟨R,p,l,ed,ct⟩,g⟩:=h
 refine⟨⟨R++[(j,t)],?_,?_,?_,?_⟩,?_⟩
 ·rw[Ù,←Ĳ]
  exact hp.trans (p.append_right _)
 ·rw[È,l];rfl
 ·intro x hx
  rcases å.mp hx with z|z
  ·exact ed x z
  ·rw[Ô.mp z];exact e
 ·intro i
  show _=c i+if j=i then 1 else 0
  rw[ń,ct]
  by_cases z:j=i
  ·rw[if_pos z,List.countP_cons_of_pos (by simpa using z)];rfl
  ·rw[if_neg z,List.countP_cons_of_neg (by simpa using z)];rfl
 ·intro u hu
  rcases hg u hu with z|z
  ·exact g u z
  ·rw[z];exact⟨j,e⟩
def kJ:∀{H:List (List Int)}{i j:Nat}{a b:List Int}{x:Int},H.flatten.Nodup->H[i]?=some a->H[j]?=some b->x∈a->x∈b->i=j
 |[],i,j,a,b,x,_,h,_,_,_=>by simp at h
 |h::H,0,0,a,b,x,nd,hi,hj,xa,xb=>rfl
 |h::H,0,j+1,a,b,x,nd,hi,hj,xa,xb=>by
  rw[ë] at nd
  obtain⟨n1,n2,n3⟩:=ŷ.mp nd
  have hi:h=a:=by simpa using hi
  have hj:H[j]?=some b:=by simpa using hj
  subst hi
  exact absurd rfl (n3 x xa x (Ń.mpr ⟨b,Î hj,xb⟩))
 |h::H,i+1,0,a,b,x,nd,hi,hj,xa,xb=>by
  rw[ë] at nd
  obtain⟨n1,n2,n3⟩:=ŷ.mp nd
  have hj:h=b:=by simpa using hj
  have hi:H[i]?=some a:=by simpa using hi
  subst hj
  exact absurd rfl (n3 x xb x (Ń.mpr ⟨a,Î hi,xa⟩))
 |h::H,i+1,j+1,a,b,x,nd,hi,hj,xa,xb=>by
  rw[ë] at nd
  obtain⟨n1,n2,n3⟩:=ŷ.mp nd
  have hi:H[i]?=some a:=by simpa using hi
  have hj:H[j]?=some b:=by simpa using hj
  have:=kJ n2 hi hj xa xb
  omega
def pN{q:List Int->Bool}:∀{H:List (List Int)}{j:Nat}{h:List Int},H[j]?=some h->q h=true->(∀i h',H[i]?=some h'->q h'=true->i=j)->H.countP q=1
 |[],j,h,e,_,_=>by simp at e
 |g::H,0,h,e,hq,u=>by
  have e:g=h:=by simpa using e
  subst e
  rw[List.countP_cons_of_pos hq]
  have z0:H.countP q=0:=List.countP_eq_zero.mpr λh' hh c=>by
   obtain⟨i,hi,e⟩:=Ţ hh
   have:=u (i+1) h' (by rw[List.getElem?_cons_succ,Ç hi,e]) c
   omega
  omega
 |g::H,j+1,h,e,hq,u=>by
  have e:H[j]?=some h:=by simpa using e
  have hg:¬q g=true:=λc=>by have:=u 0 g (by simp) c;omega
  rw[List.countP_cons_of_neg hg]
  exact pN e hq λi h' e' c=>by have:=u (i+1) h' (by simpa using e') c;omega
def sum_in(f:List Int->Tie->Bool)(H:List (List Int)):∀gs:List Tie,(∀t∈gs,H.countP (λh=>f h t)=1)->(H.map λh=>(gs.filter (f h)).length).sum=gs.length
 |[],_=>by
  have:∀H:List (List Int),(H.map λh=>(([]:List Tie).filter (f h)).length).sum=0:=λH=>by
   induction H with
   |nil=>rfl
   |cons h H ih=>rw[à,ò,ih];rfl
  exact this H
 |t::gs,h1=>by
  have ih:=sum_in f H gs λu hu=>h1 u (Ã _ hu)
  have:∀H:List (List Int),(H.map λh=>((t::gs).filter (f h)).length).sum=(H.map λh=>(gs.filter (f h)).length).sum+H.countP λh=>f h t:=λH=>by
   induction H with
   |nil=>rfl
   |cons h H ih2 =>
    rw[à,à,ò,ò,ih2,ť]
    cases c:f h t with
    |true=>rw[List.filter_cons_of_pos c,ã,if_pos rfl];omega
    |false=>rw[List.filter_cons_of_neg (by rw[c];exact Ò),if_neg Ò];omega
  rw[this,ih,h1 t Æ]
  rfl
def vN{m j:Nat}(h2:2<=m)(h:j<m):pvN m j≠j/\pvN m j<m:=by
 unfold pvN
 split <;> omega
section
variable {n k:Nat}{H:List (List Int)}
def Edg.iff(hp:Hps n H){j i:Nat}{t:Tie}{h:List Int}(E:Edg H j t)(hi:H[i]?=some h):(t.2∈h↔i=j)/\(t.1∈h↔i=pvN H.length j):=by
 obtain⟨hj,a,b,ea,eb,m1,m2⟩:=E
 refine⟨⟨λz=>kJ hp.flat.nd hi eb z m2,λz=>?_⟩,λz=>kJ hp.flat.nd hi ea z m1,λz=>?_⟩
 ·subst z;rw[hi] at eb;cases eb;exact m2
 ·subst z;rw[hi] at ea;cases ea;exact m1
def Edg.inT(hp:Hps n H){j i:Nat}{t:Tie}{h:List Int}(E:Edg H j t)(hi:H[i]?=some h):iV h t=decide (j=i):=by
 have ⟨e2,e1⟩:=E.iff hp hi
 have nj:=(vN hp.two E.1).1
 unfold iV
 by_cases c:j=i
 ·have a2:t.2∈h:=e2.mpr c.symm
  have a1:¬t.1∈h:=λz=>nj (by rw[←e1.mp z,c])
  rw[decide_eq_true a2,decide_eq_false a1,decide_eq_true c];rfl
 ·have a2:¬t.2∈h:=λz=>c (e2.mp z).symm
  rw[decide_eq_false a2,decide_eq_false c,Bool.and_false]
def Edg.Qx(hp:Hps n H){j i:Nat}{t:Tie}{h:List Int}(E:Edg H j t)(hi:H[i]?=some h):gR h t=decide (pvN H.length j=i):=by
 have ⟨e2,e1⟩:=E.iff hp hi
 have nj:=(vN hp.two E.1).1
 unfold gR
 by_cases c:pvN H.length j=i
 ·have a1:t.1∈h:=e1.mpr c.symm
  have a2:¬t.2∈h:=λz=>nj (by rw[c];exact e2.mp z)
  rw[decide_eq_true a1,decide_eq_false a2,decide_eq_true c];rfl
 ·have a1:¬t.1∈h:=λz=>c (e1.mp z).symm
  rw[decide_eq_false a1,decide_eq_false c,Bool.false_and]
def Edg.rg(hp:Hps n H){j:Nat}{t:Tie}(E:Edg H j t):(0<=t.1/\t.1<(n:Int))/\(0<=t.2/\t.2<(n:Int))/\t.1≠t.2:=by
 have e:=E
 obtain⟨hj,a,b,ea,eb,m1,m2⟩:=E
 refine⟨hp.flat.rng _ (Ń.mpr ⟨a,Î ea,m1⟩),hp.flat.rng _ (Ń.mpr ⟨b,Î eb,m2⟩),λz=>(vN hp.two hj).1 ?_⟩
 rw[z] at m1
 exact kJ hp.flat.nd ea eb m1 m2
def Ml{h:List Int}{t:Tie}(ht:t∈pr1 k h):t.1∈h/\t.2∈h:=by
 unfold pr1 at ht
 split at ht
 ·rename_i a b
  obtain⟨l,hl,htl⟩:=Ń.mp ht
  rw[(Ķ.mp hl).2] at htl
  rcases Ñ.mp htl with rfl|z
  ·exact⟨by simp,by simp⟩
  ·rw[Ô.mp z];exact⟨by simp,by simp⟩
 ·cases ht
def Dg{t:Tie}(ht:t∈prs k H):∃(i:Nat) (h:List Int),H[i]?=some h/\t.1∈h/\t.2∈h:=by
 obtain⟨h,hh,ht⟩:=List.mem_flatMap.mp ht
 obtain⟨i,hi,e⟩:=Ţ hh
 exact⟨i,h,by rw[Ç hi,e],Ml ht⟩
def Hu(hp:Hps n H){t:Tie}{i:Nat}{h:List Int}(ht:t∈prs k H)(hi:H[i]?=some h):iV h t=false/\gR h t=false:=by
 obtain⟨i',h',e,m1,m2⟩:=Dg ht
 have e12:(t.1∈h↔t.2∈h):=by
  constructor
  ·intro z
   have:=kJ hp.flat.nd hi e z m1
   subst this
   rw[hi] at e;cases e;exact m2
  ·intro z
   have:=kJ hp.flat.nd hi e z m2
   subst this
   rw[hi] at e;cases e;exact m1
 unfold iV gR
 rw[decide_eq_decide.mpr e12]
 cases decide (t.2∈h) <;> exact⟨rfl,rfl⟩
def Lr{m:Nat}{l:List Int}(h:IsOrd ((m:Nat):Int) l){x:Int}(h0:0<=x)(h1:x<(m:Int)):x∈l:=by
 apply ĉ
 intro no
 have hl:=h.len
 have nd:(x::l).Nodup:=ś.mpr ⟨no,h.nd⟩
 have:=nd.length_le_of_subset (l₂:=mX m) λy hy=>by
  rcases Ñ.mp hy with rfl|z
  ·exact nF.mpr ⟨h0,h1⟩
  ·exact nF.mpr (h.rng y z)
 have e:(mX m).length=m:=by
  unfold mX
  rw[Á,ō]
 rw[ã] at this
 omega
def Ks{α:Type}{p q:α->Bool}{l:List α}(h:∀x∈l,p x=q x):l.countP p=l.countP q:=Ź λx hx=>by rw[h x hx]
def Rng.ins(hp:Hps n H){us gs:List Tie}{L:Nat}(h:Rng k H us gs L λj=>if j<H.length then k else 0){i:Nat}{l:List Int}(hi:H[i]?=some l):inN us l+inN gs l=k/\jl us l+jl gs l=k:=by
 obtain⟨⟨R,p,_,ed,ct⟩,_⟩:=h
 have ct:∀j,R.countP (λx=>decide (x.1=j))=if j<H.length then k else 0:=ct
 have hm:i<H.length:=(Ê.mp hi).1
 have go:∀f:Tie->Bool,(∀t∈prs k H,f t=false)->(us.filter f).length+(gs.filter f).length=R.countP λx=>f x.2:=λf hf=>by
  rw[←ŏ,←ŏ,←ń,p.countP_eq,ń,List.countP_eq_zero.mpr λt ht=>by rw[hf t ht];exact Ò,List.countP_map,Nat.zero_add]
  rfl
 constructor
 ·show(us.filter (iV l)).length+(gs.filter (iV l)).length=k
  rw[go _ λt ht=>(Hu hp ht hi).1,Ks (q:=λx=>decide (x.1=i)) λx hx=>(ed x hx).inT hp hi,ct,if_pos hm]
 ·show(us.filter (gR l)).length+(gs.filter (gR l)).length=k
  have h2:=hp.two
  obtain⟨i',hi',e'⟩:∃i',i'<H.length/\∀j,j<H.length->(pvN H.length j=i↔j=i'):=by
   by_cases c:i+1=H.length
   ·refine⟨0,by omega,λj hj=>?_⟩
    unfold pvN
    split <;> omega
   ·refine⟨i+1,by omega,λj hj=>?_⟩
    unfold pvN
    split <;> omega
  rw[go _ λt ht=>(Hu hp ht hi).2,Ks (q:=λx=>decide (x.1=i')) λx hx=>by
   rw[(ed x hx).Qx hp hi]
   exact decide_eq_decide.mpr (e' _ (ed x hx).1),ct,if_pos hi']
def Rng.all(hp:Hps n H){us gs:List Tie}{L:Nat}{c:Nat->Nat}(h:Rng k H us gs L c):(H.map (inN gs)).sum=gs.length/\(H.map (jl gs)).sum=gs.length:=by
 obtain⟨_,g⟩:=h
 constructor
 ·refine sum_in iV H gs λt ht=>?_
  obtain⟨j,E⟩:=g t ht
  obtain⟨hj,a,b,ea,eb,_⟩:=id E
  exact pN eb (by rw[E.inT hp eb];exact decide_eq_true rfl) λi h' e' c=>by rw[E.inT hp e'] at c;exact(of_decide_eq_true c).symm
 ·refine sum_in gR H gs λt ht=>?_
  obtain⟨j,E⟩:=g t ht
  obtain⟨hj,a,b,ea,eb,_⟩:=id E
  exact pN ea (by rw[E.Qx hp ea];exact decide_eq_true rfl) λi h' e' c=>by rw[E.Qx hp e'] at c;exact(of_decide_eq_true c).symm
def cyc{m:Nat}{Y:Nat->Bool}{j1 j2:Nat}(h1:j1<m)(y1:Y j1=true)(h2:j2<m)(y2:Y j2=false):∃j,j<m/\Y j=true/\Y (pvN m j)=false:=by
 apply ĉ
 intro no
 have st:∀j,j<m->Y j=true->Y (pvN m j)=true:=λj hj hy=>by
  cases c:Y (pvN m j) with
  |true=>rfl
  |false=>exact absurd ⟨j,hj,hy,c⟩ no
 have down:∀d j,j<m->Y j=true->d<=j->Y (j - d)=true:=λd=>by
  induction d with
  |zero=>exact λj _ hy _=>hy
  |succ d ih =>
   intro j hj hy hd
   have a:=ih j hj hy (by omega)
   have b:=st (j - d) (by omega) a
   have e:pvN m (j - d)=j - (d+1):=by
    unfold pvN
    rw[if_neg (by omega)]
    omega
   rw[e] at b
   exact b
 have y0:=down j1 j1 h1 y1 (Ì _)
 rw[Nat.sub_self] at y0
 have yl:=st 0 (by omega) y0
 have e:pvN m 0=m - 1:=rfl
 rw[e] at yl
 have:=down (m - 1 - j2) (m - 1) (by omega) yl (by omega)
 rw[show m - 1 - (m - 1 - j2)=j2 by omega,y2] at this
 cases this
def CG{a b:Int}{X:Int->Bool}(h:X a≠X b):∀k,(É k [(a,b),(b,a)]).flatten.countP (λt:Tie=>!X t.1&&X t.2)=k
 |0=>rfl
 |k+1=>by
  rw[Ą,ë,ń,CG h k]
  have:[(a,b),(b,a)].countP (λt:Tie=>!X t.1&&X t.2)=1:=by
   cases ca:X a <;> cases cb:X b
   ·rw[ca,cb] at h;exact absurd rfl h
   ·simp[ť,ca,cb]
   ·simp[ť,ca,cb]
   ·rw[ca,cb] at h;exact absurd rfl h
  omega
def Rng.st(hp:Hps n H){us gs:List Tie}{L:Nat}(h:Rng k H us gs L λj=>if j<H.length then k else 0){X:Int->Bool}(hX:Cut.Prp n X):k<=Cut.di (us++gs) X:=by
 obtain⟨⟨R,p,_,ed,ct⟩,_⟩:=h
 have ct:∀j,R.countP (λx=>decide (x.1=j))=if j<H.length then k else 0:=ct
 rw[oh p]
 unfold Cut.di
 rw[ń]
 by_cases hA:∃a b,[a,b]∈H/\X a≠X b
 ·obtain⟨a,b,hm,ne⟩:=hA
  obtain⟨s,t,e⟩:=List.append_of_mem hm
  have:k<=(prs k H).countP λt:Tie=>!X t.1&&X t.2:=by
   unfold prs
   rw[e,ţ,Ÿ,ń,ń]
   have:(pr1 k [a,b]).countP (λt:Tie=>!X t.1&&X t.2)=k:=CG ne k
   omega
  exact þ this (Nat.le_add_right _ _)
 ·have un:∀l∈H,∀x∈l,∀y∈l,X x=X y:=λl hl x hx y hy=>by
   have sz:=hp.size l hl
   match l,hl,hx,hy,sz with
   |[a],_,hx,hy,_=>rw[Ô.mp hx,Ô.mp hy]
   |[a,b],hl,hx,hy,_ =>
    have eab:X a=X b:=ĉ λne=>hA ⟨a,b,hl,ne⟩
    simp only[Ñ,List.not_mem_nil,or_false] at hx hy
    rcases hx with rfl|rfl <;> rcases hy with rfl|rfl
    ·rfl
    ·exact eab
    ·exact eab.symm
    ·rfl
  have cov:∀x:Int,0<=x/\x<(n:Int)->∃i l,H[i]?=some l/\x∈l:=λx hx=>by
   have:x∈H.flatten:=Lr hp.flat hx.1 hx.2
   obtain⟨l,hl,hx⟩:=Ń.mp this
   obtain⟨i,hi,e⟩:=Ţ hl
   exact⟨i,l,by rw[Ç hi,e],hx⟩
  obtain⟨⟨x1,r1,t1⟩,x2,r2,t2⟩:=hX
  obtain⟨i1,l1,e1,m1⟩:=cov x1 r1
  obtain⟨i2,l2,e2,m2⟩:=cov x2 r2
  let Y:Nat->Bool:=λj=>((H[j]?).getD []).any X
  have yv:∀j l x,H[j]?=some l->x∈l->Y j=X x:=λj l x e hx=>by
   show((H[j]?).getD []).any X=X x
   rw[e]
   show l.any X=X x
   cases c:X x with
   |true=>exact List.any_eq_true.mpr ⟨x,hx,c⟩
   |false=>exact List.any_eq_false.mpr λy hy=>by rw[un l (Î e) y hy x hx,c];exact Ò
  obtain⟨j,hj,yj,ypj⟩:=cyc (Y:=Y) (Ê.mp e1).1 (by rw[yv i1 l1 x1 e1 m1,t1]) (Ê.mp e2).1 (by rw[yv i2 l2 x2 e2 m2,t2])
  have c1:R.countP (λx=>decide (x.1=j))<=R.countP λx=>!X x.2.1&&X x.2.2:=List.countP_mono_left λx hx hd=>by
   have hd:=of_decide_eq_true hd
   obtain⟨_,a,b,ea,eb,ma,mb⟩:=ed x hx
   rw[hd] at ea eb
   rw[←yv _ a _ ea ma,←yv _ b _ eb mb,yj,ypj]
   rfl
  rw[ct,if_pos hj] at c1
  rw[List.countP_map]
  exact þ c1 (Nat.le_add_left _ _)
end
structure Mdl(n k:Nat)(us gs:List Tie)(H:List (List Int)):Prop where
 n2:2<=n
 n8:n<=8
 hu:RgT n us
 gd:GdN n gs
 rise:Np gs
 len:us.length+gs.length<64
 lH:H.length<=5
 fam:Nq ((n:Nat):Int) H
 ins:∀h∈H,inN us h+inN gs h=k/\jl us h+jl gs h=k
 all:(H.map (inN gs)).sum=gs.length/\(H.map (jl gs)).sum=gs.length
 st:∀X,Cut.Prp n X->k<=Cut.di (us++gs) X
def CK(k:Nat)(h:List Int):(pr1 k h).length<=2 * k:=by
 unfold pr1
 split
 ·rw[List.length_flatten,List.map_replicate,List.sum_replicate_nat]
  show k * 2<=_
  omega
 ·exact ÿ _
def vP(k:Nat):∀H:List (List Int),(prs k H).length<=2 * k * H.length
 |[]=>ÿ _
 |h::H=>by
  have:=vP k H
  have:=CK k h
  unfold prs at *
  rw[Ÿ,È,ã,Nat.mul_add]
  omega
def Rng.len{k:Nat}{H:List (List Int)}{us gs:List Tie}{L:Nat}{c:Nat->Nat}(h:Rng k H us gs L c):us.length+gs.length<=2 * k * H.length+L:=by
 obtain⟨⟨R,p,l,_⟩,_⟩:=h
 have:=p.length_eq
 have:=vP k H
 rw[È,È,Á] at *
 omega
def kY(h:List Int):List Int:=match h with
 |[a,b]=>if a<=b then [a,b] else [b,a]
 |l=>l
def cU(h:List Int):(kY h).Perm h:=by
 unfold kY
 split
 ·split
  ·exact .refl _
  ·exact .swap _ _ _
 ·exact .refl _
def Ck{h:List Int}(hs:1<=h.length/\h.length<=2):(kY h).Pairwise (·<=·):=by
 match h,hs with
 |[a],_=>exact List.pairwise_singleton _ _
 |[a,b],_ =>
  show(if a<=b then [a,b] else [b,a]).Pairwise (·<=·)
  split
  ·simpa using by assumption
  ·simp;omega
def lM:∀{l1 l2:List Int},l1.Perm l2->l1.Pairwise (·<=·)->l2.Pairwise (·<=·)->l1=l2
 |[],l2,p,_,_=>p.nil_eq
 |a::l1,[],p,_,_=>absurd p.length_eq (by simp)
 |a::l1,b::l2,p,s1,s2=>by
  have s1:=List.pairwise_cons.mp s1
  have s2:=List.pairwise_cons.mp s2
  have hb:b∈a::l1:=p.mem_iff.mpr Æ
  have ha:a∈b::l2:=p.mem_iff.mp Æ
  have e1:a<=b:=by
   rcases Ñ.mp hb with z|z
   ·rw[z];exact ā _
   ·exact s1.1 b z
  have e2:b<=a:=by
   rcases Ñ.mp ha with z|z
   ·rw[z];exact ā _
   ·exact s2.1 a z
  have e:a=b:=by omega
  subst e
  rw[lM ((List.perm_cons a).mp p) s1.2 s2.2]
def K5{h out:List Int}(hs:1<=h.length/\h.length<=2)(po:out.Perm h)(so:out.Pairwise (·<=·)):out=kY h:=lM (po.trans (cU h).symm) so (Ck hs)
def uT:∀H:List (List Int),(H.map kY).flatten.Perm H.flatten
 |[]=>.refl _
 |h::H=>by
  rw[à,ë,ë]
  exact(cU h).append (uT H)
def nY:∀{H:List (List Int)},(∀h∈H,1<=h.length)->H.length<=H.flatten.length
 |[],_=>Ì _
 |h::H,a=>by
  have:=nY λg hg=>a g (Ã _ hg)
  have:=a h Æ
  rw[ë,È,ã]
  omega
def kj{us us':List Tie}{l l':List Int}(p:us'.Perm us)(e:∀x,x∈l'↔x∈l):inN us' l'=inN us l/\jl us' l'=jl us l:=by
 have e1:iV l'=iV l:=funext λt=>by
  unfold iV
  rw[decide_eq_decide.mpr (e t.1),decide_eq_decide.mpr (e t.2)]
 have e2:gR l'=gR l:=funext λt=>by
  unfold gR
  rw[decide_eq_decide.mpr (e t.1),decide_eq_decide.mpr (e t.2)]
 unfold inN jl
 rw[e1,e2]
 exact⟨(p.filter _).length_eq,(p.filter _).length_eq⟩
def Rng.rg{n k:Nat}{H:List (List Int)}{us gs:List Tie}{L:Nat}{c:Nat->Nat}(h:Rng k H us gs L c)(hp:Hps n H):RgT n (us++gs):=λt ht=>by
 obtain⟨⟨R,p,_,ed,_⟩,_⟩:=h
 rcases å.mp (p.mem_iff.mp ht) with z|z
 ·obtain⟨i,l,e,m1,m2⟩:=Dg z
  have ml:=Î e
  exact⟨hp.flat.rng _ (Ń.mpr ⟨l,ml,m1⟩),hp.flat.rng _ (Ń.mpr ⟨l,ml,m2⟩)⟩
 ·obtain⟨x,hx,rfl⟩:=ê.mp z
  have:=(ed x hx).rg hp
  exact⟨this.1,this.2.1⟩
def QZ{n k:Nat}{H:List (List Int)}{us gs us' gs':List Tie}{L:Nat}(hp:Hps n H)(rg:Rng k H us gs L λj=>if j<H.length then k else 0)(pu:us'.Perm us)(pg:gs'.Perm gs)(sg:Np gs')(hl:us.length+gs.length<64):Mdl n k us' gs' (H.map kY):=by
 have fl:H.flatten.length=n:=by have:=hp.flat.len;omega
 have one:∀h∈H,1<=h.length:=λh hh=>(hp.size h hh).1
 have ll:=nY one
 have two:=hp.two
 have n8:=hp.n8
 refine⟨by omega,n8,λt ht=>rg.rg hp t (ī _ (pu.mem_iff.mp ht)),λt ht=>?_,sg,by rw[pu.length_eq,pg.length_eq];exact hl,by rw[Á];exact hp.five,⟨λl hl=>?_,(uT H).nodup_iff.mpr hp.flat.nd⟩,λl hl=>?_,?_,λX hX=>?_⟩
 ·obtain⟨j,E⟩:=rg.2 t (pg.mem_iff.mp ht)
  exact E.rg hp
 ·obtain⟨h,hh,rfl⟩:=ê.mp hl
  have hs:=hp.size h hh
  have lp:=(cU h).length_eq
  have few:h.length<n:=by
   obtain⟨s,t,e⟩:=List.append_of_mem hh
   have a1:=nY (H:=s) λg hg=>one g (by rw[e];exact ī _ hg)
   have a2:=nY (H:=t) λg hg=>one g (by rw[e];exact ì _ (Ã _ hg))
   have l1:H.length=s.length+(t.length+1):=by rw[e,È,ã]
   have l2:H.flatten.length=s.flatten.length+(h.length+t.flatten.length):=by rw[e,List.flatten_append,ë,È,È]
   omega
  have nd:h.Nodup:=by
   obtain⟨s,t,e⟩:=List.append_of_mem hh
   have:=hp.flat.nd
   rw[e,List.flatten_append,ë] at this
   exact(ŷ.mp (ŷ.mp this).2.1).1
  refine⟨by omega,by omega,λx hx=>hp.flat.rng x (Ń.mpr ⟨h,hh,(cU h).mem_iff.mp hx⟩),?_,by omega⟩
  have nd2:(kY h).Nodup:=(cU h).nodup_iff.mpr nd
  exact(List.pairwise_and_iff.mpr ⟨Ck hs,nd2⟩).imp λ⟨a,b⟩=>by omega
 ·obtain⟨h,hh,rfl⟩:=ê.mp hl
  obtain⟨i,hi,e⟩:=Ţ hh
  have:=rg.ins hp (i:=i) (l:=h) (by rw[Ç hi,e])
  have mi:∀x,x∈kY h↔x∈h:=λx=>(cU h).mem_iff
  rw[(kj pu mi).1,(kj pu mi).2,(kj pg mi).1,(kj pg mi).2]
  exact this
 ·have:=rg.all hp
  have e1:(H.map kY).map (inN gs')=H.map (inN gs):=by
   rw[õ]
   exact Č λh _=>(kj pg λx=>(cU h).mem_iff).1
  have e2:(H.map kY).map (jl gs')=H.map (jl gs):=by
   rw[õ]
   exact Č λh _=>(kj pg λx=>(cU h).mem_iff).2
  rw[e1,e2,pg.length_eq]
  exact this
 ·rw[oh (pu.append pg)]
  exact rg.st hp hX
def J1(ds:List D)(P:D->Prop):Prop:=∃k:Nat,ds=[.int ((k:Int) - 1)]/\1<=k/\k<=2/\∀(n:Nat) (us gs:List Tie) (H:List (List Int)),Mdl n k us gs H->P (.tuple [aD ((n:Nat):Int) us,.list (gs.map pD),.list (H.map iD)])
section
variable {P:Program}{w:World}{K:Ú}{mg:Str->Option Value}{base:Heap}{f:Addr}{fd:FuncData}{CN P1 PT:Addr}
def mH:FnScope ["_law_pen_here","_law_falls","_law_heaps_here","_law_ties_here","_law_gone","_law_heap","_law_turn","_law_k","_law_tie","_law_n"] ["_law_pen_here","_law_falls"] (ao (top 58)):=zC
def jF:(["_law_heap","_law_pen_here","_law_falls","_law_heaps_here","_law_ties_here","_law_gone","","_law_turn","_law_k","_law_tie","_law_n"]:List Str).Nodup:=by decide +kernel
def wB(F:Fun K "_law_model" "_law_model" (top 58) f fd)(B:Ĵ mg)(m_sum:mg "sum"=none)(C__law_heaps:ø P w K mg base 3 "_law_heaps" ["_law_pen_here"] (spP CP J5))(C__law_one:ø P w K mg base 2 "_law_one" ["_law_pen_here","_law_some"] (spP CP U0))(C__law_draw:ø P w K mg base 1 "_law_draw" ["_law_pen_here","_law_many"] (spP CP jP)):FnOk P w K mg base CX0 4 f fd ["_law_pen_here","_law_falls"] (spP CP J1):=by
 refine F.ok mH dG (λcdv A outer s H vs Q E hr h=>?_)
 have nd:=mH.nd
 refine⟨_,Ĝ (Ö (ñ none (i:=2) nd rfl zQ (Wr.dcP C__law_heaps hr (Ŗ 0) Å))
  (Ö (ñ (some 0) (i:=3) nd rfl zQ (Ě Å))
  (Ö (ñ (some 1) (i:=4) nd rfl zQ (Ě Å))
  (Ö (ŵ î rfl (Ĕ (Ë 2)) (è (i:=5) nd rfl zQ) (Ö (Wr.cY (Wr.gq hr.units (Ŵ B.len (À (Ë 5) Å)) Õ) (ý (Wr.cJ (Ŗ 3) (À (Wr.fM (Ě (À (đ (À (ö (Ë 5) Õ) (À (ö (Ë 5) Õ) Å))) (À (đ (À (ö (Ë 5) Õ) (À (ö (Ë 5) Õ) Å))) Å))) (ğ (Ë 1) Õ)) Å))) Ğ) (Ă [5] Ğ)))
  (Ă [5] (Ö (ŵ î rfl (Wr.aN B.range (À (ğ (Ë 1) Õ) Å)) (è (i:=6) nd rfl zQ) (Ö (ŵ î rfl (Wr.aN B.range (À (Ŵ B.len (À (Ë 2) Å)) Å)) (è (i:=7) nd rfl zQ) (Ö (ñ none (i:=8) nd rfl zQ (đ (À (Wr.dcP C__law_one hr (Ŗ 0) (À (ö (Ë 2) (Ő (Ë 7) Õ)) Å)) (À (Wr.dcP C__law_one hr (Ŗ 0) (À (ö (Ë 2) (Ë 7)) Å)) Å))))
  (Ö (Wr.cY (Wr.wpt (Wr.gC (Wr.gq hr.units (Wr.dcP C__law_draw hr (Ŗ 0) (À Õ Å)) Õ) (Wr.eX (Wr.wpt (Wr.gn (Wr.gq hr.units (ğ (Ë 6) (Ë 7)) (Ő (ğ (Ë 1) (Ŵ B.len (À (Ë 2) Å))) Õ)) (Wr.eF (Wr.gq hr.units (Ë 4) (Ě Å)))))))) (ý (Wr.cZ (Ŗ 4) (À (Ë 8) Å))) (ý (Wr.cZ (Ŗ 3) (À (Ë 8) Å)))) (Ă [7,8] Ğ)))) (Ă [6,7,8] Ğ)))
  (Ă [6,7,8] (Ö (ñ none (i:=9) nd rfl zQ (Wr.nq rfl m_sum (À (Wr.o9 ["_law_heap"] ["_law_pen_here","_law_falls","_law_heaps_here","_law_ties_here","_law_gone","","_law_turn","_law_k","_law_tie","_law_n"] rfl (Ĕ (Ë 2)) (λc=>(è (i:=0) jF rfl zQ)) (λc=>ŀ) (λc=>(Ŵ B.len (À (Ë 0) Å))) (hk:=rfl)) Å)))
  (ý (Ē (đ (À (đ (À (Ë 9) (À (Wr.iM B.tuple (À (Wr.eG B.sorted (À (Ë 3) Å)) Å)) Å))) (À (Wr.eG B.sorted (À (Ë 4) Å)) (À (Wr.o9 ["_law_heap"] ["_law_pen_here","_law_falls","_law_heaps_here","_law_ties_here","_law_gone","","_law_turn","_law_k","_law_tie","_law_n"] rfl (Ĕ (Ë 2)) (λc=>(è (i:=0) jF rfl zQ)) (λc=>ŀ) (λc=>(Wr.rB B.sorted (À (Ë 0) Å))) (hk:=rfl)) Å)))))))))))))),enterQ h ?_⟩
 rintro ds P ⟨k,rfl,k1,k2,q⟩
 refine⟨[.im (.int ((k:Int) - 1)),.any,.any,.any,.any,.any,.any,.any,.any],rfl,?_⟩
 refine⟨rfl,rfl,λn H hp=>?_⟩
 have lm:∀l:List Tie,(l.map pD).length=l.length:=λl=>Á ..
 refine⟨by decide,by decide,rfl,λ(i:Nat) ρ=>ρ=[.pen CP,.im (.int ((k:Int) - 1)),.sn (.list (H.map iD)),.dw 0 (.list ((prs k (H.take i)).map pD)),.dw 1 (.list []),.any,.any,.any,.any,.any],rfl,?_,?_⟩
 ·rintro i d ρ hd rfl
  obtain⟨h,hh,rfl⟩:=cC hd
  have hs:=hp.size h (Î hh)
  have tk:prs k (H.take (i+1))=prs k (H.take i)++pr1 k h:=by
   unfold prs
   rw[Ľ,hh,ţ]
   show _++(pr1 k h++[])=_
   rw[ð]
  match h,hs,tk with
  |[a],_,tk =>
   show([ż CP,.im (.int ((k:Int) - 1)),.sn (.list (H.map iD)),.dw 0 (.list ((prs k (H.take i)).map pD)),.dw 1 (.list []),.any,.any,.any,.any,.any]:List Sl)=[ż CP,.im (.int ((k:Int) - 1)),.sn (.list (H.map iD)),.dw 0 (.list ((prs k (H.take (i+1))).map pD)),.dw 1 (.list []),.any,.any,.any,.any,.any]
   rw[tk,show pr1 k [a]=[] from rfl,ð]
  |[a,b],_,tk =>
   refine⟨.int a,rfl,.int b,rfl,zK,.int b,rfl,.int a,rfl,zK,zK,?_⟩
   have er:(É ((k:Int) - 1+1).toNat [pD (a,b),pD (b,a)]).flatten=(pr1 k [a,b]).map pD:=by
    rw[show((k:Int) - 1+1).toNat=k by omega]
    show _=((É k [(a,b),(b,a)]).flatten).map pD
    rw[List.map_flatten,List.map_replicate]
    rfl
   have lp:=vP k (H.take i)
   have l1:=CK k [a,b]
   have lt:(H.take i).length<=5:=by have:=hp.five;rw[Ģ];omega
   have l2:2 * k * (H.take i).length<=4 * 5:=ĳ (by omega) lt
   refine⟨by omega,by omega,?_,.inl ⟨(show dH (É ((k:Int) - 1+1).toNat [pD (a,b),pD (b,a)]).flatten=true by rw[er];exact cX _),rfl,?_,?_⟩⟩
   ·show 2 * ((k:Int) - 1+1).toNat<=1000
    omega
   ·show((prs k (H.take i)).map pD).length+(É ((k:Int) - 1+1).toNat [pD (a,b),pD (b,a)]).flatten.length<=1000
    rw[er,lm,lm]
    omega
   ·show([ż CP,.im (.int ((k:Int) - 1)),.sn (.list (H.map iD)),.dw 0 (.list ((prs k (H.take i)).map pD++(É ((k:Int) - 1+1).toNat [pD (a,b),pD (b,a)]).flatten)),.dw 1 (.list []),.any,.any,.any,.any,.any]:List Sl)=[ż CP,.im (.int ((k:Int) - 1)),.sn (.list (H.map iD)),.dw 0 (.list ((prs k (H.take (i+1))).map pD)),.dw 1 (.list []),.any,.any,.any,.any,.any]
    rw[er,tk,Ù]
 ·rintro ρ rfl
  rw[Á,ē]
  refine⟨⟨by omega,by omega⟩,rfl,λ(t:Nat) ρ=>∃us gs:List Tie,ρ=[.pen CP,.im (.int ((k:Int) - 1)),.sn (.list (H.map iD)),.dw 0 (.list (us.map pD)),.dw 1 (.list (gs.map pD)),.any,.any,.any,.any,.any]/\Rng k H us gs (t * H.length) λj=>if j<H.length then t else 0,⟨prs k H,[],rfl,⟨[],by simp,by simp,λx hx=>(nomatch hx),λj=>by simp⟩,λt ht=>(nomatch ht)⟩,?_,?_⟩
  ·rintro t d ρ hd ⟨us,gs,rfl,rg⟩
   obtain⟨ht,rfl⟩:=š hd
   have ht:t<k:=by omega
   refine⟨⟨by rw[Á];omega,by rw[Á];have:=hp.five;omega⟩,rfl,λ(j:Nat) ρ=>∃us gs:List Tie,ρ=[.pen CP,.im (.int ((k:Int) - 1)),.sn (.list (H.map iD)),.dw 0 (.list (us.map pD)),.dw 1 (.list (gs.map pD)),.any,.im (.int (0+((t:Nat):Int))),.any,.any,.any]/\Rng k H us gs (t * H.length+j) λi=>if i<j then t+1 else if i<H.length then t else 0,⟨us,gs,rfl,?_⟩,?_,?_⟩
   ·have e:(λi=>if i<0 then t+1 else if i<H.length then t else 0)=λj=>if j<H.length then t else 0:=funext λi=>if_neg (Nat.not_lt_zero i)
    rw[e]
    exact rg
   ·rintro j d ρ hd ⟨us,gs,rfl,rg⟩
    obtain⟨hj,rfl⟩:=š hd
    rw[Á] at hj
    have hj:j<H.length:=by omega
    have hv:=vN hp.two hj
    obtain⟨a,ea⟩:∃a,H[pvN H.length j]?=some a:=⟨_,Ç hv.2⟩
    obtain⟨b,eb⟩:∃b,H[j]?=some b:=⟨_,Ç hj⟩
    have sa:=hp.size a (Î ea)
    have sb:=hp.size b (Î eb)
    have ia:atI (H.map iD) (0+((j:Nat):Int) - 1)=some (iD a):=by
     have h2:=hp.two
     have:ixN (H.map iD).length (0+((j:Nat):Int) - 1)=some (pvN H.length j):=by
      unfold ixN pvN
      rw[Á]
      split <;> split <;> first|omega|(split <;> first|omega|(congr 1;omega))|(congr 1;omega)
     unfold atI
     rw[this]
     show(H.map iD)[pvN H.length j]?=_
     rw[ß,ea]
     rfl
    have ib:atI (H.map iD) (0+((j:Nat):Int))=some (iD b):=by rw[Int.zero_add];exact dN (by rw[ß,eb];rfl)
    refine⟨rfl,iD a,ia,a,rfl,sa.1,by omega,λx hx=>?_⟩
    refine⟨rfl,iD b,ib,b,rfl,sb.1,by omega,λy hy=>?_⟩
    have E:Edg H j (x,y):=⟨hj,a,b,ea,eb,hx,hy⟩
    have cf:∀us' gs':List Tie,Rng k H us' gs' (t * H.length+j+1) (λi=>(if i<j then t+1 else if i<H.length then t else 0)+if j=i then 1 else 0)->Rng k H us' gs' (t * H.length+(j+1)) λi=>if i<j+1 then t+1 else if i<H.length then t else 0:=λus' gs' r=>by
     have e:(λi=>(if i<j then t+1 else if i<H.length then t else 0)+if j=i then 1 else 0)=λi=>if i<j+1 then t+1 else if i<H.length then t else 0:=funext λi=>by
      split <;> split <;> split <;> (try split) <;> omega
     rw[e] at r
     exact r
    have rg1:Rng k H us (gs++[(x,y)]) (t * H.length+(j+1)) λi=>if i<j+1 then t+1 else if i<H.length then t else 0:=cf _ _ (rg.one E (by rw[Ĳ]) λu hu=>(å.mp hu).imp id Ô.mp)
    have rg2:Rng k H (us++[(x,y)]) gs (t * H.length+(j+1)) λi=>if i<j+1 then t+1 else if i<H.length then t else 0:=cf _ _ (rg.one E (by rw[Ĳ,Ĳ];exact(List.perm_append_comm (l₁:=[(x,y)]) (l₂:=gs)).append_left us) λu hu=>.inl hu)
    have lb:=rg.len
    refine⟨zK,rfl,2,rfl,by decide,by decide,λc c0 c1=>?_⟩
    have l1:2 * k * H.length<=4 * 5:=ĳ (by omega) hp.five
    have l2:t * H.length<=1 * 5:=ĳ (by omega) hp.five
    have five:=hp.five
    refine fZ (λ_=>?_) (λ_=>?_)
    ·rw[if_pos rfl]
     refine⟨rfl,by rw[lm];omega,us,gs++[(x,y)],?_,rg1⟩
     show([ż CP,.im (.int ((k:Int) - 1)),.sn (.list (H.map iD)),.dw 0 (.list (us.map pD)),.dw 1 (.list (gs.map pD++[pD (x,y)])),.any,.im (.int (0+((t:Nat):Int))),.any,.any,.any]:List Sl)=[ż CP,.im (.int ((k:Int) - 1)),.sn (.list (H.map iD)),.dw 0 (.list (us.map pD)),.dw 1 (.list ((gs++[(x,y)]).map pD)),.any,.im (.int (0+((t:Nat):Int))),.any,.any,.any]
     rw[Ù]
     rfl
    ·refine fZ (λ_=>?_) (λ_=>?_)
     ·refine⟨by decide,wH gs,by decide +kernel,fZ (λ_=>?_) (λ_=>?_)⟩
      ·refine⟨rfl,by rw[lm];omega,us,gs++[(x,y)],?_,rg1⟩
       show([ż CP,.im (.int ((k:Int) - 1)),.sn (.list (H.map iD)),.dw 0 (.list (us.map pD)),.dw 1 (.list (gs.map pD++[pD (x,y)])),.any,.im (.int (0+((t:Nat):Int))),.any,.any,.any]:List Sl)=[ż CP,.im (.int ((k:Int) - 1)),.sn (.list (H.map iD)),.dw 0 (.list (us.map pD)),.dw 1 (.list ((gs++[(x,y)]).map pD)),.any,.im (.int (0+((t:Nat):Int))),.any,.any,.any]
       rw[Ù]
       rfl
      ·refine⟨rfl,by rw[lm];omega,us++[(x,y)],gs,?_,rg2⟩
       show([ż CP,.im (.int ((k:Int) - 1)),.sn (.list (H.map iD)),.dw 0 (.list (us.map pD++[pD (x,y)])),.dw 1 (.list (gs.map pD)),.any,.im (.int (0+((t:Nat):Int))),.any,.any,.any]:List Sl)=[ż CP,.im (.int ((k:Int) - 1)),.sn (.list (H.map iD)),.dw 0 (.list ((us++[(x,y)]).map pD)),.dw 1 (.list (gs.map pD)),.any,.im (.int (0+((t:Nat):Int))),.any,.any,.any]
       rw[Ù]
       rfl
     ·rw[if_neg Ò]
      refine⟨rfl,by rw[lm];omega,us++[(x,y)],gs,?_,rg2⟩
      show([ż CP,.im (.int ((k:Int) - 1)),.sn (.list (H.map iD)),.dw 0 (.list (us.map pD++[pD (x,y)])),.dw 1 (.list (gs.map pD)),.any,.im (.int (0+((t:Nat):Int))),.any,.any,.any]:List Sl)=[ż CP,.im (.int ((k:Int) - 1)),.sn (.list (H.map iD)),.dw 0 (.list ((us++[(x,y)]).map pD)),.dw 1 (.list (gs.map pD)),.any,.im (.int (0+((t:Nat):Int))),.any,.any,.any]
      rw[Ù]
      rfl
   ·rintro ρ ⟨us,gs,rfl,rg⟩
    have eL:(qg 0 ((((H.map iD).length:Nat):Int)).toNat).length=H.length:=by rw[Ł,Á];omega
    rw[eL] at rg
    refine⟨us,gs,rfl,?_⟩
    have e:(λi=>if i<H.length then t+1 else if i<H.length then t else 0)=λi=>if i<H.length then t+1 else 0:=funext λi=>by
     by_cases c:i<H.length
     ·rw[if_pos c,if_pos c]
     ·rw[if_neg c,if_neg c,if_neg c]
    rw[e] at rg
    rw[Nat.succ_mul]
    exact rg
  ·rintro ρ ⟨us,gs,rfl,rg⟩
   have eL:(qg 0 ((k:Int) - 1+1).toNat).length=k:=by rw[Ł];omega
   rw[eL] at rg
   have l1:2 * k * H.length<=4 * 5:=ĳ (by omega) hp.five
   have l2:k * H.length<=2 * 5:=ĳ (by omega) hp.five
   have lb:=rg.len
   have five:=hp.five
   refine pH H iD (λh=>.int ((h.length:Nat):Int)) .imm rfl (by omega) (λh hh A B hA=>aM (B:=B) ?_) ?_
   ·show _/\A (.int (((h.map Â).length:Nat):Int))
    rw[Á]
    exact⟨rfl,hA⟩
   have es:(H.map λh=>((h.length:Nat):Int)).sum=((n:Nat):Int):=by
    rw[jq H λh=>h.length,←List.length_flatten]
    exact hp.flat.len
   refine⟨H.map λh=>((h.length:Nat):Int),by rw[õ];rfl,by rw[Á];omega,λx hx=>?_,?_⟩
   ·obtain⟨h,hh,rfl⟩:=ê.mp hx
    have:=hp.size h hh
    omega
   rw[es]
   have nc:∀t∈us++gs,lZ t:=λt ht=>by
    have:=rg.rg hp t ht
    have:=hp.n8
    exact⟨by omega,by omega⟩
   refine⟨us,.inl rfl,by omega,λt ht=>nc t (ī _ ht),λus' pu su=>⟨zK,gs,.inl rfl,by omega,λt ht=>nc t (ì _ ht),λgs' pg sg=>?_⟩⟩
   refine pH H iD (λh=>iD (kY h)) .new rfl (by omega) (λh hh A B hA=>aM (B:=B) ⟨h,rfl,by have:=hp.size h hh;omega,λout po so=>?_⟩) ?_
   ·rw[K5 (hp.size h hh) po so]
    exact⟨rfl,hA⟩
   have e1:=d7 ((n:Nat):Int) us'
   have e3:(.list (H.map λh=>iD (kY h)):D)=.list ((H.map kY).map iD):=by rw[õ];rfl
   refine⟨zK,?_,?_⟩
   ·show(norm (joins [(norm (joins [(Kd.imm,Â ((n:Nat):Int)),(norm Kd.new (.tuple (us'.map pD)),.tuple (us'.map pD))]) (aD ((n:Nat):Int) us'),aD ((n:Nat):Int) us'),(Kd.new,.list (gs'.map pD)),(Kd.new.join Kd.new,.list (H.map λh=>iD (kY h)))]) (.tuple [aD ((n:Nat):Int) us',.list (gs'.map pD),.list (H.map λh=>iD (kY h))])).le Kd.n0=true
    rw[dD e1,fQ (by show ¬(gb (aD ((n:Nat):Int) us')&&false)=true;rw[Bool.and_false];exact Ò)]
    rfl
   ·show P (.tuple [aD ((n:Nat):Int) us',.list (gs'.map pD),.list (H.map λh=>iD (kY h))])
    rw[e3]
    exact q n us' gs' _ (QZ hp rg pu pg sg (by omega))
end
def Jg{xs:List D}(h:∀x∈xs,x.canLay0=true/\x.depth<=50):okD (.list xs)=true:=by
 have a:Ĉ xs=true/\Ġ xs<=50:=by
  induction xs with
  |nil=>exact⟨rfl,ÿ _⟩
  |cons x xs ih =>
   obtain⟨i1,i2⟩:=ih λy hy=>h y (Ã _ hy)
   obtain⟨j1,j2⟩:=h x Æ
   refine⟨?_,?_⟩
   ·show(x.canLay0&&Ĉ xs)=true
    rw[j1,i1];rfl
   ·show max x.depth (Ġ xs)<=50
    omega
 show(Ĉ xs&&decide (Ġ xs+1<=60))=true
 rw[a.1,decide_eq_true (by omega)]
 rfl
def Dm(F:List (List Int)):Ĉ (F.map iD)=true/\Ġ (F.map iD)<=1:=by
 have il:∀l:List Int,Ĉ (l.map Â)=true/\Ġ (l.map Â)=0:=λl=>by
  induction l with
  |nil=>exact⟨rfl,rfl⟩
  |cons x l ih =>
   rw[à]
   refine⟨?_,?_⟩
   ·show(PyData.canLay0 (.int x)&&Ĉ (l.map Â))=true
    rw[ih.1];rfl
   ·show max (PyData.depth (.int x)) (Ġ (l.map Â))=0
    rw[ih.2];rfl
 induction F with
 |nil=>exact⟨rfl,ÿ _⟩
 |cons l F ih =>
  obtain⟨a,b⟩:=il l
  rw[à]
  refine⟨?_,?_⟩
  ·show(Ĉ (l.map Â)&&Ĉ (F.map iD))=true
   rw[a,ih.1];rfl
  ·show max (Ġ (l.map Â)+1) (Ġ (F.map iD))<=1
   have:=ih.2
   omega
def DQ:∀F:List (List Int),ŭ (F.map iD) (F.map iD)=true
 |[]=>rfl
 |l::F=>by
  rw[à]
  show(ŭ (l.map Â) (l.map Â)&&ŭ (F.map iD) (F.map iD))=true
  rw[Kc,decide_eq_true rfl,DQ F]
  rfl
def Dd(A:List Tie)(F:List (List Int)):okD (.list [.list (A.map pD),.list (F.map iD)])=true:=Jg λx hx=>by
 rcases Ñ.mp hx with rfl|hx
 ·refine⟨Bf A,?_⟩
  have:=sW A
  show Ġ (A.map pD)+1<=50
  omega
 ·rw[Ô.mp hx]
  refine⟨(Dm F).1,?_⟩
  have:=(Dm F).2
  show Ġ (F.map iD)+1<=50
  omega
section
variable {P:Program}{w:World}{K:Ú}{mg:Str->Option Value}{base:Heap}{f:Addr}{fd:FuncData}{CN P1 PT:Addr}
def qP:FnScope ["_law_web_here","_law_falls","_law_added","_law_side","_law_family","_law_handed","_law_told"] ["_law_web_here","_law_falls","_law_added","_law_side","_law_family"] (ao (top 61)):=zC
def wJ:(["_law_some","_law_web_here","_law_falls","_law_added","_law_side","_law_family","_law_handed","_law_told"]:List Str).Nodup:=by decide +kernel
def Ao(F:Fun K "_law_let" "_law_let" (top 61) f fd)(B:Ĵ mg)(C_one_lets_by:ø P w K mg base 11 "one_lets_by" ["one","falls","added","side","family"] (spD J2)):FnOk P w K mg base CX0 12 f fd ["_law_web_here","_law_falls","_law_added","_law_side","_law_family"] (spD J2):=by
 refine F.ok qP ĩ (λcdv A outer s H vs Q E hr h=>?_)
 have nd:=qP.nd
 refine⟨_,Ĝ (Ö (ñ none (i:=5) nd rfl zQ (Ě (À (Wr.nA B.list (À (Ë 2) Å)) (À (Wr.cB ["_law_some"] rfl (Ĕ (Ë 4)) (λc=>(è (i:=0) wJ rfl zQ)) (λc=>ŀ) (λc=>(Wr.nA B.list (À (Ë 0) Å)))) Å))))
  (Ö (ñ none (i:=6) nd rfl zQ (Œ C_one_lets_by hr (À (Ë 0) (À (Ë 1) (À (ö (Ë 5) Õ) (À (Ë 3) (À (ö (Ë 5) Õ) Å)))))))
  (ý (Ē (Wr.fO (Wr.Aj (Ë 6) Wr.jh) (Wr.gD (Wr.rC hr.units (Ë 5) (Ě (À (Ë 2) (À (Ë 4) Å)))))))))),aR h ?_⟩
 rintro ds P ⟨n,us,A,fa,s,F,rfl,n1,n8,f0,f1,lw,hu,lF,due,q⟩
 refine⟨[.im (aD ((n:Nat):Int) us),.im (.int fa),.sh (.list (A.map pD)),.im (.str s),.sh (.list (F.map iD)),.any,.any],by show [bw (aD _ us),_,_,_,_,.any,.any]=_;rw[bL];rfl,?_⟩
 have pl:∀l∈F,l.length<=16:=λl hl=>by have:=(due.fam.1 l hl).few;have:=(due.fam.1 l hl).one;omega
 refine .inl ⟨cX A,?_⟩
 refine pH F iD iD .new rfl (by omega) (λl hl A' B hA=>aM (B:=B) (.inl ⟨cO l,rfl,hA⟩)) ?_
 refine⟨zK,?_⟩
 refine⟨.list (A.map pD),rfl,.list (F.map iD),rfl,n,us,A,fa,s,F,rfl,n1,n8,f0,f1,lw,hu,lF,due,?_⟩
 refine⟨zK,Dd A F,Dd A F,rfl,?_⟩
 have e:í (.list [.list (A.map pD),.list (F.map iD)]) (.list [.list (A.map pD),.list (F.map iD)])=true:=by
  show(í (.list (A.map pD)) (.list (A.map pD))&&(ŭ (F.map iD) (F.map iD)&&true))=true
  rw[DP,decide_eq_true rfl,DQ]
  rfl
 show P (.bool (í (.list [.list (A.map pD),.list (F.map iD)]) (.list [.list (A.map pD),.list (F.map iD)])))
 rw[e]
 exact q
end
def fMR(ds:List D)(P:D->Prop):Prop:=∃k:Nat,ds=[.int ((k:Int) - 1)]/\1<=k/\k<=2/\P (.bool true)
def Ci(W:List Int->Int)(h0:∀l,0<=W l):∀T:List (List Int),((T.filter λl=>decide (0<W l)).map W).sum=(T.map W).sum
 |[]=>rfl
 |l::T=>by
  have ih:=Ci W h0 T
  have:=h0 l
  cases c:decide (0<W l) with
  |true=>rw[List.filter_cons_of_pos (p:=λl=>decide (0<W l)) c,à,à,ò,ò,ih]
  |false =>
   have c2:=of_decide_eq_false c
   rw[List.filter_cons_of_neg (p:=λl=>decide (0<W l)) (by rw[c];exact Ò),à,ò,ih]
   omega
def sO(p:List Int->Bool):∀T:List (List Int),(T.filter p).flatten.Sublist T.flatten
 |[]=>.slnil
 |l::T=>by
  cases c:p l with
  |true=>rw[List.filter_cons_of_pos c,ë,ë];exact(List.Sublist.refl l).append (sO p T)
  |false=>rw[List.filter_cons_of_neg (by rw[c];exact Ò),ë];exact(sO p T).trans (List.sublist_append_right _ _)
def Mp{n k:Nat}{us gs:List Tie}{H T:List (List Int)}{s:Str}(M:Mdl n k us gs H)(hs:s="in"\/s="out")(p:T.Perm H) :
  DueO n us gs ((k:Int) - 1) s T/\DueO n us gs ((k:Int) - 1) s (T.filter λl=>decide (0<WO us ((k:Int) - 1) s l)):=by
 have fk:Nq ((n:Nat):Int) T:=⟨λl hl=>M.fam.1 l (p.mem_iff.mp hl),p.flatten.nodup_iff.mpr M.fam.2⟩
 have fk2:Nq ((n:Nat):Int) (T.filter λl=>decide (0<WO us ((k:Int) - 1) s l)):=⟨λl hl=>fk.1 l ((ą.mp hl).1),fk.2.sublist (sO _ _)⟩
 have st:∀X,Cut.Prp n X->(k:Int) - 1<((Cut.di (us++gs) X:Nat):Int):=λX hX=>by have:=M.st X hX;omega
 have es:(T.map (WO us ((k:Int) - 1) s)).sum=((gs.length:Nat):Int):=by
  rcases hs with rfl|rfl
  ·have e:T.map (WO us ((k:Int) - 1) "in")=T.map λl=>((inN gs l:Nat):Int):=Č λl hl=>by
    have:=(M.ins l (p.mem_iff.mp hl)).1
    unfold WO nd1 byS
    rw[if_pos rfl]
    split <;> omega
   rw[e,jq,(p.map _).sum_nat,M.all.1]
  ·have ne:¬("out":Str)="in":=by decide +kernel
   have e:T.map (WO us ((k:Int) - 1) "out")=T.map λl=>((jl gs l:Nat):Int):=Č λl hl=>by
    have:=(M.ins l (p.mem_iff.mp hl)).2
    unfold WO nd1 byS
    rw[if_neg ne]
    split <;> omega
   rw[e,jq,(p.map _).sum_nat,M.all.2]
 exact⟨⟨hs,M.gd,M.rise,fk,by omega,st⟩,hs,M.gd,M.rise,fk2,by rw[Ci _ (Gx _ _ _)];omega,st⟩
def JK{k:Kd}{d1 d2 d3:D}{ρ:List Sl}{Q:List Sl->Prop}{i j l:Nat}(h:∀s1 s2 s3,s1=yd (norm (norm k d1) d1) d1->s2=yd (norm (norm k d2) d2) d2->s3=yd (norm (norm k d3) d3) d3->Q (((ρ.set i s1).set j s2).set l s3)):lY (gNm i) (lY (gNm j) (lY (gNm l) Dt)) k [d1,d2,d3] ρ Q:=h _ _ _ rfl rfl rfl
section
variable {P:Program}{w:World}{K:Ú}{mg:Str->Option Value}{base:Heap}{f:Addr}{fd:FuncData}{CN P1 PT:Addr}
def fG:FnScope ["_law_pen_here","_law_falls","_law_web_here","_law_gone","_law_heaps_here","_law_turned","_law_heap","_law_side","_law_short"] ["_law_pen_here","_law_falls"] (ao (top 62)):=zC
def jE:(["_law_heap","_law_pen_here","_law_falls","_law_web_here","_law_gone","_law_heaps_here","_law_turned","","_law_side","_law_short"]:List Str).Nodup:=by decide +kernel
def lV(F:Fun K "_law_model_right" "_law_model_right" (top 62) f fd)(B:Ĵ mg)(C__law_model:ø P w K mg base 4 "_law_model" ["_law_pen_here","_law_falls"] (spP CP J1))(C__law_draw:ø P w K mg base 1 "_law_draw" ["_law_pen_here","_law_many"] (spP CP jP))(C__law_need:ø P w K mg base 2 "_law_need" ["_law_web_here","_law_falls","_law_side","_law_some"] (spD U4))(C__law_let:ø P w K mg base 12 "_law_let" ["_law_web_here","_law_falls","_law_added","_law_side","_law_family"] (spD J2)):FnOk P w K mg base CX0 13 f fd ["_law_pen_here","_law_falls"] (spP CP fMR):=by
 refine F.ok fG dG (λcdv A outer s H vs Q E hr h=>?_)
 have nd:=fG.nd
 refine⟨_,Ĝ (Ö (Wr.Bq (Wr.dcP C__law_model hr (Ŗ 0) (À (Ë 1) Å)) (Wr.fW (n:=3) rfl (ĭ (è (i:=2) nd rfl zQ) (ĭ (è (i:=3) nd rfl zQ) (ĭ (è (i:=4) nd rfl zQ) Wr.dM)))))
  (Ö (ñ (some 0) (i:=5) nd rfl zQ (Ě Å))
  (Wr.Kf 5 true (Ö (ŵ î rfl (Ĕ (Ë 4)) (è (i:=6) nd rfl zQ) (Ö (Wr.xr (Ŗ 5) (À (Wr.dcP C__law_draw hr (Ŗ 0) (À (ğ (Ŵ B.len (À (Ë 5) Å)) Õ) Å)) (À (Ë 6) Å))) (Ă [6] Ğ)))
  (Ă [6] (Wr.sU 5 (Ö (ŵ î rfl (Ĕ (Ě (À Wr.dW (À Wr.dW Å)))) (è (i:=7) nd rfl zQ) (Ö (Wr.FP none ["_law_heap"] ["_law_pen_here","_law_falls","_law_web_here","_law_gone","_law_heaps_here","_law_turned","","_law_side","_law_short"] (i:=8) rfl nd rfl zQ (Ĕ (Ë 5)) (λc=>(è (i:=0) jE rfl zQ)) (λc=>(Wr.cI (Wr.iK (Œ C__law_need hr (À (Ë 3) (À (Ë 2) (À (Ë 8) (À (Ë 0) Å))))) Õ))) (λc=>(Ë 0)))
  (Ö (Wr.cY (Wr.wpt (Wr.gC (Wr.bJ (Wr.bC (Œ C__law_let hr (À (Ë 2) (À (Ë 1) (À (Ë 3) (À (Ë 7) (À (Ë 5) Å)))))))) (Wr.eX (Wr.bJ (Wr.bC (Œ C__law_let hr (À (Ë 2) (À (Ë 1) (À (Ë 3) (À (Ë 7) (À (Ë 8) Å))))))))))) (ý (Ē Wr.jh)) Ğ) (Ă [7,8] Ğ))))
  (Ă [7,8] (ý (Ē Wr.jh)))))))))),enterQ h ?_⟩
 rintro ds P ⟨k,rfl,k1,k2,q⟩
 refine⟨[.im (.int ((k:Int) - 1)),.any,.any,.any,.any,.any,.any,.any],rfl,?_⟩
 refine⟨rfl,k,rfl,k1,k2,λn us gs H M=>?_⟩
 have hneg:¬gb (.tuple [aD ((n:Nat):Int) us,.list (gs.map pD),.list (H.map iD)])=true:=by
  show ¬(gb (aD ((n:Nat):Int) us)&&false)=true
  rw[Bool.and_false]
  exact Ò
 refine⟨rfl,JK λs1 s2 s3 e1 e2 e3=>?_⟩
 rw[fQ (k:=Kd.new) hneg,fQ hneg] at e1 e2 e3
 rw[dD (k:=norm _ _) (d7 ((n:Nat):Int) us)] at e1
 subst e1 e2 e3
 have M:=M
 have n8:=M.n8
 have n2:=M.n2
 show Bu _ _ _ [.pen CP,.im (.int ((k:Int) - 1)),.im (aD ((n:Nat):Int) us),.sn (.list (gs.map pD)),.sn (.list (H.map iD)),.any,.any,.any,.any]
 refine⟨by decide,rfl,rfl,λ(i:Nat) ρ=>∃T:List (List Int),ρ=[.pen CP,.im (.int ((k:Int) - 1)),.im (aD ((n:Nat):Int) us),.sn (.list (gs.map pD)),.sn (.list (H.map iD)),.sp 0 true (T.map iD),.any,.any,.any]/\T.Perm (H.take i),⟨[],rfl,.refl _⟩,?_,?_⟩
 ·rintro i d ρ hd ⟨T,rfl,pT⟩
  obtain⟨h,hh,rfl⟩:=cC hd
  have hi:=(Ê.mp hh).1
  have lT:=pT.length_eq
  rw[Ģ] at lT
  have lH:=M.lH
  refine⟨rfl,(((T.map iD).length:Nat):Int)+1,rfl,by omega,by rw[Á];omega,λr r0 r1=>?_⟩
  rw[Á] at r1
  refine⟨rfl,r0,by rw[Á];omega,by rw[Á];omega,T.take r.toNat++h::T.drop r.toNat,?_,?_⟩
  ·show([ż CP,.im (.int ((k:Int) - 1)),.im (aD ((n:Nat):Int) us),.sn (.list (gs.map pD)),.sn (.list (H.map iD)),.sp 0 true ((T.map iD).take r.toNat++iD h::(T.map iD).drop r.toNat),.any,.any,.any]:List Sl)=_
   rw[Ù,à,List.map_take,ű]
  ·rw[Ľ,hh]
   show(T.take r.toNat++h::T.drop r.toNat).Perm (H.take i++[h])
   have a1:(T.take r.toNat++h::T.drop r.toNat).Perm (h::(T.take r.toNat++T.drop r.toNat)):=List.perm_middle
   rw[ų] at a1
   exact(a1.trans (pT.cons h)).trans (List.perm_append_comm (l₁:=[h]))
 ·rintro ρ ⟨T,rfl,pT⟩
  rw[Á,ē] at pT
  have lT:=pT.length_eq
  have lH:=M.lH
  have lu:=M.len
  refine⟨rfl,zK,rfl,λ(i:Nat) ρ=>ρ=[.pen CP,.im (.int ((k:Int) - 1)),.im (aD ((n:Nat):Int) us),.sn (.list (gs.map pD)),.sn (.list (H.map iD)),.sn (.list (T.map iD)),.any,.any,.any],rfl,?_,?_⟩
  ·rintro i d ρ hd rfl
   obtain⟨s,rfl,hs⟩:∃s:Str,d=.str s/\(s="in"\/s="out"):=by
    match i,hd with
    |0,hd=>exact⟨"in",(á hd).symm,.inl rfl⟩
    |1,hd=>exact⟨"out",(á hd).symm,.inr rfl⟩
   obtain⟨d1,d2⟩:=Mp M hs pT
   refine sy T iD (λl=>decide (0<WO us ((k:Int) - 1) s l)) iD .snw rfl (by omega) (λl hl A B hA hB=>?_) ?_
   ·refine⟨((n:Nat):Int),us,(k:Int) - 1,s,l,rfl,by omega,hs,?_⟩
    show if decide (0<WO us ((k:Int) - 1) s l)=true then _ else _
    cases c:decide (0<WO us ((k:Int) - 1) s l) with
    |true=>exact aM (B:=B) ⟨rfl,hA c⟩
    |false=>exact aX (A:=True) (hB c)
   refine⟨n,us,gs,(k:Int) - 1,s,T,rfl,by omega,n8,by omega,by omega,lu,M.hu,by omega,d1,?_⟩
   exact⟨n,us,gs,(k:Int) - 1,s,T.filter λl=>decide (0<WO us ((k:Int) - 1) s l),rfl,by omega,n8,by omega,by omega,lu,M.hu,by have:=List.length_filter_le (λl=>decide (0<WO us ((k:Int) - 1) s l)) T;omega,d2,rfl⟩
  ·rintro ρ rfl
   exact⟨rfl,q⟩
end
def Ly{n k:Nat}{us A:List Tie}{s:Str}{F:List (List Int)}(n1:1<=n)(n8:n<=8)(k2:k<=2)(hu:RgT n us)(h:OneOk n k us A s F):A.length<=16:=by
 obtain⟨⟨a1,a2,a3⟩,fit,tg⟩:=wj n1 n8 hu h.pap
 obtain⟨g1,g2,g3,g4⟩:=xX n1 n8 _ _ us hu fit tg
 have la:=h.perm.length_eq
 have nk:n * k<=16:=ĳ n8 k2
 have lt:(tlF n k us (sumF us ((k:Int) - 1) s F)).length=sumF us ((k:Int) - 1) s F:=gw a2
 unfold Gp at la
 omega
def Lz{n k:Nat}{us A:List Tie}{s:Str}{F:List (List Int)}(n1:1<=n)(n8:n<=8)(k2:k<=2)(hu:RgT n us)(h:OneOk n k us A s F):DueO n us A ((k:Int) - 1) s F/\F.length<=60:=by
 obtain⟨la,ra,la2,cA⟩:=Fd n1 n8 (by omega) hu h
 obtain⟨prF,ndF,llF⟩:=kO n1 n8 h.pap.fam
 exact⟨⟨h.pap.side,ra,h.so,⟨prF,ndF⟩,by omega,λX hX=>by have:=cA X hX;omega⟩,by omega⟩
section
variable {P:Program}{w:World}{K:Ú}{mg:Str->Option Value}{base:Heap}{f:Addr}{fd:FuncData}{CN P1 PT:Addr}
def G6(K:Ú)(T:Pn):Sp:=λvs H Q _=>∃(a:Addr) (ns:List Int),vs=[.ref a]/\SqL K H a (ns.map V.int)/\T.PI H/\∀H',Q (.bl true) H'
def zR{H:Hp}{a:Addr}{xs:List V}(T:(fK P1 PT).PI H)(r:Rd H a (.lst xs)):¬(fK P1 PT).fp a:=λz=>by
 have h1:∀{Q:Addr}{pos:Pos}{u:Str},lN Q pos u H->a≠Q:=λ{Q pos u} ⟨ps,h,_⟩ z=>by
  subst z
  rcases r with r|⟨o,r⟩
  ·rw[h] at r;cases r
  ·rw[h] at r;cases r
 rcases z with z|z
 ·exact h1 T.1 z
 ·exact h1 T.2 z
structure LawI(K:Ú)(P1 PT sc p:Addr)(ns:List Int)(H:Hp):Prop where
 tab:(fK P1 PT).PI H
 pen:u9 p H
 scr:(Rd H sc (.lst (ns.map V.int))/\sc≠p)\/∀H',SqL K H' sc (ns.map V.int)
def Rd.keep{H H':Hp}{a:Addr}{u:HO}(h:Rd H a u)(k:∀o,H a=some o->H' a=some o):Rd H' a u:=h.imp (k _) λ⟨o,h⟩=>⟨o,k _ h⟩
def LawI.Hz{sc p:Addr}{ns:List Int}{H:Hp}(I:LawI K P1 PT sc p ns H):¬(fK P1 PT).fp p:=by
 obtain⟨a,b,c,h⟩:=I.pen
 exact zR I.tab (.inl h)
def LawI.goT{sc p:Addr}{ns:List Int}{H H':Hp}(I:LawI K P1 PT sc p ns H)(k:Kp (fK P1 PT) H H')(t:(fK P1 PT).PI H'):LawI K P1 PT sc p ns H':=by
 have np:=I.Hz
 obtain⟨a,b,c,h⟩:=I.pen
 exact⟨t,⟨a,b,c,k p _ h np⟩,I.scr.imp (λ⟨r,n⟩=>⟨Rd.keep r λo e=>k sc o e (zR I.tab r),n⟩) id⟩
def LawI.goP{sc p:Addr}{ns:List Int}{H H':Hp}(I:LawI K P1 PT sc p ns H)(k:Kp (vR p) H H')(t:u9 p H'):LawI K P1 PT sc p ns H':=by
 have np:=I.Hz
 obtain⟨a,b,c,h⟩:=I.pen
 refine⟨(fK P1 PT).mono H H' I.tab λb o z e=>k b o e λy=>?_,t,I.scr.imp (λ⟨r,n⟩=>⟨Rd.keep r λo e=>k sc o e n,n⟩) id⟩
 have y:b=p:=y
 subst y
 rcases z with z|⟨_,_,z⟩
 ·exact np z
 ·rw[h,z] at e
  cases e
def LawI.same{sc p:Addr}{ns:List Int}{H H':Hp}(I:LawI K P1 PT sc p ns H)(k:Same H H'):LawI K P1 PT sc p ns H':=by
 obtain⟨a,b,c,h⟩:=I.pen
 exact⟨(fK P1 PT).mono H H' I.tab λb o _ e=>k b o e,⟨a,b,c,k _ _ h⟩,I.scr.imp (λ⟨r,n⟩=>⟨Rd.keep r λo e=>k _ _ e,n⟩) id⟩
def LawI.Vt{sc p:Addr}{ns:List Int}{H H':Hp}(I:LawI K P1 PT sc p ns H)(k:Kp (fK P1 PT) H H'):∀a xs,H a=some (.tup xs)->H' a=some (.tup xs):=λa xs e=>k a _ e λz=>by
 obtain⟨o,e',n⟩:=(fK P1 PT).is H a I.tab z
 rw[e] at e'
 exact n.1 xs (á e').symm
def LawI.tupP{sc p:Addr}{ns:List Int}{H H':Hp}(I:LawI K P1 PT sc p ns H)(k:Kp (vR p) H H'):∀a xs,H a=some (.tup xs)->H' a=some (.tup xs):=λa xs e=>k a _ e λz=>by
 obtain⟨x,y,c,h⟩:=I.pen
 have z:a=p:=z
 rw[z,h] at e
 cases e
def Hj{ok ok':Addr->Prop}{H:Hp}{v:V}{n:Int}{us:List Tie}(r:Rp ok H v (aD n us)):Rp ok' H v (aD n us):=(r.imm (d7 n us)).mono (λ_ o=>o.elim) (λ_ _ _ e=>e) λ_ _ e=>e
def S8:FnScope ["_law_script","_law_k","_law_pen_here","_law_falls","_law_web_here","_law_added","_law_side","_law_family"] ["_law_script"] (ao (top 63)):=zC
def Pq(d:D):Prop:=∃(n:Nat) (us:List Tie),d=aD ((n:Nat):Int) us/\1<=n/\n<=8/\us.length<=40/\RgT n us
def Ca{n:Int}{us:List Tie}(n1:1<=n)(n8:n<=8)(lu:us.length<=40)(ok:bN n us):Pq (aD n us):=by
 obtain⟨m,rfl⟩:∃m:Nat,n=((m:Nat):Int):=⟨n.toNat,by omega⟩
 exact⟨m,us,rfl,by omega,by omega,lu,ok⟩
def QG(F:Fun K "law" "law" (top 63) f fd)(B:Ĵ mg)(PN:ø P w K mg base 1 "_law_pen" ["_law_script","_law_k"] (Nu K))(WB:ø P w K mg base 4 "_law_web" ["_law_pen_here","_law_most"] (spP CP UL))(FU:ø P w K mg base 3 "_law_full" ["_law_pen_here"] (spP CP O2))(MR:ø P w K mg base 13 "_law_model_right" ["_law_pen_here","_law_falls"] (spP CP fMR))(OP:ø P w K mg base 15 "one_puts" ["one","falls"] (P0 (fK P1 PT) fOP))(LT:ø P w K mg base 12 "_law_let" ["_law_web_here","_law_falls","_law_added","_law_side","_law_family"] (spD J2)) :
  FnOk P w K mg base CX0 16 f fd ["_law_script"] (G6 K (fK P1 PT)):=by
 refine F.ok S8 (λvs H Q E h=>?_) (λcdv A outer s H vs Q E hr h=>?_)
 ·obtain⟨a,ns,rfl,_⟩:=h
  rfl
 obtain⟨sc,ns,rfl,hS,T0,q⟩:=h
 have nd:=S8.nd
 refine⟨_,į (oX î rfl (j6 rfl B.range (Ď ĝ Ŝ)) (ĺ (i:=1) nd rfl (ć rfl))
   (į (ũ (i:=2) nd rfl (ć rfl) (pcS PN hr (Ď (pv 0) (Ď (pv 1) Ŝ)) (by decide) rfl (by decide) rfl rfl))
   (į (oX î rfl (j6 rfl B.range (Ď ĝ Ŝ)) (ĺ (i:=3) nd rfl (ć rfl))
    (Ŭ (p7 (zZ (zY (pcS MR hr (Ď (pv 2) (Ď (pv 3) Ŝ)) (by decide) rfl (by decide) rfl rfl))) (Ŭ (fJ CV)) iJ)))
   (Ŭ (oX î rfl (Hw (jA (Ď (pcS WB hr (Ď (pv 2) (Ď ĝ Ŝ)) (by decide) rfl (by decide) rfl rfl) (Ď (pcS FU hr (Ď (pv 2) Ŝ) (by decide) rfl (by decide) rfl rfl) Ŝ)))) (ĺ (i:=4) nd rfl (ć rfl))
    (Ŭ (oX î rfl (j6 rfl B.range (Ď ĝ Ŝ)) (ĺ (i:=3) nd rfl (ć rfl))
     (į (oY (pcS OP hr (Ď (pv 4) (Ď (pv 3) Ŝ)) (by decide) rfl (by decide) rfl rfl) (Hx (n:=3) rfl (mZ (ĺ (i:=5) nd rfl (ć rfl)) (mZ (ĺ (i:=6) nd rfl (ć rfl)) (mZ (ĺ (i:=7) nd rfl (ć rfl)) CQ)))))
     (Ŭ (p7 (zZ (zY (pcS LT hr (Ď (pv 4) (Ď (pv 3) (Ď (pv 5) (Ď (pv 6) (Ď (pv 7) Ŝ))))) (by decide) rfl (by decide) rfl rfl))) (Ŭ (fJ CV)) iJ))))))))))
  (Ŭ (fJ CV)),?_⟩
 refine⟨2,rfl,by decide,by decide,kI (lo:=0) (n:=2) (λi σ H'=>∃a1 a2 a3 a4 a5 a6 a7,σ=[some (.ref sc),a1,a2,a3,a4,a5,a6,a7]/\(fK P1 PT).PI H'/\(Rd H' sc (.lst (ns.map V.int))\/∀H',SqL K H' sc (ns.map V.int))) ⟨_,_,_,_,_,_,_,rfl,T0,hS.imp id λh _=>.inr h⟩ ?_ ?_⟩
 ·rintro i σ H1 hi ⟨a1,a2,a3,a4,a5,a6,a7,rfl,T1,S1⟩
  refine⟨_,rfl,_,rfl,sc,ns,0+(i:Int),rfl,by omega,by omega,S1.elim .inl λh=>h H1,λp H2 s2 hp pi=>?_⟩
  have I2:LawI K P1 PT sc p ns H2:=⟨(fK P1 PT).mono H1 H2 T1 λb o _ e=>s2 b o e,pi,S1.imp (λr=>⟨Rd.keep r λo e=>s2 _ _ e,λz=>by
   subst z
   rcases r with r|⟨o,r⟩
   ·rw[hp] at r;cases r
   ·rw[hp] at r;cases r⟩) id⟩
  refine⟨2,rfl,by decide,by decide,kI (lo:=0) (n:=2) (λj σ H'=>∃a3 a4 a5 a6 a7,σ=[some (.ref sc),some (.int (0+((i:Nat):Int))),some (.ref p),a3,a4,a5,a6,a7]/\LawI K P1 PT sc p ns H') ⟨_,_,_,_,_,rfl,I2⟩ ?_ ?_⟩
  ·rintro j σ H5 hj ⟨a3,a4,a5,a6,a7,rfl,I5⟩
   refine⟨_,rfl,_,rfl,vR p,[.int (0+(j:Int))],[.int (0+(j:Int))],(λd=>d=.bool true),⟨p,rfl⟩,rfl,I5.pen,.cons (.int _) .nil,⟨j+1,by rw[show((j+1:Nat):Int) - 1=0+(j:Int) by omega],by omega,by omega,rfl⟩,?_⟩
   rintro d v H6 rfl k6 pi6 rv6
   have e6:=rv6.bl'
   subst e6
   exact⟨true,rfl,aX (A:=_) ⟨_,_,_,_,_,rfl,I5.goP k6 pi6⟩⟩
  rintro σ H5 ⟨a3,a4,a5,a6,a7,rfl,I5⟩
  refine⟨_,rfl,vR p,[.int 6],[.int 6],Pq,⟨p,rfl⟩,rfl,I5.pen,.cons (.int 6) .nil,⟨6,rfl,by decide,by decide,λn us n1 n8 lu ok=>Ca n1 n8 lu ok⟩,?_⟩
  rintro d1 v1 H6 ⟨n1,us1,rfl,w1⟩ k6 pi6 rv1
  have I6:=I5.goP k6 pi6
  have rv1:Rp (λ_=>False) H6 v1 (aD ((n1:Nat):Int) us1):=rv1.imm (d7 _ us1)
  refine⟨_,rfl,vR p,[],[],Pq,⟨p,rfl⟩,rfl,I6.pen,.nil,⟨rfl,λn us n1 n8 lu ok=>Ca n1 n8 lu ok⟩,?_⟩
  rintro d2 v2 H7 ⟨n2,us2,rfl,w2⟩ k7 pi7 rv2
  have I7:=I6.goP k7 pi7
  have rv1:Rp (λ_=>False) H7 v1 (aD ((n1:Nat):Int) us1):=rv1.mono (λ_ o=>o) (λ_ _ o=>o.elim) (I6.tupP k7)
  have rv2:Rp (λ_=>False) H7 v2 (aD ((n2:Nat):Int) us2):=rv2.imm (d7 _ us2)
  refine⟨(by show 2<=sizeLine;decide),λl hl=>⟨l,rfl,.inl ⟨⟨_,SqL.of au⟩,?_⟩⟩⟩
  have sm:Same H7 (upd H7 l (.lst [v1,v2])):=λb o e=>by rw[aq (aB e hl)];exact e
  have I8:=I7.same sm
  have mo:∀{v:V}{d:D}{H H':Hp},Rp (λ_=>False) H v d->(∀a xs,H a=some (.tup xs)->H' a=some (.tup xs))->Rp (λ_=>False) H' v d:=λr t=>r.mono (λ_ o=>o) (λ_ _ o=>o.elim) t
  refine JR (xs:=[v1,v2]) (λj σ H'=>∃a3 a4 a5 a6 a7,σ=[some (.ref sc),some (.int (0+((i:Nat):Int))),some (.ref p),a3,a4,a5,a6,a7]/\LawI K P1 PT sc p ns H'/\H' l=some (.lst [v1,v2])/\Rp (λ_=>False) H' v1 (aD ((n1:Nat):Int) us1)/\Rp (λ_=>False) H' v2 (aD ((n2:Nat):Int) us2)) ⟨_,_,_,_,_,rfl,I8,au,mo rv1 λa xs e=>sm _ _ e,mo rv2 λa xs e=>sm _ _ e⟩ (λj σ H' _ ⟨_,_,_,_,_,_,_,hl,_⟩=>SqL.of hl) ?_ ?_
  ·rintro j x σ H9 hx ⟨a3,a4,a5,a6,a7,rfl,I9,hl9,r1,r2⟩
   obtain⟨n,us,rx,n1',n8',lu,hu⟩:∃(n:Nat) (us:List Tie),Rp (λ_=>False) H9 x (aD ((n:Nat):Int) us)/\1<=n/\n<=8/\us.length<=40/\RgT n us:=by
    match j,hx with
    |0,hx=>cases hx;exact⟨n1,us1,r1,w1⟩
    |1,hx=>cases hx;exact⟨n2,us2,r2,w2⟩
   refine⟨2,rfl,by decide,by decide,kI (lo:=0) (n:=2) (λt σ H'=>∃a3 a5 a6 a7,σ=[some (.ref sc),some (.int (0+((i:Nat):Int))),some (.ref p),a3,some x,a5,a6,a7]/\LawI K P1 PT sc p ns H'/\H' l=some (.lst [v1,v2])/\Rp (λ_=>False) H' v1 (aD ((n1:Nat):Int) us1)/\Rp (λ_=>False) H' v2 (aD ((n2:Nat):Int) us2)/\Rp (λ_=>False) H' x (aD ((n:Nat):Int) us)) ⟨_,_,_,_,rfl,I9,hl9,r1,r2,rx⟩ ?_ ?_⟩
   ·rintro t σ Ha ht ⟨a3,a5,a6,a7,rfl,Ia,hla,ra1,ra2,rax⟩
    refine⟨_,rfl,_,rfl,[aD ((n:Nat):Int) us,.int (0+((t:Nat):Int))],(λd=>∃A s F,OneOk n (t+1) us A s F/\d=.tuple [.list (A.map pD),.str s,.list (F.map iD)]),Ia.tab,.cons (Hj rax) (.cons (.int _) .nil),⟨n,t+1,us,by rw[show((t+1:Nat):Int) - 1=0+((t:Nat):Int) by omega],n1',n8',by omega,by omega,by omega,hu,λA s F ok=>⟨A,s,F,ok,rfl⟩⟩,?_⟩
    rintro d v Hb ⟨A,sd,F,ok,rfl⟩ kb pib rb ds3
    have Ib:=Ia.goT kb pib
    have tb:=Ia.Vt kb
    have hlb:Hb l=some (.lst [v1,v2]):=kb l _ hla (zR Ia.tab (.inl hla))
    obtain⟨tt,xs,et,htt,rs⟩:=Rp.eO rb
    subst et
    cases rs with
    |cons rA rs=>cases rs with
     |cons rsd rs=>cases rs with
      |cons rF rs=>cases rs with
       |nil =>
    rename_i va vb vc
    refine⟨tt,_,rfl,SqT.of htt,rfl,_,_,rfl,_,_,rfl,_,_,rfl,rfl,?_⟩
    obtain⟨due,lF⟩:=Lz n1' n8' (by omega) hu ok
    have lA:=Ly n1' n8' (by omega) hu ok
    have tr:∀{v:V}{d:D},Rp (λa=>Ha a=none) Hb v d->Rp (λ_=>True) Hb v d:=λr=>r.mono (λ_ _=>trivial) (λ_ _ _ e=>e) λ_ _ e=>e
    refine⟨_,rfl,_,rfl,_,rfl,_,rfl,_,rfl,[aD ((n:Nat):Int) us,.int (((t+1:Nat):Int) - 1),.list (A.map pD),.str sd,.list (F.map iD)],(λd=>d=.bool true),.cons (Hj (mo rax tb)) (.cons (by rw[show((t+1:Nat):Int) - 1=0+((t:Nat):Int) by omega];exact .int _) (.cons (tr rA) (.cons (tr rsd) (.cons (tr rF) .nil)))),⟨n,us,A,_,sd,F,rfl,n1',n8',by omega,by omega,by omega,hu,lF,due,rfl⟩,?_⟩
    rintro d v Hc rfl smc rvc
    have ec:=rvc.bl'
    subst ec
    have tc:∀a xs,Hb a=some (.tup xs)->Hc a=some (.tup xs):=λa xs e=>smc _ _ e
    exact⟨true,rfl,aX (A:=_) ⟨_,_,_,_,rfl,Ib.same smc,smc _ _ hlb,mo (mo ra1 tb) tc,mo (mo ra2 tb) tc,mo (mo rax tb) tc⟩⟩
   ·rintro σ Ha ⟨a3,a5,a6,a7,rfl,Ia,hla,ra1,ra2,rax⟩
    exact⟨_,_,_,_,_,rfl,Ia,hla,ra1,ra2⟩
  ·rintro σ H9 ⟨a3,a4,a5,a6,a7,rfl,I9,_⟩
   exact⟨_,_,_,_,_,_,_,rfl,I9.tab,I9.scr.imp (λr=>r.1) id⟩
 ·rintro σ H1 ⟨a1,a2,a3,a4,a5,a6,a7,rfl,_,_⟩
  exact q H1
end
def len1{α:Type}:∀us:List α,us.length=1->∃a,us=[a]
 |[a],_=>⟨a,rfl⟩
def len2{α:Type}:∀us:List α,us.length=2->∃a b,us=[a,b]
 |[a,b],_=>⟨a,b,rfl⟩
def V9{α:Type}:∀us:List α,us.length=3->∃a b c,us=[a,b,c]
 |[a,b,c],_=>⟨a,b,c,rfl⟩
def Bd{α:Type}:∀us:List α,us.length=4->∃a b c d,us=[a,b,c,d]
 |[a,b,c,d],_=>⟨a,b,c,d,rfl⟩
def Ul{α:Type}:∀us:List α,us.length=5->∃a b c d e,us=[a,b,c,d,e]
 |[a,b,c,d,e],_=>⟨a,b,c,d,e,rfl⟩
def aA{K:Ú}{f:Addr}{oc:Value}{od:Option Addr}{fd:FuncData}{sl:Array (Option Value)}(l:K.lookup f=some ⟨oc,od,.func fd,sl⟩):W.keepIn K (.ref f)=true:=by
 unfold W.keepIn
 simp only[l]
def aC{P:Program}{w:World}{K:Ú}{mg:Str->Option Value}{base:Heap}{k:Nat}{x:Str}{st:Stmt}{f:Addr}{fd:FuncData}{ps:List Str}{sp:Sp}(F:Fun K x x st f fd)(b:Binds K fd ps [])(m:mg x=some (.ref f))(h:FnOk P w K mg base CX0 k f fd ps sp) :
  ø P w K mg base k x ps sp:=⟨f,fd,h,b,F.kp,m⟩
abbrev zl(K:Ú)(f:Addr)(x:Str)(st:Stmt)(oc:Value)(od:Option Addr)(kV dc pm:Value)(an:Option Addr)(cd ct:Value)(sl:Array (Option Value)):Prop:=K.lookup f=some ⟨oc,od,.func (W.fnOf x x (d9 st) (bT st) (ao st) .none kV dc pm an cd ct),sl⟩
abbrev za(K:Ú)(x:Str)(f:Addr):Prop:=W.nsIn K mainGlobals x=some (some (.ref f))
abbrev zc(K:Ú)(x:Str)(cd:Value):Prop:=W.codeIn K cd x=true
abbrev zn(K:Ú)(x:Str):Prop:=W.nsIn K mainGlobals x=some none
def all_mk{l:W.OpenLaw}{w:World}{K:Ú}{h:Heap}{mg:Str->Option Value}{kb kp P1 PT fa f0 f1 f2 f3 f4 f5 f6 f7 f8 f9 f10 f11 f12 f13 f14 f15 f16 f17 f18 f19 f20 f21 f22 f23 f24 f25 f26 f27 f28 f29 f30 f31 f32 f33 f34 f35 f36 f37 f38 f39 f40 f41 f42 f43 f44 f45 f46 f47 f48 f49 f50:Addr}(hT:∀Q∈([P1,PT]:List Addr),h.get? Q=some (W.tabObj #[]))(X:K.In h)(G:h.Ns mainGlobals mg)(hfa:mg "law"=some (.ref fa)){od0 an0 od1 an1 od2 an2 od3 an3 od4 an4 od5 an5 od6 an6 od7 an7 od8 an8 od9 an9 od10 an10 od11 an11 od12 an12 od13 an13 od14 an14 od15 an15 od16 an16 od17 an17 od18 an18 od19 an19 od20 an20 od21 an21 od22 an22 od23 an23 od24 an24 od25 an25 od26 an26 od27 an27 od28 an28 od29 an29 od30 an30 od31 an31 od32 an32 od33 an33 od34 an34 od35 an35 od36 an36 od37 an37 od38 an38 od39 an39 od40 an40 od41 an41 od42 an42 od43 an43 od44 an44 od45 an45 od46 an46 od47 an47 od48 an48 od49 an49 od50 an50:Option Addr}{sl0 sl1 sl2 sl3 sl4 sl5 sl6 sl7 sl8 sl9 sl10 sl11 sl12 sl13 sl14 sl15 sl16 sl17 sl18 sl19 sl20 sl21 sl22 sl23 sl24 sl25 sl26 sl27 sl28 sl29 sl30 sl31 sl32 sl33 sl34 sl35 sl36 sl37 sl38 sl39 sl40 sl41 sl42 sl43 sl44 sl45 sl46 sl47 sl48 sl49 sl50:Array (Option Value)}{oc0 kV0 dc0 pm0 cd0 ct0 oc1 kV1 dc1 pm1 cd1 ct1 oc2 kV2 dc2 pm2 cd2 ct2 oc3 kV3 dc3 pm3 cd3 ct3 oc4 kV4 dc4 pm4 cd4 ct4 oc5 kV5 dc5 pm5 cd5 ct5 oc6 kV6 dc6 pm6 cd6 ct6 oc7 kV7 dc7 pm7 cd7 ct7 oc8 kV8 dc8 pm8 cd8 ct8 oc9 kV9 dc9 pm9 cd9 ct9 oc10 kV10 dc10 pm10 cd10 ct10 oc11 kV11 dc11 pm11 cd11 ct11 oc12 kV12 dc12 pm12 cd12 ct12 oc13 kV13 dc13 pm13 cd13 ct13 oc14 kV14 dc14 pm14 cd14 ct14 oc15 kV15 dc15 pm15 cd15 ct15 oc16 kV16 dc16 pm16 cd16 ct16 oc17 kV17 dc17 pm17 cd17 ct17 oc18 kV18 dc18 pm18 cd18 ct18 oc19 kV19 dc19 pm19 cd19 ct19 oc20 kV20 dc20 pm20 cd20 ct20 oc21 kV21 dc21 pm21 cd21 ct21 oc22 kV22 dc22 pm22 cd22 ct22 oc23 kV23 dc23 pm23 cd23 ct23 oc24 kV24 dc24 pm24 cd24 ct24 oc25 kV25 dc25 pm25 cd25 ct25 oc26 kV26 dc26 pm26 cd26 ct26 oc27 kV27 dc27 pm27 cd27 ct27 oc28 kV28 dc28 pm28 cd28 ct28 oc29 kV29 dc29 pm29 cd29 ct29 oc30 kV30 dc30 pm30 ct30 oc31 kV31 dc31 pm31 ct31 oc32 kV32 dc32 pm32 cd32 ct32 oc33 kV33 dc33 pm33 cd33 ct33 oc34 kV34 dc34 pm34 cd34 ct34 oc35 kV35 dc35 pm35 cd35 ct35 oc36 kV36 dc36 pm36 cd36 ct36 oc37 kV37 dc37 pm37 cd37 ct37 oc38 kV38 dc38 pm38 cd38 ct38 oc39 kV39 dc39 pm39 cd39 ct39 oc40 kV40 dc40 pm40 cd40 ct40 oc41 kV41 dc41 pm41 cd41 ct41 oc42 kV42 dc42 pm42 cd42 ct42 oc43 kV43 dc43 pm43 cd43 ct43 oc44 kV44 dc44 pm44 cd44 ct44 oc45 kV45 dc45 pm45 cd45 ct45 oc46 kV46 dc46 pm46 cd46 ct46 oc47 kV47 dc47 pm47 cd47 ct47 oc48 kV48 dc48 pm48 cd48 ct48 oc49 kV49 dc49 pm49 cd49 ct49 oc50 kV50 dc50 pm50 cd50 ct50:Value}(a0:za K "is_whole" f0)(l0:zl K f0 "is_whole" (top 4) oc0 od0 kV0 dc0 pm0 an0 cd0 ct0 sl0)(c0:zc K "is_whole" cd0)(a1:za K "is_below" f1)(l1:zl K f1 "is_below" (top 5) oc1 od1 kV1 dc1 pm1 an1 cd1 ct1 sl1)(c1:zc K "is_below" cd1)(a2:za K "is_tie" f2)(l2:zl K f2 "is_tie" (top 6) oc2 od2 kV2 dc2 pm2 an2 cd2 ct2 sl2)(c2:zc K "is_tie" cd2)(a3:za K "with_ties" f3)(l3:zl K f3 "with_ties" (top 7) oc3 od3 kV3 dc3 pm3 an3 cd3 ct3 sl3)(c3:zc K "with_ties" cd3)(a4:za K "hops" f4)(l4:zl K f4 "hops" (top 9) oc4 od4 kV4 dc4 pm4 an4 cd4 ct4 sl4)(c4:zc K "hops" cd4)(a5:za K "is_rising" f5)(l5:zl K f5 "is_rising" (top 11) oc5 od5 kV5 dc5 pm5 an5 cd5 ct5 sl5)(c5:zc K "is_rising" cd5)(a6:za K "is_proper_set" f6)(l6:zl K f6 "is_proper_set" (top 12) oc6 od6 kV6 dc6 pm6 an6 cd6 ct6 sl6)(c6:zc K "is_proper_set" cd6)(a7:za K "check_set" f7)(l7:zl K f7 "check_set" (top 13) oc7 od7 kV7 dc7 pm7 an7 cd7 ct7 sl7)(c7:zc K "check_set" cd7)(a8:za K "sets_below" f8)(l8:zl K f8 "sets_below" (top 14) oc8 od8 kV8 dc8 pm8 an8 cd8 ct8 sl8)(c8:zc K "sets_below" cd8)(a9:za K "proper_sets" f9)(l9:zl K f9 "proper_sets" (top 15) oc9 od9 kV9 dc9 pm9 an9 cd9 ct9 sl9)(c9:zc K "proper_sets" cd9)(a10:za K "leaves" f10)(l10:zl K f10 "leaves" (top 16) oc10 od10 kV10 dc10 pm10 an10 cd10 ct10 sl10)(c10:zc K "leaves" cd10)(a11:za K "ties_that_leave" f11)(l11:zl K f11 "ties_that_leave" (top 17) oc11 od11 kV11 dc11 pm11 an11 cd11 ct11 sl11)(c11:zc K "ties_that_leave" cd11)(a12:za K "is_family" f12)(l12:zl K f12 "is_family" (top 19) oc12 od12 kV12 dc12 pm12 an12 cd12 ct12 sl12)(c12:zc K "is_family" cd12)(a13:za K "check_family" f13)(l13:zl K f13 "check_family" (top 20) oc13 od13 kV13 dc13 pm13 an13 cd13 ct13 sl13)(c13:zc K "check_family" cd13)(a14:za K "best_with" f14)(l14:zl K f14 "best_with" (top 21) oc14 od14 kV14 dc14 pm14 an14 cd14 ct14 sl14)(c14:zc K "best_with" cd14)(a15:za K "heaviest_apart" f15)(l15:zl K f15 "heaviest_apart" (top 22) oc15 od15 kV15 dc15 pm15 an15 cd15 ct15 sl15)(c15:zc K "heaviest_apart" cd15)(a16:za K "heaviest_family" f16)(l16:zl K f16 "heaviest_family" (top 23) oc16 od16 kV16 dc16 pm16 an16 cd16 ct16 sl16)(c16:zc K "heaviest_family" cd16)(a17:za K "are_leads" f17)(l17:zl K f17 "are_leads" (top 25) oc17 od17 kV17 dc17 pm17 an17 cd17 ct17 sl17)(c17:zc K "are_leads" cd17)(a18:za K "ins" f18)(l18:zl K f18 "ins" (top 27) oc18 od18 kV18 dc18 pm18 an18 cd18 ct18 sl18)(c18:zc K "ins" cd18)(a19:za K "outs" f19)(l19:zl K f19 "outs" (top 28) oc19 od19 kV19 dc19 pm19 an19 cd19 ct19 sl19)(c19:zc K "outs" cd19)(a20:za K "ties_by" f20)(l20:zl K f20 "ties_by" (top 29) oc20 od20 kV20 dc20 pm20 an20 cd20 ct20 sl20)(c20:zc K "ties_by" cd20)(a21:za K "one_need" f21)(l21:zl K f21 "one_need" (top 30) oc21 od21 kV21 dc21 pm21 an21 cd21 ct21 sl21)(c21:zc K "one_need" cd21)(a22:za K "one_bound" f22)(l22:zl K f22 "one_bound" (top 31) oc22 od22 kV22 dc22 pm22 an22 cd22 ct22 sl22)(c22:zc K "one_bound" cd22)(a23:za K "one_stands" f23)(l23:zl K f23 "one_stands" (top 33) oc23 od23 kV23 dc23 pm23 an23 cd23 ct23 sl23)(c23:zc K "one_stands" cd23)(a24:za K "is_side" f24)(l24:zl K f24 "is_side" (top 34) oc24 od24 kV24 dc24 pm24 an24 cd24 ct24 sl24)(c24:zc K "is_side" cd24)(a25:za K "one_lets_by" f25)(l25:zl K f25 "one_lets_by" (top 35) oc25 od25 kV25 dc25 pm25 an25 cd25 ct25 sl25)(c25:zc K "one_lets_by" cd25)(a26:za K "with_spares" f26)(l26:zl K f26 "with_spares" (top 37) oc26 od26 kV26 dc26 pm26 an26 cd26 ct26 sl26)(c26:zc K "with_spares" cd26)(a27:za K "fewest_ends" f27)(l27:zl K f27 "fewest_ends" (top 38) oc27 od27 kV27 dc27 pm27 an27 cd27 ct27 sl27)(c27:zc K "fewest_ends" cd27)(a28:za K "can_be_tied" f28)(l28:zl K f28 "can_be_tied" (top 39) oc28 od28 kV28 dc28 pm28 an28 cd28 ct28 sl28)(c28:zc K "can_be_tied" cd28)(a29:za K "tied" f29)(l29:zl K f29 "tied" (top 40) oc29 od29 kV29 dc29 pm29 an29 cd29 ct29 sl29)(c29:zc K "tied" cd29)(a30:za K "best_by" f30)(l30:zl K f30 "best_by" (top 42) oc30 od30 kV30 dc30 pm30 an30 (.ref kb) ct30 sl30)(c30:zc K "best_by" (.ref kb))(a31:za K "best_paper" f31)(l31:zl K f31 "best_paper" (top 43) oc31 od31 kV31 dc31 pm31 an31 (.ref kp) ct31 sl31)(c31:zc K "best_paper" (.ref kp))(a32:za K "so_many_ends" f32)(l32:zl K f32 "so_many_ends" (top 44) oc32 od32 kV32 dc32 pm32 an32 cd32 ct32 sl32)(c32:zc K "so_many_ends" cd32)(a33:za K "tie_tails" f33)(l33:zl K f33 "tie_tails" (top 45) oc33 od33 kV33 dc33 pm33 an33 cd33 ct33 sl33)(c33:zc K "tie_tails" cd33)(a34:za K "one_puts" f34)(l34:zl K f34 "one_puts" (top 46) oc34 od34 kV34 dc34 pm34 an34 cd34 ct34 sl34)(c34:zc K "one_puts" cd34)(a35:za K "_law_pen" f35)(l35:zl K f35 "_law_pen" (top 48) oc35 od35 kV35 dc35 pm35 an35 cd35 ct35 sl35)(c35:zc K "_law_pen" cd35)(a36:za K "_law_draw" f36)(l36:zl K f36 "_law_draw" (top 49) oc36 od36 kV36 dc36 pm36 an36 cd36 ct36 sl36)(c36:zc K "_law_draw" cd36)(a37:za K "_law_order" f37)(l37:zl K f37 "_law_order" (top 50) oc37 od37 kV37 dc37 pm37 an37 cd37 ct37 sl37)(c37:zc K "_law_order" cd37)(a38:za K "_law_pair" f38)(l38:zl K f38 "_law_pair" (top 51) oc38 od38 kV38 dc38 pm38 an38 cd38 ct38 sl38)(c38:zc K "_law_pair" cd38)(a39:za K "_law_grouped" f39)(l39:zl K f39 "_law_grouped" (top 52) oc39 od39 kV39 dc39 pm39 an39 cd39 ct39 sl39)(c39:zc K "_law_grouped" cd39)(a40:za K "_law_ties" f40)(l40:zl K f40 "_law_ties" (top 53) oc40 od40 kV40 dc40 pm40 an40 cd40 ct40 sl40)(c40:zc K "_law_ties" cd40)(a41:za K "_law_web" f41)(l41:zl K f41 "_law_web" (top 54) oc41 od41 kV41 dc41 pm41 an41 cd41 ct41 sl41)(c41:zc K "_law_web" cd41)(a42:za K "_law_full" f42)(l42:zl K f42 "_law_full" (top 55) oc42 od42 kV42 dc42 pm42 an42 cd42 ct42 sl42)(c42:zc K "_law_full" cd42)(a43:za K "_law_heaps" f43)(l43:zl K f43 "_law_heaps" (top 56) oc43 od43 kV43 dc43 pm43 an43 cd43 ct43 sl43)(c43:zc K "_law_heaps" cd43)(a44:za K "_law_one" f44)(l44:zl K f44 "_law_one" (top 57) oc44 od44 kV44 dc44 pm44 an44 cd44 ct44 sl44)(c44:zc K "_law_one" cd44)(a45:za K "_law_model" f45)(l45:zl K f45 "_law_model" (top 58) oc45 od45 kV45 dc45 pm45 an45 cd45 ct45 sl45)(c45:zc K "_law_model" cd45)(a46:za K "_law_into" f46)(l46:zl K f46 "_law_into" (top 59) oc46 od46 kV46 dc46 pm46 an46 cd46 ct46 sl46)(c46:zc K "_law_into" cd46)(a47:za K "_law_need" f47)(l47:zl K f47 "_law_need" (top 60) oc47 od47 kV47 dc47 pm47 an47 cd47 ct47 sl47)(c47:zc K "_law_need" cd47)(a48:za K "_law_let" f48)(l48:zl K f48 "_law_let" (top 61) oc48 od48 kV48 dc48 pm48 an48 cd48 ct48 sl48)(c48:zc K "_law_let" cd48)(a49:za K "_law_model_right" f49)(l49:zl K f49 "_law_model_right" (top 62) oc49 od49 kV49 dc49 pm49 an49 cd49 ct49 sl49)(c49:zc K "_law_model_right" cd49)(a50:za K "law" f50)(l50:zl K f50 "law" (top 63) oc50 od50 kV50 dc50 pm50 an50 cd50 ct50 sl50)(c50:zc K "law" cd50)(z0:zn K "isinstance")(z1:zn K "int")(z2:zn K "bool")(z3:zn K "tuple")(z4:zn K "list")(z5:zn K "len")(z6:zn K "all")(z7:zn K "min")(z8:zn K "max")(z9:zn K "sorted")(z10:zn K "range")(z11:zn K "abs")(z12:zn K "zip")(z13:zn K "set")(z14:zn K "sum")(z15:zn K "str"){oc_kb:Value}{od_kb:Option Addr}{vs_kb:Array Value}{sl_kb:Array (Option Value)}(lc_kb:K.lookup kb=some ⟨oc_kb,od_kb,.fields vs_kb,sl_kb⟩)(v11_kb:vs_kb[11]?=some (.ref P1))(hP0_kb:K.lookup P1=none)(hcI_kb:W.codeHdIn K kb P1=true){oc_kp:Value}{od_kp:Option Addr}{vs_kp:Array Value}{sl_kp:Array (Option Value)}(lc_kp:K.lookup kp=some ⟨oc_kp,od_kp,.fields vs_kp,sl_kp⟩)(v11_kp:vs_kp[11]?=some (.ref PT))(hP0_kp:K.lookup PT=none)(hcI_kp:W.codeHdIn K kp PT=true)(nP:P1≠PT)
  :
  ∃(K':Ú) (Ps:List Addr) (fd:FuncData) (sp:Sp),K'.In h/\(∀PT∈Ps,K'.lookup PT=none)/\(∀PT∈Ps,∃c,W.CodeHd h c PT)/\(∀PT∈Ps,h.get? PT=some (W.tabObj #[]))/\(∀(s:Shared) (u:Value),BindsTo s fd ⟨[u],[]⟩ [("_law_script",u)]) /\
    (∀base:Heap,K'.In base->base.Ns mainGlobals mg->(∀PT∈Ps,base.BuiltinsAt mg PT)->(∃o,base.get? sysModules=some o)->FnOk l.prog w K' mg base CX0 16 fa fd ["_law_script"] sp)/\∀(H:Hp) (a:Addr) (ns:List Int),SqL K' H a (ns.map V.int)->(∀PT∈Ps,H PT=some (.tbl #[]))->sp [.ref a] H (λv _=>v=.bl true) λ_ _ _=>False:=by
 have e:=hfa.symm.trans (û X G a50)
 cases e
 have F0:=ď (st:=top 4) l0 c0 (aA l0)
 have b0:=F0.binds (ps:=["thing"])
 have m0:=û X G a0
 have F1:=ď (st:=top 5) l1 c1 (aA l1)
 have b1:=F1.binds (ps:=["limit","thing"])
 have m1:=û X G a1
 have F2:=ď (st:=top 6) l2 c2 (aA l2)
 have b2:=F2.binds (ps:=["n","thing"])
 have m2:=û X G a2
 have F3:=ď (st:=top 7) l3 c3 (aA l3)
 have b3:=F3.binds (ps:=["web","added"])
 have m3:=û X G a3
 have F4:=ď (st:=top 9) l4 c4 (aA l4)
 have b4:=F4.binds (ps:=["places"])
 have m4:=û X G a4
 have F5:=ď (st:=top 11) l5 c5 (aA l5)
 have b5:=F5.binds (ps:=["limit","thing"])
 have m5:=û X G a5
 have F6:=ď (st:=top 12) l6 c6 (aA l6)
 have b6:=F6.binds (ps:=["n","thing"])
 have m6:=û X G a6
 have F7:=ď (st:=top 13) l7 c7 (aA l7)
 have b7:=F7.binds (ps:=["web","thing"])
 have m7:=û X G a7
 have F8:=ď (st:=top 14) l8 c8 (aA l8)
 have b8:=F8.binds (ps:=["count"])
 have m8:=û X G a8
 have F9:=ď (st:=top 15) l9 c9 (aA l9)
 have b9:=F9.binds (ps:=["n"])
 have m9:=û X G a9
 have F10:=ď (st:=top 16) l10 c10 (aA l10)
 have b10:=F10.binds (ps:=["tie","some"])
 have m10:=û X G a10
 have F11:=ď (st:=top 17) l11 c11 (aA l11)
 have b11:=F11.binds (ps:=["web","some"])
 have m11:=û X G a11
 have F12:=ď (st:=top 19) l12 c12 (aA l12)
 have b12:=F12.binds (ps:=["n","thing"])
 have m12:=û X G a12
 have F13:=ď (st:=top 20) l13 c13 (aA l13)
 have b13:=F13.binds (ps:=["web","thing"])
 have m13:=û X G a13
 have F14:=ď (st:=top 21) l14 c14 (aA l14)
 have b14:=F14.binds (ps:=["weights","best","top","rest"]) λ_ _ _ _ _ _ us hl=>by obtain⟨_,_,_,_,rfl⟩:=Bd us hl;rfl
 have m14:=û X G a14
 have F15:=ď (st:=top 22) l15 c15 (aA l15)
 have b15:=F15.binds (ps:=["weights"])
 have m15:=û X G a15
 have F16:=ď (st:=top 23) l16 c16 (aA l16)
 have b16:=F16.binds (ps:=["n","weigh"])
 have m16:=û X G a16
 have F17:=ď (st:=top 25) l17 c17 (aA l17)
 have b17:=F17.binds (ps:=["web","thing"])
 have m17:=û X G a17
 have F18:=ď (st:=top 27) l18 c18 (aA l18)
 have b18:=F18.binds (ps:=["one","some"])
 have m18:=û X G a18
 have F19:=ď (st:=top 28) l19 c19 (aA l19)
 have b19:=F19.binds (ps:=["one","some"])
 have m19:=û X G a19
 have F20:=ď (st:=top 29) l20 c20 (aA l20)
 have b20:=F20.binds (ps:=["one","side","some"])
 have m20:=û X G a20
 have F21:=ď (st:=top 30) l21 c21 (aA l21)
 have b21:=F21.binds (ps:=["one","falls","side","some"]) λ_ _ _ _ _ _ us hl=>by obtain⟨_,_,_,_,rfl⟩:=Bd us hl;rfl
 have m21:=û X G a21
 have F22:=ď (st:=top 31) l22 c22 (aA l22)
 have b22:=F22.binds (ps:=["one","falls","side","family"]) λ_ _ _ _ _ _ us hl=>by obtain⟨_,_,_,_,rfl⟩:=Bd us hl;rfl
 have m22:=û X G a22
 have F23:=ď (st:=top 33) l23 c23 (aA l23)
 have b23:=F23.binds (ps:=["one","falls"])
 have m23:=û X G a23
 have F24:=ď (st:=top 34) l24 c24 (aA l24)
 have b24:=F24.binds (ps:=["thing"])
 have m24:=û X G a24
 have F25:=ď (st:=top 35) l25 c25 (aA l25)
 have b25:=F25.binds (ps:=["one","falls","added","side","family"]) λ_ _ _ _ _ _ us hl=>by obtain⟨_,_,_,_,_,rfl⟩:=Ul us hl;rfl
 have m25:=û X G a25
 have F26:=ď (st:=top 37) l26 c26 (aA l26)
 have b26:=F26.binds (ps:=["rows","ends","most"])
 have m26:=û X G a26
 have F27:=ď (st:=top 38) l27 c27 (aA l27)
 have b27:=F27.binds (ps:=["n","rows","most"])
 have m27:=û X G a27
 have F28:=ď (st:=top 39) l28 c28 (aA l28)
 have b28:=F28.binds (ps:=["spares","a","b","taken"]) λ_ _ _ _ _ _ us hl=>by obtain⟨_,_,_,_,rfl⟩:=Bd us hl;rfl
 have m28:=û X G a28
 have F29:=ď (st:=top 40) l29 c29 (aA l29)
 have b29:=F29.binds (ps:=["spares","a","b","taken"]) λ_ _ _ _ _ _ us hl=>by obtain⟨_,_,_,_,rfl⟩:=Bd us hl;rfl
 have m29:=û X G a29
 have F30:=ď (st:=top 42) l30 c30 (aA l30)
 have b30:=F30.binds (ps:=["one","falls","side"])
 have m30:=û X G a30
 have F31:=ď (st:=top 43) l31 c31 (aA l31)
 have b31:=F31.binds (ps:=["one","falls"])
 have m31:=û X G a31
 have F32:=ď (st:=top 44) l32 c32 (aA l32)
 have b32:=F32.binds (ps:=["n","rows","most","count"]) λ_ _ _ _ _ _ us hl=>by obtain⟨_,_,_,_,rfl⟩:=Bd us hl;rfl
 have m32:=û X G a32
 have F33:=ď (st:=top 45) l33 c33 (aA l33)
 have b33:=F33.binds (ps:=["spares","tails","heads"])
 have m33:=û X G a33
 have F34:=ď (st:=top 46) l34 c34 (aA l34)
 have b34:=F34.binds (ps:=["one","falls"])
 have m34:=û X G a34
 have F35:=ď (st:=top 48) l35 c35 (aA l35)
 have b35:=F35.binds (ps:=["_law_script","_law_k"])
 have m35:=û X G a35
 have F36:=ď (st:=top 49) l36 c36 (aA l36)
 have b36:=F36.binds (ps:=["_law_pen_here","_law_many"])
 have m36:=û X G a36
 have F37:=ď (st:=top 50) l37 c37 (aA l37)
 have b37:=F37.binds (ps:=["_law_pen_here","_law_n"])
 have m37:=û X G a37
 have F38:=ď (st:=top 51) l38 c38 (aA l38)
 have b38:=F38.binds (ps:=["_law_pen_here","_law_n"])
 have m38:=û X G a38
 have F39:=ď (st:=top 52) l39 c39 (aA l39)
 have b39:=F39.binds (ps:=["_law_pen_here","_law_n"])
 have m39:=û X G a39
 have F40:=ď (st:=top 53) l40 c40 (aA l40)
 have b40:=F40.binds (ps:=["_law_pen_here","_law_n"])
 have m40:=û X G a40
 have F41:=ď (st:=top 54) l41 c41 (aA l41)
 have b41:=F41.binds (ps:=["_law_pen_here","_law_most"])
 have m41:=û X G a41
 have F42:=ď (st:=top 55) l42 c42 (aA l42)
 have b42:=F42.binds (ps:=["_law_pen_here"])
 have m42:=û X G a42
 have F43:=ď (st:=top 56) l43 c43 (aA l43)
 have b43:=F43.binds (ps:=["_law_pen_here"])
 have m43:=û X G a43
 have F44:=ď (st:=top 57) l44 c44 (aA l44)
 have b44:=F44.binds (ps:=["_law_pen_here","_law_some"])
 have m44:=û X G a44
 have F45:=ď (st:=top 58) l45 c45 (aA l45)
 have b45:=F45.binds (ps:=["_law_pen_here","_law_falls"])
 have m45:=û X G a45
 have F46:=ď (st:=top 59) l46 c46 (aA l46)
 have b46:=F46.binds (ps:=["_law_ties_here","_law_some"])
 have m46:=û X G a46
 have F47:=ď (st:=top 60) l47 c47 (aA l47)
 have b47:=F47.binds (ps:=["_law_web_here","_law_falls","_law_side","_law_some"]) λ_ _ _ _ _ _ us hl=>by obtain⟨_,_,_,_,rfl⟩:=Bd us hl;rfl
 have m47:=û X G a47
 have F48:=ď (st:=top 61) l48 c48 (aA l48)
 have b48:=F48.binds (ps:=["_law_web_here","_law_falls","_law_added","_law_side","_law_family"]) λ_ _ _ _ _ _ us hl=>by obtain⟨_,_,_,_,_,rfl⟩:=Ul us hl;rfl
 have m48:=û X G a48
 have F49:=ď (st:=top 62) l49 c49 (aA l49)
 have b49:=F49.binds (ps:=["_law_pen_here","_law_falls"])
 have m49:=û X G a49
 have F50:=ď (st:=top 63) l50 c50 (aA l50)
 have B:Ĵ mg:=⟨ħ X G z0,ħ X G z1,ħ X G z2,ħ X G z3,ħ X G z4,ħ X G z5,ħ X G z6,ħ X G z7,ħ X G z8,ħ X G z9,ħ X G z10,ħ X G z11⟩
 have N12:=ħ X G z12
 have N13:=ħ X G z13
 have N14:=ħ X G z14
 have N15:=ħ X G z15
 have HC_kb:∀h:Heap,K.In h->W.CodeHd h kb P1:=λh X2=>W.codeHd_of_K X2 hcI_kb
 have HC_kp:∀h:Heap,K.In h->W.CodeHd h kp PT:=λh X2=>W.codeHd_of_K X2 hcI_kp
 have HP0:∀Q∈([P1,PT]:List Addr),K.lookup Q=none:=(λQ hQ=>by
  simp only[Ñ,List.not_mem_nil,or_false] at hQ
  rcases hQ with rfl|rfl
  ·exact hP0_kb
  ·exact hP0_kp)
 have HCE:∀Q∈([P1,PT]:List Addr),∃c,W.CodeHd h c Q:=(λQ hQ=>by
  simp only[Ñ,List.not_mem_nil,or_false] at hQ
  rcases hQ with rfl|rfl
  ·exact⟨_,HC_kb h X⟩
  ·exact⟨_,HC_kp h X⟩)
 refine⟨K,[P1,PT],W.fnOf "law" "law" (d9 (top 63)) (bT (top 63)) (ao (top 63)) .none kV50 dc50 pm50 an50 cd50 ct50,G6 K (fK P1 PT),X,HP0,HCE,hT,λs v=>.of_eq rfl,λbase _ _ hBm SY=>?_,λH a ns hS hT=>⟨a,ns,rfl,hS,⟨⟨_,hT P1 Æ,.inl rfl⟩,⟨_,hT PT (Ã _ Æ),.inl rfl⟩⟩,λ_=>rfl⟩⟩
 have C0:=λbase=>aC F0 b0 m0 (Jb (P:=l.prog) (w:=w) (base:=base) F0 B)
 have C1:=λbase=>aC F1 b1 m1 (Jd (P:=l.prog) (w:=w) (base:=base) F1 (C0 base))
 have C2:=λbase=>aC F2 b2 m2 (Fj (P:=l.prog) (w:=w) (base:=base) F2 B (C1 base))
 have C3:=λbase=>aC F3 b3 m3 (wu (P:=l.prog) (w:=w) (base:=base) F3 B)
 have C4:=λbase=>aC F4 b4 m4 (Mf (P:=l.prog) (w:=w) (base:=base) F4 B N12)
 have C5:=λbase=>aC F5 b5 m5 (Fe (P:=l.prog) (w:=w) (base:=base) F5 B (C1 base) (C4 base))
 have C6:=λbase=>aC F6 b6 m6 (Fg (P:=l.prog) (w:=w) (base:=base) F6 B (C5 base))
 have C7:=λbase=>aC F7 b7 m7 (yK (P:=l.prog) (w:=w) (base:=base) F7 (C6 base))
 have C8:=λbase=>aC F8 b8 m8 (T5 (P:=l.prog) (w:=w) (base:=base) F8 B)
 have C9:=λbase=>aC F9 b9 m9 (rJ (P:=l.prog) (w:=w) (base:=base) F9 B (C8 base))
 have C10:=λbase=>aC F10 b10 m10 (Fi (P:=l.prog) (w:=w) (base:=base) F10 )
 have C11:=λbase=>aC F11 b11 m11 (QD (P:=l.prog) (w:=w) (base:=base) F11 (C7 base) (C10 base))
 have C12:=λbase=>aC F12 b12 m12 (QK (P:=l.prog) (w:=w) (base:=base) F12 B N13 (C6 base))
 have C13:=λbase=>aC F13 b13 m13 (qu (P:=l.prog) (w:=w) (base:=base) F13 B (C12 base))
 have C14:=λbase=>aC F14 b14 m14 (wD (P:=l.prog) (w:=w) (base:=base) F14 B)
 have C15:=λbase=>aC F15 b15 m15 (nC (P:=l.prog) (w:=w) (base:=base) F15 B (C14 base))
 have C17:=λbase=>aC F17 b17 m17 (wF (P:=l.prog) (w:=w) (base:=base) F17 B (C2 base))
 have C18:=λbase=>aC F18 b18 m18 (QJ (P:=l.prog) (w:=w) (base:=base) F18 B (C11 base))
 have C19:=λbase=>aC F19 b19 m19 (Ma (P:=l.prog) (w:=w) (base:=base) F19 B (C11 base))
 have C20:=λbase=>aC F20 b20 m20 (T4 (P:=l.prog) (w:=w) (base:=base) F20 (C18 base) (C19 base))
 have C21:=λbase=>aC F21 b21 m21 (T6 (P:=l.prog) (w:=w) (base:=base) F21 B (C20 base))
 have C22:=λbase=>aC F22 b22 m22 (wA (P:=l.prog) (w:=w) (base:=base) F22 B N14 (C13 base) (C21 base))
 have C23:=λbase=>aC F23 b23 m23 (tO (P:=l.prog) (w:=w) (base:=base) F23 B (C9 base) (C21 base))
 have C24:=λbase=>aC F24 b24 m24 (Aq (P:=l.prog) (w:=w) (base:=base) F24 B N15)
 have C25:=λbase=>aC F25 b25 m25 (rK (P:=l.prog) (w:=w) (base:=base) F25 B (C12 base) (C24 base) (C17 base) (C23 base) (C3 base) (C22 base))
 have C26:=λbase=>aC F26 b26 m26 (rG (P:=l.prog) (w:=w) (base:=base) F26 B)
 have C27:=λbase=>aC F27 b27 m27 (rM (P:=l.prog) (w:=w) (base:=base) F27 B (C26 base))
 have C28:=λbase=>aC F28 b28 m28 (rN (P:=l.prog) (w:=w) (base:=base) F28 B)
 have C29:=λbase=>aC F29 b29 m29 (LQ (P:=l.prog) (w:=w) (base:=base) F29 B)
 have C30:=aC F30 b30 m30 (T9 (P:=l.prog) (w:=w) (base:=base) l30 c30 HC_kb (hBm P1 Æ) ⟨⟨f16,_,(λbase=>lW (P:=l.prog) (w:=w) (base:=base) F16 B (C8 base) (C15 base)),b16,F16.kp,m16⟩⟩ C21)
 have C31:=aC F31 b31 m31 (T8 (P:=l.prog) (w:=w) (base:=base) l31 c31 HC_kp (hBm PT (Ã _ Æ)) nP B C30 C22)
 have C32:=λbase=>aC F32 b32 m32 (qt (P:=l.prog) (w:=w) (base:=base) F32 B (C27 base))
 have C33:=λbase=>aC F33 b33 m33 (wz (P:=l.prog) (w:=w) (base:=base) F33 B (C28 base) (C29 base))
 have C34:=aC F34 b34 m34 (yG (P:=l.prog) (w:=w) (base:=base) F34 B C31 (C22 base) (C9 base) (C20 base) (C32 base) (C26 base) (C33 base))
 have C35:=λbase=>aC F35 b35 m35 (QF (P:=l.prog) (w:=w) (base:=base) F35 B)
 have C36:=λbase=>aC F36 b36 m36 (Mg (P:=l.prog) (w:=w) (base:=base) F36 B)
 have C37:=λbase=>aC F37 b37 m37 (Jc (P:=l.prog) (w:=w) (base:=base) F37 B (C36 base))
 have C38:=λbase=>aC F38 b38 m38 (LR (P:=l.prog) (w:=w) (base:=base) F38 (C36 base))
 have C39:=λbase=>aC F39 b39 m39 (T7 (P:=l.prog) (w:=w) (base:=base) F39 B (C36 base))
 have C40:=λbase=>aC F40 b40 m40 (LK (P:=l.prog) (w:=w) (base:=base) F40 B (C36 base) (C38 base) (C39 base))
 have C41:=λbase=>aC F41 b41 m41 (LC (P:=l.prog) (w:=w) (base:=base) F41 B (C36 base) (C37 base) (C40 base))
 have C42:=λbase=>aC F42 b42 m42 (yJ (P:=l.prog) (w:=w) (base:=base) F42 B (C36 base) (C37 base) (C38 base))
 have C43:=λbase=>aC F43 b43 m43 (wC (P:=l.prog) (w:=w) (base:=base) F43 B N14 (C36 base) (C37 base))
 have C44:=λbase=>aC F44 b44 m44 (Am (P:=l.prog) (w:=w) (base:=base) F44 B (C36 base))
 have C45:=λbase=>aC F45 b45 m45 (wB (P:=l.prog) (w:=w) (base:=base) F45 B N14 (C43 base) (C44 base) (C36 base))
 have C46:=λbase=>aC F46 b46 m46 (yI (P:=l.prog) (w:=w) (base:=base) F46 B)
 have C47:=λbase=>aC F47 b47 m47 (yH (P:=l.prog) (w:=w) (base:=base) F47 B (C46 base))
 have C48:=λbase=>aC F48 b48 m48 (Ao (P:=l.prog) (w:=w) (base:=base) F48 B (C25 base))
 have C49:=λbase=>aC F49 b49 m49 (lV (P:=l.prog) (w:=w) (base:=base) F49 B (C45 base) (C36 base) (C47 base) (C48 base))
 exact QG F50 B (C35 base) (C41 base) (C42 base) (C49 base) C34 (C48 base)
end Nf
namespace Nf
open PySem PySem.W PyProof.Rows
def uO:List Nat:=[1,2,4,5,6,7,9,11,12,13,14,15,16,17,19,20,21,22,23,25,27,28,29,30,31,33,34,35,37,38,39,40,42,43,44,45,46,48,49,50,51,52,53,54,55,56,57,58,59,60,61,62,63]
def yQ(p:Program)(w:World)(os:OsState):=(Es p 4054 w os).map (λs=>G8 p (view p uO) (λs=>xlAt (view p uO) [] s&&recOk [] s) w s.abs)
def goodW(p:Program):=some (true,openGood (view p uO) [])
def frF(fr:Frag)(k:Nat):=some ((fr.map λp=>some p.2).take k)
def frB(fr:Frag)(k:Nat):=some ((fr.map λp=>some p.2).drop k)
def sI(p:Program)(w:World)(os:OsState)(as:List Addr)(k:Nat):=(Es p 4054 w os).map (λs=>(as.map s.abs.heap.get?).take k)
def zH(p:Program)(w:World)(os:OsState)(as:List Addr)(k:Nat):=(Es p 4054 w os).map (λs=>(as.map s.abs.heap.get?).drop k)
def Az:yQ=yQ:=rfl
def Bh:goodW=goodW:=rfl
def yW:sI=sI:=rfl
def BL:zH=zH:=rfl
end Nf
lay_quick Nf.yQ Nf.goodW Nf.sI Nf.zH
name_quick lookQ for Nf.yQ by Nf.Az
name_quick goodQ for Nf.goodW by Nf.Bh
name_quick frontQ for Nf.sI by Nf.yW
name_quick backQ for Nf.zH by Nf.BL
set_option maxHeartbeats 0 in
def Nf.Mu(w:PySem.World)(os:PySem.OsState):Nf.yQ ó w os=Nf.goodW ó:=by
 rw[PySem.W.Fast.lookQ_eq,PySem.W.Fast.goodQ_eq]
 kernel_rfl
def Nf.well:PySem.Challenge.rw_nofall_k52_least_ways_let_by.wellSaid=true:=by kernel_rfl
open PySem PySem.W PyProof.Rows
local macro_rules
 |`(tactic| k_qdec)=>`(tactic| fail)
local macro_rules
 |`(tactic| o_head (kmHook $k $a $e $t))=>`(tactic| o_head (kHook (λP=>List.append (ķ (λa=>(a,PySem.W.tabObj #[])) $t) ($k P)) (List.append $t $a) (λ_=>by kernel_rfl)))
local macro_rules
 |`(tactic| o_head (kHook $k $a $e))=>`(tactic| (
  refine holds_open (q:=view ó Nf.uO) (loose:=[]) (Xt:=λs=>xlAt (view ó Nf.uO) [] s&&recOk [] s) (XP:=XL (view ó Nf.uO) []) (Yf:=Hook.obs (kHook $k $a $e)) (Ya:=Hook.val (kHook $k $a $e)) (YP:=Hook.says (kHook $k $a $e)) (N:=4054) ?hl (Hook.of (kHook $k $a $e)) (Hook.keeps (kHook $k $a $e)) (λs e=>xl_of s (Bool.and_eq_true_iff.mp e).1) XL.keeps (by rfl) (by rfl) (by rfl) (λs e=>recFacts_of (Bool.and_eq_true_iff.mp e).2) (by rfl) (by first|assumption|decide +kernel) (by decide +kernel) ⟨rfl,rfl,rfl,rfl,rfl,by decide +kernel⟩ ?hw ?hc))
set_option maxRecDepth 100000 in
set_option maxHeartbeats 0 in
theorem PySem.Challenge.cw_nofall_k52_least_ways_let_by_holds : PySem.Challenge.rw_nofall_k52_least_ways_let_by.Holds := by
 w_on;refine PySem.W.holds_law Nf.well λsaid=>?_;k_head
 ·refine Nf.MJ 90 (boot_open (by kernel_rfl) rfl (λs=>by kernel_rfl)) Nf.Mu (λw os=>?_) (λw os=>?_)
  ·show Nf.sI ó w os _ 90=Nf.frF _ 90
   rw[PySem.W.Fast.frontQ_eq]
   kernel_rfl
  ·show Nf.zH ó w os _ 90=Nf.frB _ 90
   rw[PySem.W.Fast.backQ_eq]
   kernel_rfl
 ·w_witness2
 k_fill
 refine L2.GD (n:=63) (k:=16) (x:="_law_script") (l:=PySem.Challenge.rw_nofall_k52_least_ways_let_by) (by rfl) rfl (by decide) rfl ⟨rfl,by decide,by decide,rfl⟩ (λw h Y=>PySem.W.kIn_of Y) ?F
 case F =>
  intro w mg fa h KX2 G hmg
  obtain⟨KX,hPT⟩:=L2.K3 KX2 (by
   intro Q hQ
   simp only[Ñ,List.not_mem_nil,or_false] at hQ
   rcases hQ with rfl|rfl <;> kernel_rfl)
  refine' Nf.all_mk hPT KX G hmg ?a0 ?l0 ?c0 ?a1 ?l1 ?c1 ?a2 ?l2 ?c2 ?a3 ?l3 ?c3 ?a4 ?l4 ?c4 ?a5 ?l5 ?c5 ?a6 ?l6 ?c6 ?a7 ?l7 ?c7 ?a8 ?l8 ?c8 ?a9 ?l9 ?c9 ?a10 ?l10 ?c10 ?a11 ?l11 ?c11 ?a12 ?l12 ?c12 ?a13 ?l13 ?c13 ?a14 ?l14 ?c14 ?a15 ?l15 ?c15 ?a16 ?l16 ?c16 ?a17 ?l17 ?c17 ?a18 ?l18 ?c18 ?a19 ?l19 ?c19 ?a20 ?l20 ?c20 ?a21 ?l21 ?c21 ?a22 ?l22 ?c22 ?a23 ?l23 ?c23 ?a24 ?l24 ?c24 ?a25 ?l25 ?c25 ?a26 ?l26 ?c26 ?a27 ?l27 ?c27 ?a28 ?l28 ?c28 ?a29 ?l29 ?c29 ?a30 ?l30 ?c30 ?a31 ?l31 ?c31 ?a32 ?l32 ?c32 ?a33 ?l33 ?c33 ?a34 ?l34 ?c34 ?a35 ?l35 ?c35 ?a36 ?l36 ?c36 ?a37 ?l37 ?c37 ?a38 ?l38 ?c38 ?a39 ?l39 ?c39 ?a40 ?l40 ?c40 ?a41 ?l41 ?c41 ?a42 ?l42 ?c42 ?a43 ?l43 ?c43 ?a44 ?l44 ?c44 ?a45 ?l45 ?c45 ?a46 ?l46 ?c46 ?a47 ?l47 ?c47 ?a48 ?l48 ?c48 ?a49 ?l49 ?c49 ?a50 ?l50 ?c50 ?z0 ?z1 ?z2 ?z3 ?z4 ?z5 ?z6 ?z7 ?z8 ?z9 ?z10 ?z11 ?z12 ?z13 ?z14 ?z15 ?lc_kb ?v11_kb ?hP0_kb ?hcI_kb ?lc_kp ?v11_kp ?hP0_kp ?hcI_kp ?nP
  any_goals (show _=_;k_is)
  case v11_kb=>exact rfl
  case hP0_kb=>kernel_rfl
  case hcI_kb=>kernel_rfl
  case v11_kp=>exact rfl
  case hP0_kp=>kernel_rfl
  case hcI_kp=>kernel_rfl
  case nP=>decide
  all_goals rfl
end
