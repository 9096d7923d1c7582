import PyProof.Rows.All
import Wide.All
import OpenK.AllK
import Wide.FinOn
import Lean
import PyProof.EqAt
import PyProof.EqKinds
import PyProof.TupleCall
import PySem.Challenge.RW_nofall_k61_places_exchanged
set_option genSizeOf false
set_option genSizeOfSpec false
set_option Elab.async false
set_option linter.all false
set_option maxRecDepth 100000
open PySem renaming wpAny_bind → À,wpAny_pure → Ç,sizeLine_eq → ì,wpAny_field → þ,mem_of_lookup → Ā,wpAny_mono → č,wpAny_newObj_type → ě,wpAny_truthy_bool → ĩ,wpAny_seqItems → ĭ,wpAny_callSpecial?_slot → Į,wpAny_setField_rec → İ,wpAny_passesOwn → ĸ,wpAny_call_entry → Ņ,wpAny_execs_nil → œ,wpAny_pyIter_tuple → Ŕ,wpAny_Call_Name_kw → ŕ,wpAny_holding → ŧ,codeAny_mono → Ŷ,wpAny_setField → ŷ
open List renaming length_map → Á,replicate → È,mem_cons → É,size_toArray → Ë,mem_cons_self → Ì,mem_cons_of_mem → Ï,length_append → Ð,mem_of_getElem? → Ñ,getElem?_eq_getElem → Õ,not_mem_nil → Ö,range → Ø,getElem?_eq_some_iff → Ù,map_map → Ú,lookup_cons → Ü,mem_append_right → Ý,getElem?_map → Þ,mem_map → ß,map_congr_left → ä,length_cons → ç,mem_append → è,getElem?_append_right → ê,getD_eq_getElem?_getD → ë,length_singleton → í,getElem?_append_left → ü,mem_singleton → ý,length_drop → ā,map_cons → Ą,append_nil → ą,getElem?_set_self → Ć,all_eq_true → ć,replicate_succ → ĉ,mem_range → ċ,length_zip → Č,filterMap_cons → ď,map_append → Đ,length_take → Ĕ,getElem?_set_ne → Ę,getElem?_replicate → ę,nodup_cons → Ě,length_replicate → ğ,getElem?_zip_eq_some → ġ,find?_cons → Ģ,toArray → ģ,map_id → Ĥ,lookup → Ĭ,length_range → ĵ,flatten_cons → Ķ,getElem?_eq_none_iff → Ľ,mem_filterMap → Ň,take → Ō,drop → ō,mem_append_left → Ş,length_pos_iff → Ť,idxOf_lt_length_of_mem → Ū,nodup_iff_pairwise_ne → Ů,getElem?_cons_succ → Ż
open PySem.PyData renaming int → Â,list → å,depthAll → ö,canLayAll0 → Ĉ,tuple → ĺ,eqv → Ũ,bool → ů
open PySem.Heap renaming get?_push_of_some → Ä,lt_size → Å,get?_push_size → Ô,size_push → ė,get?_update_other → Ĝ,get?_push_ne → ĳ,size_update → Ś,SameBut → ũ
open Nat renaming le_refl → Æ,lt_of_lt_of_le → Ó,ne_of_lt → Û,le_trans → ô,lt_irrefl → ú,zero_le → û,lt_succ_of_lt → Ċ,ne_of_gt → ļ,le_succ → ő,lt_succ_self → Ŝ,le_add_right → ŝ
open PySem.W renaming Frag → Ê,mg_of → ó,mg_none_of → ÿ,boot_heap → Ĩ,kitOne → Ĳ,mroIn → Ŀ,kia_tup → ŀ,kia_one → Ł,hideAll → ł,boot_o_0 → Ń,keepIn → ň,hideAll_get → Ţ,tabObj → ţ,kla_obj → ŵ
open Bool renaming false_ne_true → Î,and_eq_true → â,eq_iff_iff → ņ
open Option.some renaming inj → Ò
open PySem.Challenge renaming pw_nofall_k61_places_exchanged → à
open PySem.Str renaming ofString → á
open PySem.NameKind renaming free → ã,cell → ï
open PySem.Value renaming ref → æ,none → ð,type → đ,int → Ē,bool → ū
open Ne renaming symm → é
open Sum renaming inr → ñ
open PySem.Obj renaming mapSeq → ò,data_mapFields → Ŋ,isFreed_of_fields → ř,mapFields → Ź
open PySem.Builtin.SmallTypes renaming nextOf → õ,ownedTupleIsFree → ē,ownedTupleHandOut → Ŭ
open False renaming elim → ø
open Array renaming length_toList → Ă,getElem?_eq_some_iff → Ĺ
open ForInStep renaming yield → ă
open True renaming intro → Ď
open PySem.PassesOwn renaming never → Ė
open PyProof.Rows renaming slot_tupleiter_next → Ğ,step_dedup → ń,callWith_type1 → Ř,boot_isinstance → Ų
open PySem.F renaming plainAttrs_list → ħ,type_list_append → Ű,slot_list_append → ű
open Int renaming eq_ofNat_of_zero_le → Ī,emod_lt_of_pos → Ŏ,toNat_natCast → Ŗ,le_refl → Š,emod_nonneg → Ŧ
open PySem.Builtin.Slice renaming slicePlaces → į,sliceAdjust → ś
open PySem.Builtin.Tuple renaming tupleExact → Ĵ
open PySem.Builtin.List renaming listTooLong → ķ
open Or renaming inl → Ļ,inr → ź
open Option renaming isSome_iff_exists → ľ,map_eq_some_iff → Ő
open PySem.Builtin.Getset_descriptor renaming descrCheckInstance → ŋ,descrOwnerAndName → ŏ,descrGet → ş
open List.cons renaming sizeOf_spec → Œ
open Prod renaming ext → ŭ
open List.Perm renaming refl → Ž
noncomputable section
namespace L2
open PySem PySem.Spec PyProof.Rows
def zK{n:Nat}(h:Nat.ble n 1000=true:=by rfl):n<=1000:=Nat.le_of_ble_eq_true h
abbrev Key:=Sum Int Str
def nZ:Key->Value->Bool
 |.inl k,v=>Value.isInt k v
 |.inr x,v=>Value.isStrOf x v
def Pa(w:World):Key->Int
 |.inl k=>hashInt k
 |.inr x=>hashStr w x
def aX:∀{k:Key}{v:Value},nZ k v=true->(∃i t,k=Sum.inl i/\v=Ē i t)\/(∃x t,k=ñ x/\v=Value.str x t)
 |.inl i,v,h=>by
  obtain⟨t,e⟩:=Value.isInt_shape (k:=i) (v:=v) h
  exact .inl ⟨i,t,rfl,e⟩
 |.inr x,v,h=>by
  obtain⟨t,e⟩:=Value.isStrOf_shape (x:=x) (v:=v) h
  exact .inr ⟨x,t,rfl,e⟩
def yS(i:Int)(t:Tok):nZ (.inl i) (.int i t)=true:=by simp[nZ,Value.isInt]
def yR(x:Str)(t:Tok):nZ (.inr x) (.str x t)=true:=by simp[nZ,Value.isStrOf]
def Kf(a b:Int):decide ((Sum.inl a:Key)=Sum.inl b)=(a == b):=by
 by_cases e:a=b
 ·subst e;simp
 ·have h:¬(Sum.inl a:Key)=Sum.inl b:=λq=>e (Sum.inl.inj q)
  rw[decide_eq_false h]
  exact(beq_eq_false_iff_ne.mpr e).symm
def Ka(a b:Str):decide ((ñ a:Key)=ñ b)=decide (a=b):=by
 by_cases e:a=b
 ·subst e;simp
 ·have h:¬(ñ a:Key)=ñ b:=λq=>e (Sum.inr.inj q)
  rw[decide_eq_false h,decide_eq_false e]
def Ke(a:Int)(b:Str):decide ((Sum.inl a:Key)=ñ b)=false:=decide_eq_false (λq=>nomatch q)
def Kc(a:Str)(b:Int):decide ((ñ a:Key)=Sum.inl b)=false:=decide_eq_false (λq=>nomatch q)
def bF(prog:Program)(w:World):PySem.KeyKind prog w Key where
 is:=nZ
 hash:=Pa w
 inj:=λv a b ha hb=>by
  rcases aX ha with ⟨i,t,rfl,rfl⟩|⟨x,t,rfl,rfl⟩
  ·rcases aX hb with ⟨j,u,rfl,e⟩|⟨y,u,rfl,e⟩
   ·injection e with e1 _;rw[e1]
   ·exact nomatch e
  ·rcases aX hb with ⟨j,u,rfl,e⟩|⟨y,u,rfl,e⟩
   ·exact nomatch e
   ·injection e with e1 _;rw[e1]
 byValue:=λk v h=>by
  rcases aX h with ⟨i,t,rfl,rfl⟩|⟨x,t,rfl,rfl⟩ <;> rfl
 pyHash:=λhv h=>by
  rcases aX hv with ⟨i,t,rfl,rfl⟩|⟨x,t,rfl,rfl⟩
  ·exact wpAny_pyHash_int h
  ·exact wpAny_pyHash_str h
 eqBool:=λhu hv h=>by
  rcases aX hu with ⟨i,t,rfl,rfl⟩|⟨x,t,rfl,rfl⟩
  ·rcases aX hv with ⟨j,u,rfl,rfl⟩|⟨y,u,rfl,rfl⟩
   ·rw[Kf] at h;exact wpAny_eqBool_int h
   ·rw[Ke] at h;exact SeqAt.EqAt.int_str i t y u _ _ _ _ h
  ·rcases aX hv with ⟨j,u,rfl,rfl⟩|⟨y,u,rfl,rfl⟩
   ·rw[Kc] at h;exact SeqAt.EqAt.str_int x t j u _ _ _ _ h
   ·rw[Ka] at h;exact wpAny_eqBool_str h
 «strs»:=λk x t v h=>by
  rcases aX h with ⟨i,u,rfl,e⟩|⟨y,u,rfl,e⟩
  ·exact nomatch e
  ·injection e with e1 _
   subst e1
   cases v <;> rfl
def tY(prog:Program)(w:World)(i:Int)(t:Tok):(bF prog w).is (.inl i) (.int i t)=true:=yS i t
def tX(prog:Program)(w:World)(x:Str)(t:Tok):(bF prog w).is (.inr x) (.str x t)=true:=yR x t
inductive V where
 |non|bl (b:Bool)|int (i:Int)|str (x:Str)|byt (b:Array UInt8)|flt (b:UInt64)|ref (a:Addr)|ty (n:String)
 deriving DecidableEq
def RelV:V->Value->Prop
 |.non,u=>u=ð
 |.bl b,u=>u=ū b
 |.int i,u=>∃t,u=Ē i t
 |.str x,u=>∃t,u=Value.str x t
 |.byt b,u=>∃t,u=Value.bytes b t
 |.flt b,u=>∃t,u=Value.float b t
 |.ref a,u=>u=æ a
 |.ty n,u=>u=đ n
abbrev Vals:List V->List Value->Prop:=Paired RelV
def Vals.length{xs:List V}{us:List Value}(r:Vals xs us):xs.length=us.length:=Paired.length r
def Vals.get:∀{xs:List V}{us:List Value}{i:Nat}{x:V},Vals xs us->xs[i]?=some x->∃u,us[i]?=some u/\RelV x u
 |_,_,_,_,.nil,e=>by simp at e
 |_,_,0,_,.cons r _,e=>by simp at e;subst e;exact⟨_,rfl,r⟩
 |_,_,i+1,x,.cons _ t,e=>by
  obtain⟨u,h1,h2⟩:=Vals.get (i:=i) (x:=x) t (by simpa using e)
  exact⟨u,by simpa using h1,h2⟩
def Vals.append:∀{xs ys:List V}{us ws:List Value},Vals xs us->Vals ys ws->Vals (xs++ys) (us++ws)
 |_,_,_,_,.nil,s=>s
 |_,_,_,_,.cons r t,s=>.cons r (Vals.append t s)
def Vals.take:∀{xs:List V}{us:List Value} (n:Nat),Vals xs us->Vals (xs.take n) (us.take n)
 |_,_,0,_=>.nil
 |_,_,_+1,.nil=>.nil
 |_,_,n+1,.cons r t=>.cons r (Vals.take n t)
def Vals.drop:∀{xs:List V}{us:List Value} (n:Nat),Vals xs us->Vals (xs.drop n) (us.drop n)
 |_,_,0,r=>r
 |_,_,_+1,.nil=>.nil
 |_,_,n+1,.cons _ t=>Vals.drop n t
def oO:Option V->Option Value->Prop
 |some v,some u=>RelV v u
 |none,none=>True
 |_,_=>False
def KV{κ:Type}:List (κ×V)->List (κ×Value)->Prop:=Paired λ(p:κ×V) (q:κ×Value)=>p.1=q.1/\RelV p.2 q.2
def kV:Key->V
 |.inl i=>.int i
 |.inr x=>.str x
inductive HO where
 |lst (xs:List V)
 |tup (xs:List V)
 |dK (kvs:List (Key×V))|dT (kvs:List (List Key×V))
 |set (S:Int->Bool) (n:Nat)
 |ins (C dx:Addr) (fs:List (Str×V))
 |own (x:Addr)
 |xd (fs:List (Str×V))
 |met (f x:Addr)
 |rng (lo hi:Int)
 |frz (o:Obj) (u:HO)
 |tbl (ps:Array Value)
 |ext (φ:Heap->Prop)
abbrev Hp:=Addr->Option HO
def upd(H:Hp)(a:Addr)(o:HO):Hp:=λb=>if b=a then some o else H b
def aA{H:Hp}{a:Addr}{o:HO}:upd H a o a=some o:=by unfold upd;rw[if_pos rfl]
def ao{H:Hp}{a b:Addr}{o:HO}(h:b≠a):upd H a o b=H b:=by unfold upd;rw[if_neg h]
def Nj{H:Hp}{a b:Addr}{o u:HO}(h:H a=some o)(h':H b=some u)(d:o≠u):a≠b:=by
 intro e;subst e;rw[h] at h';exact d (Ò h')
def au{H:Hp}{a b:Addr}{o:HO}(h:H a=some o)(h':H b=none):a≠b:=by
 intro e;subst e;rw[h] at h';cases h'
section
variable (P:Program) (w:World)
def aM(H:Hp)(h:Heap)(a:Addr):HO->Prop
 |.lst xs=>xs.length<=sizeLine/\∃(its:List Value) (n:Nat),Vals xs its/\h.get? a=some { cls:=.type "list",data:=.seq its.toArray n }
 |.tup xs=>xs.length<=sizeLine/\∃its:List Value,Vals xs its/\IsTup h a its.toArray
 |.dK kvs=>kvs.length<=sizeLine/\(a == sysModules)=false/\∃vs,KV kvs vs/\h.DictOf (bF P w) a vs
 |.dT kvs=>kvs.length<=sizeLine/\(a == sysModules)=false/\∃xs:List (List Key×Addr×Value),
   Paired (λ(p:List Key×V) (q:List Key×Addr×Value)=>p.1=q.1/\H q.2.1=some (.tup (p.1.map kV))/\RelV p.2 q.2.2) kvs xs /\
   ∃o es ep,h.get? a=some o/\o.ExactDict/\o.data=.dict es ep/\es.toList=xs.map (entryOfKey (tupleKind (bF P w)))/\(xs.map (·.1)).Nodup
 |.set S n=>h.SetOf (intKind P w) a S n
 |.ins C dx fs=>H dx=some (.own a)/\fs.length<=1000/\dx≠a/\h.get? a=some (W.instObj C dx) /\
   ∃mA,h.Ns1 dx mA/\(∀f,oO (fs.lookup f) (mA f))/\PySem.Within mA (fs.map (·.1))
 |.own _=>∃o,h.get? a=some o
 |.xd fs=>∃mA,h.Ns1 a mA/\∀f,oO (fs.lookup f) (mA f)
 |.rng lo hi=>∃t u v,h.get? a=some { cls:=.type "range",data:=.fields #[.int lo t,.int hi u,.int 1 v] }
 |.frz o u=>h.get? a=some o/\aM H h a u
 |.tbl ps=>h.get? a=some { cls:=.none,data:=.fields ps }
 |.met f x=>h.get? a=some (W.methodObj (.ref f) (.ref x))
 |.ext φ=>φ h/\(∃o,h.get? a=some o)/\∀h1 h2:Heap,φ h1->(∀o,h1.get? a=some o->h2.get? a=some o)->φ h2
def HOk(H:Hp)(h:Heap):Prop:=∀a o,H a=some o->aM P w H h a o
end
section
variable {P:Program}{w:World}{H H':Hp}{h h':Heap}{a:Addr}{o:HO}
def aM.lt(x:aM P w H h a o):a<h.objs.size:=by
 cases o with
 |lst xs=>obtain⟨_,_,_,_,e⟩:=x;exact Å e
 |tup xs=>obtain⟨_,_,_,p⟩:=x;exact p.lt
 |dK kvs=>obtain⟨_,_,_,_,o,_,_,e,_⟩:=x;exact Å e
 |dT kvs=>obtain⟨_,_,_,_,o,_,_,e,_⟩:=x;exact Å e
 |set S n=>obtain⟨o,_,_,_,e,_⟩:=x;exact Å e
 |ins C dx fs=>obtain⟨_,_,_,e,_⟩:=x;exact Å e
 |own y=>obtain⟨_,e⟩:=x;exact Å e
 |xd fs=>obtain⟨_,⟨_,_,_,e,_⟩,_⟩:=x;exact Å e
 |rng lo hi=>obtain⟨_,_,_,e⟩:=x;exact Å e
 |frz ob u=>obtain⟨e,_⟩:=x;exact Å e
 |tbl ps=>exact Å (show h.get? a=some _ from x)
 |met f y=>exact Å (show h.get? a=some _ from x)
 |ext φ=>obtain⟨_,⟨_,e⟩,_⟩:=x;exact Å e
def Paired.Dj{α β:Type}{F G:α->β->Prop}:∀{l₁:List α}{l₂:List β},Paired F l₁ l₂->(∀a b,F a b->G a b)->Paired G l₁ l₂
 |_,_,.nil,_=>.nil
 |_,_,.cons r t,f=>.cons (f _ _ r) (Paired.Dj t f)
def aM.stay(x:aM P w H h a o)(k:∀b u,(b=a\/H b=some (.own a))->h.get? b=some u->h'.get? b=some u)(ho:∀b,H b=some (.own a)->H' b=some (.own a))(ht:∀b xs,H b=some (.tup xs)->H' b=some (.tup xs)):aM P w H' h' a o:=by
 induction o with
 |lst xs=>obtain⟨z,its,n,r,e⟩:=x;exact⟨z,its,n,r,k _ _ (.inl rfl) e⟩
 |tup xs=>obtain⟨z,its,r,ob,e,c⟩:=x;exact⟨z,its,r,ob,k _ _ (.inl rfl) e,c⟩
 |dK kvs=>obtain⟨z,y,vs,r,ob,es,ep,e,c⟩:=x;exact⟨z,y,vs,r,ob,es,ep,k _ _ (.inl rfl) e,c⟩
 |dT kvs =>
  obtain⟨z,y,xs,r,ob,es,ep,e,c⟩:=x
  exact⟨z,y,xs,Paired.Dj r λp q z=>⟨z.1,ht _ _ z.2.1,z.2.2⟩,ob,es,ep,k _ _ (.inl rfl) e,c⟩
 |set S n=>obtain⟨ob,es,ep,t,e,c⟩:=x;exact⟨ob,es,ep,t,k _ _ (.inl rfl) e,c⟩
 |ins C dx fs =>
  obtain⟨d,z,ne,e,mA,⟨od,es,ep,e2,c⟩,r⟩:=x
  exact⟨ho _ d,z,ne,k _ _ (.inl rfl) e,mA,⟨od,es,ep,k _ _ (.inr d) e2,c⟩,r⟩
 |own y=>obtain⟨ob,e⟩:=x;exact⟨ob,k _ _ (.inl rfl) e⟩
 |xd fs=>obtain⟨mA,⟨od,es,ep,e,c⟩,r⟩:=x;exact⟨mA,⟨od,es,ep,k _ _ (.inl rfl) e,c⟩,r⟩
 |rng lo hi=>obtain⟨t,u,v,e⟩:=x;exact⟨t,u,v,k _ _ (.inl rfl) e⟩
 |frz ob u ih=>obtain⟨e,q⟩:=x;exact⟨k _ _ (.inl rfl) e,ih q⟩
 |tbl ps =>
  have e:h.get? a=some { cls:=.none,data:=.fields ps }:=x
  show h'.get? a=some { cls:=.none,data:=.fields ps }
  exact k a _ (.inl rfl) e
 |met f y =>
  have e:h.get? a=some (W.methodObj (.ref f) (.ref y)):=x
  show h'.get? a=some (W.methodObj (.ref f) (.ref y))
  exact k a _ (.inl rfl) e
 |ext φ=>obtain⟨p,⟨o,e⟩,st⟩:=x;exact⟨st _ _ p λo q=>k _ _ (.inl rfl) q,⟨o,k _ _ (.inl rfl) e⟩,st⟩
def HOk.lt(x:HOk P w H h)(e:H a=some o):a<h.objs.size:=(x a o e).lt
def HOk.fresh(x:HOk P w H h)(e:h.objs.size<=a):H a=none:=by
 cases q:H a with
 |none=>rfl
 |some u=>exact absurd (Ó (x.lt q) e) (ú _)
def HOk.kept(x:HOk P w H h)(k:∀b u,h.get? b=some u->h'.get? b=some u):HOk P w H h':=λa o e =>
 (x a o e).stay (λb u _ q=>k b u q) (λ_ q=>q) λ_ _ q=>q
def HOk.laid(x:HOk P w H h)(k:∀b u,h.get? b=some u->h'.get? b=some u)(hp:h.objs.size<=a)(new:aM P w (upd H a o) h' a o):HOk P w (upd H a o) h':=λb u e=>by
 have hn:=x.fresh hp
 by_cases hb:b=a
 ·subst hb;rw[aA] at e;cases e;exact new
 ·rw[ao hb] at e
  exact(x b u e).stay (λc v _ q=>k c v q) (λc q=>by rw[ao (au q hn)];exact q) λc xs q=>by rw[ao (au q hn)];exact q
end
def Rd(H:Hp)(a:Addr)(u:HO):Prop:=H a=some u\/∃o,H a=some (.frz o u)
def Rd.ok{P:Program}{w:World}{H:Hp}{h:Heap}{a:Addr}{u:HO}(r:Rd H a u)(x:HOk P w H h):aM P w H h a u:=by
 rcases r with r|⟨o,r⟩
 ·exact x a u r
 ·obtain⟨_,q⟩:=x a _ r
  exact q
def Mut:Option HO->Prop
 |some (.lst _)=>True
 |some (.dK _)=>True
 |some (.dT _)=>True
 |some (.set _ _)=>True
 |some (.ins _ _ _)=>True
 |some (.ext _)=>True
 |_=>False
section
variable {P:Program}{w:World}{H:Hp}{h h':Heap}{x e:Addr}{o':HO}
def HOk.write(ok:HOk P w H h)(mu:Mut (H x))(he:e=x\/H e=some (.own x))(k:∀b u,b≠e->h.get? b=some u->h'.get? b=some u)(heo:∃u,h'.get? e=some u)(new:aM P w (upd H x o') h' x o'):HOk P w (upd H x o') h':=λb u q=>by
 have nown:∀c y,H c=some (.own y)->c≠x:=λc y r z=>by subst z;rw[r] at mu;exact mu
 have ntup:∀c xs,H c=some (.tup xs)->c≠x:=λc xs r z=>by subst z;rw[r] at mu;exact mu
 by_cases hb:b=x
 ·subst hb;rw[aA] at q;cases q;exact new
 ·rw[ao hb] at q
  by_cases hbe:b=e
  ·have q':H b=some (.own x):=by
    rcases he with z|z
    ·exact absurd (hbe.trans z) hb
    ·rw[hbe];exact z
   rw[q] at q';cases q'
   obtain⟨v,hv⟩:=heo
   exact⟨v,by rw[hbe];exact hv⟩
  ·refine(ok b u q).stay (λc v hc r=>k c v ?_ r) (λc r=>by rw[ao (nown c b r)];exact r) λc xs r=>by rw[ao (ntup c xs r)];exact r
   rcases hc with rfl|hc
   ·exact hbe
   ·rintro rfl
    rcases he with z|z
    ·exact nown c b hc z
    ·rw[hc] at z;cases z;exact hb rfl
end
structure Un(fs ex:List Addr)(H H':Hp)(h h':Heap):Prop where
 keep:∀b o,h.get? b=some o->H b=none->b∉fs->b∉ex->h'.get? b=some o
 slot:∀b o,h.get? b=some o->H b=none->b∈fs->b∉ex->∃sl,h'.get? b=some { o with slots:=sl }
 free:∀b o,h.get? b=some o->H b=none->b∉ex->H' b=none
 there:∀b o,h.get? b=some o->b∉ex->∃o',h'.get? b=some o'
 tups:∀b xs,H b=some (.tup xs)->H' b=some (.tup xs)
 frzs:∀b o u,H b=some (.frz o u)->H' b=some (.frz o u)
 tbls:∀b ps,H b=some (.tbl ps)->∃more,H' b=some (.tbl (ps++more))
section
variable {fs fs' ex ex':List Addr}{H H1 H2:Hp}{h h1 h2 h':Heap}{a x e:Addr}{o:HO}
def Un.any(u:Un fs ex H H1 h h1){b:Addr}{ob:Obj}(q:h.get? b=some ob)(n:H b=none)(hx:b∉ex):∃sl,h1.get? b=some { ob with slots:=sl }:=by
 by_cases hb:b∈fs
 ·exact u.slot b ob q n hb hx
 ·exact⟨ob.slots,u.keep b ob q n hb hx⟩
def Un.kept(k:∀b u,h.get? b=some u->h'.get? b=some u):Un fs ex H H h h' :=
 ⟨λb ob q _ _ _=>k b ob q,λb ob q _ _ _=>⟨ob.slots,k b ob q⟩,λ_ _ _ n _=>n,λb ob q _=>⟨ob,k b ob q⟩,λ_ _ q=>q,λ_ _ _ q=>q,λ_ ps q=>⟨#[],by rw[q];simp⟩⟩
def Un.refl:Un fs ex H H h h:=Un.kept λ_ _ q=>q
def Un.laid(k:∀b u,h.get? b=some u->h'.get? b=some u)(hp:h.objs.size<=a)(hn:H a=none):Un fs ex H (upd H a o) h h' where
 keep:=λb u q _ _ _=>k b u q
 slot:=λb u q _ _ _=>⟨u.slots,k b u q⟩
 free:=λb u q n _=>by rw[ao (Û (Ó (Å q) hp))];exact n
 there:=λb u q _=>⟨u,k b u q⟩
 tups:=λb xs q=>by rw[ao (au q hn)];exact q
 frzs:=λb u xs q=>by rw[ao (au q hn)];exact q
 tbls:=λb ps q=>⟨#[],by rw[ao (au q hn),q];simp⟩
def Un.write(mu:Mut (H x))(he:e=x\/H e=some (.own x))(k:∀b u,b≠e->h.get? b=some u->h'.get? b=some u)(heo:∃u,h'.get? e=some u):Un fs ex H (upd H x o) h h':=by
 have hx:∀b,H b=none->b≠x:=λb n z=>by subst z;rw[n] at mu;exact mu
 have hb:∀b,H b=none->b≠e:=λb n z=>by
  subst z
  rcases he with r|r
  ·exact hx b n r
  ·rw[n] at r;cases r
 have hm:∀b u,H b=some u->¬Mut (some u)->b≠x:=λb u q nm z=>by subst z;rw[q] at mu;exact nm mu
 refine⟨λb u q n _ _=>k b u (hb b n) q,λb u q n _ _=>⟨u.slots,k b u (hb b n) q⟩,λb u q n _=>by rw[ao (hx b n)];exact n,λb u q _=>?_,
  λb xs q=>by rw[ao (hm b _ q λz=>z)];exact q,λb u xs q=>by rw[ao (hm b _ q λz=>z)];exact q,λb ps q=>⟨#[],by rw[ao (hm b _ q λz=>z),q];simp⟩⟩
 by_cases hbe:b=e
 ·subst hbe;exact heo
 ·exact⟨u,k b u hbe q⟩
end
def trk(h:Heap)(H:Hp):List Addr:=(Ø h.objs.size).filter λa=>(H a).isSome
def rE(h:Heap)(H:Hp):Heap:=ł h (trk h H)
def yX(h:Heap)(H:Hp):(rE h H).objs.size=h.objs.size:=W.hideAll_size _ _
def n6{h:Heap}{H:Hp}{b:Addr}{o:Obj}(e:h.get? b=some o)(n:H b=none):(rE h H).get? b=some o :=
 Ţ _ e λhm=>by
  have q:(H b).isSome=true:=(List.mem_filter.mp hm).2
  rw[n] at q;simp at q
def GD{h:Heap}{H:Hp}{b:Addr}{o:Obj}(e:(rE h H).get? b=some o):h.get? b=some o/\H b=none:=by
 have e':h.get? b=some o:=W.of_hideAll (trk h H) e
 refine⟨e',?_⟩
 cases q:H b with
 |none=>rfl
 |some x =>
  have hm:b∈trk h H:=List.mem_filter.mpr ⟨ċ.mpr (Å e'),by simp[q]⟩
  have z:(rE h H).get? b=none:=W.hideAll_none (trk h H) hm
  rw[z] at e;cases e
def sG(g h:Heap)(L:Addr):List (Addr×Obj):=(Ø h.objs.size).filterMap λa=>if a=L\/(g.get? a).isSome=true then none else (h.get? a).map λo=>(a,o)
def nM{g h:Heap}{L:Addr}{p:Addr×Obj}(hp:p∈sG g h L):p.1≠L/\g.get? p.1=none/\h.get? p.1=some p.2:=by
 obtain⟨b,_,e⟩:=Ň.mp hp
 split at e
 ·cases e
 ·rename_i hn
  cases q:h.get? b with
  |none=>rw[q] at e;simp at e
  |some u =>
   rw[q] at e
   simp only[Option.map_some,Option.some.injEq] at e
   subst e
   refine⟨λz=>hn (.inl z),?_,q⟩
   show g.get? b=none
   cases r:g.get? b with
   |none=>rfl
   |some v=>exact(hn (.inr (by simp[r]))).elim
def rest(g h:Heap)(L d:Addr):List (Addr×Obj):=(sG g h L).filter λp=>decide (p.1≠d)
def Dd{g h:Heap}{L:Addr}:News g L h (sG g h L):=λp hp=>let ⟨a,b,c⟩:=nM hp;⟨c,a,b⟩
structure Mod(K:Ê)(mg:Str->Option Value)(base:Heap):Prop where
 kin:K.In base
 glob:base.Ns mainGlobals mg
 blt:∃mb,base.Ns builtinsNs mb/\∀x:Str,x≠"__name__"->mb x=bootBuiltins x
 nolimit:base.NoLimit
structure Cx where
 prog:Program
 w:World
 K:Ê
 mg:Str->Option Value
 base:Heap
 A:Around
 N:List Str
 s₀:Shared
 H₀:Hp
 env:Env
 outer:List Env
 stack:List Env
 ex:List Addr
 fn:Str->Bool
 calm:Bool
 pn:List (Addr×Obj)
 xe:Value->Shared->Prop
 sf:List (Addr×Obj×HO):=[]
def frs(l:List Env):List Addr:=l.filterMap (·.frame)
abbrev Cx.fs(X:Cx):List Addr:=frs X.outer
def Vis(sc:Scope)(x:Str):Prop:=sc.names.lookup x=some .local\/sc.names.lookup x=some .cell\/sc.names.lookup x=some .free
def Loc(sc:Scope)(x:Str):Prop:=sc.names.lookup x=some .local\/sc.names.lookup x=some .cell
def Look(env:Env)(h:Heap)(m:Str->Option Value)(x:Str)(u:Value):Prop :=
 (env.kindOf x=some .local/\m x=some u)\/((env.kindOf x=some .cell\/env.kindOf x=some .free)/\∃c,env.cells.lookup x=some c/\h.IsCell c (some u))
abbrev zS(X:Cx)(e:Expr)(es:List Expr):Prop:=starEach (e::es) X.env=(false,eval e X.env)::starEach es X.env
abbrev zP(X:Cx)(p:Pos)(es:List Expr):Prop:=(backTo p (starEach es X.env)).any (·.1)=false
abbrev zB(x:Str):Prop:=(x == ("__debug__":Str))=false
abbrev zF(X:Cx)(e:Expr):Prop:=∀x,foldedSetIterable e X.env x=pure x
abbrev zL(X:Cx)(x:Str):Prop:=X.fn x=true\/X.env.scope.names.lookup x=some .local
abbrev zW(X:Cx)(p:Pos)(es:List Expr):Prop:=((backTo p (starEach es X.env)).all (λx=>!x.1)&&(backToKw p (keywordEach [] X.env)).all (λx=>x.1.isSome)&&decide (es.length+([]:List Keyword).length+(if ([]:List Keyword).isEmpty then 0 else 1)<30))=true
def zQ{sc:Scope}{x:Str}(h:(sc.names.lookup x == some .local||sc.names.lookup x == some .cell)=true:=by rfl):Loc sc x:=(Bool.or_eq_true_iff.mp h).imp (λz=>eq_of_beq z) λz=>eq_of_beq z
structure Cx.Ok(X:Cx):Prop where
 mod:Mod X.K X.mg X.base
 kind:X.env.scope.kind=.function
 glob:X.env.globals=mainGlobals
 blt:X.env.builtins=builtinsNs
 above:X.s₀.heap.objs.size<=X.env.locals
 inj:∀x y c,X.env.cells.lookup x=some c->X.env.cells.lookup y=some c->x=y
 has:∀x,(X.env.kindOf x=some .cell\/X.env.kindOf x=some .free)->∃c,X.env.cells.lookup x=some c
 cab:∀x c,X.fn x=true->X.env.cells.lookup x=some c->X.s₀.heap.objs.size<=c
 hd:X.calm=true->X.A.handled=none
 frames:X.A.frames=some X.stack
 stk:X.stack=X.outer\/(X.stack=X.env::X.outer/\X.env.frame=some X.env.locals)
 exf:∀b∈X.ex,b≠X.env.locals/\∀x c,X.env.cells.lookup x=some c->c≠b
 bs:∀b o,X.base.get? b=some o->X.s₀.heap.get? b=some o/\X.H₀ b=none
 bsz:X.base.objs.size<=X.s₀.heap.objs.size
 noex:∀b o,X.base.get? b=some o->b∉X.ex
 exfs:∀b∈X.ex,b∉X.fs
 jC:X.s₀.heap.FunFrames X.base X.outer
 frf:∀b∈X.fs,X.H₀ b=none
 sof:∀q∈X.sf,X.A.handled=some (.ref q.1)/\X.H₀ q.1=some (.frz q.2.1 q.2.2)/\∃ws,q.2.1.data=.fields ws/\ws[2]?=some .none
structure Inv(X:Cx)(pins:List (Addr×Obj))(σ:List (Option V))(H:Hp)(s:Shared):Prop where
 ok:X.Ok
 os:s.os=X.s₀.os
 bare:AllBare s.gens
 base:Un X.fs X.ex X.H₀ H X.s₀.heap s.heap
 loc:∃m,s.heap.Ns X.env.locals m/\∀(i:Nat) (x:Str) (v:V),X.N[i]?=some x->σ[i]?=some (some v)->Vis X.env.scope x->∃u,RelV v u/\Look X.env s.heap m x u
 cell:∀x c,X.env.cells.lookup x=some c->∃v,s.heap.IsCell c v
 free:H X.env.locals=none
 freeC:∀x c,X.env.cells.lookup x=some c->H c=none
 pin:∀p∈X.pn++pins,s.heap.get? p.1=some p.2/\H p.1=none/\p.1≠X.env.locals/\p.1∉X.fs/\∀v,p.2.data≠.cell v
 hok:HOk X.prog X.w H s.heap
 len:σ.length=X.N.length
section
variable {X:Cx}{pins:List (Addr×Obj)}{σ:List (Option V)}{H H':Hp}{s:Shared}{h':Heap}
def Cx.Ok.O8(ok:X.Ok){b:Addr}{o:Obj}(e:X.base.get? b=some o):b∉X.fs:=λhb=>by
 have:=(ok.jC.mem hb).1
 rw[e] at this;cases this
def Inv.bs(I:Inv X pins σ H s):∀b o,X.base.get? b=some o->s.heap.get? b=some o/\H b=none:=λb o e =>
 ⟨I.base.keep b o (I.ok.bs b o e).1 (I.ok.bs b o e).2 (I.ok.O8 e) (I.ok.noex b o e),I.base.free b o (I.ok.bs b o e).1 (I.ok.bs b o e).2 (I.ok.noex b o e)⟩
def Inv.bk(I:Inv X pins σ H s):∀b o,X.base.get? b=some o->s.heap.get? b=some o:=λb o e=>(I.bs b o e).1
def Inv.mod(I:Inv X pins σ H s):Mod X.K X.mg X.base:=I.ok.mod
def Inv.kIn(I:Inv X pins σ H s):X.K.In s.heap:=I.ok.mod.kin.keeps I.bk
def Inv.fr(I:Inv X pins σ H s):∃m,Fr X.base X.env.locals s.heap m :=
 let ⟨m,hn,_⟩:=I.loc
 ⟨m,hn,I.bk,ô I.ok.bsz I.ok.above⟩
def Inv.lt(I:Inv X pins σ H s):X.env.locals<s.heap.objs.size:=let ⟨_,hn,_⟩:=I.loc;hn.lt
def Inv.sz(I:Inv X pins σ H s):X.s₀.heap.objs.size<=s.heap.objs.size:=ô I.ok.above (Nat.le_of_lt I.lt)
def Inv.O7(I:Inv X pins σ H s){a:Addr}(h:s.heap.objs.size<=a):a∉X.fs:=λhb=>by
 obtain⟨_,o,ho,_⟩:=I.ok.jC.mem hb
 exact absurd (Ó (Å ho) (ô I.sz h)) (ú _)
def Inv.cne(I:Inv X pins σ H s):∀x c,X.env.cells.lookup x=some c->c≠X.env.locals:=λx c e z=>by
 obtain⟨v,o,ho,hd⟩:=I.cell x c e
 obtain⟨m,⟨o',es,ep,ho',hd',_⟩,_⟩:=I.loc
 rw[z,ho'] at ho;cases ho;rw[hd'] at hd;cases hd
def Inv.jC(I:Inv X pins σ H s):s.heap.FunFrames X.base X.outer:=by
 have all:∀(l:List Env),(∀b∈frs l,b∈X.fs)->X.s₀.heap.FunFrames X.base l->s.heap.FunFrames X.base l:=by
  intro l
  induction l with
  |nil=>intro _ _;trivial
  |cons env r ih =>
   intro hs hl
   obtain⟨hk,⟨L,o,hf,hn,ho,hd⟩,hr⟩:=hl
   have hL:L∈X.fs:=hs L (by unfold frs;rw[ď,hf];exact Ì)
   obtain⟨sl,e⟩:=I.base.slot L o ho (I.ok.frf L hL) hL λz=>I.ok.exfs L z hL
   exact⟨hk,⟨L,_,hf,hn,e,hd⟩,ih (λb hb=>hs b (by unfold frs;rw[ď,hf];exact Ï _ hb)) hr⟩
 exact all X.outer (λ_ hb=>hb) I.ok.jC
def Inv.stack(I:Inv X pins σ H s):s.heap.FunFrames X.base X.stack:=by
 rcases I.ok.stk with e|⟨e,hf⟩
 ·rw[e];exact I.jC
 ·rw[e]
  obtain⟨m,hn,_⟩:=I.loc
  refine .cons (by rw[I.ok.kind];decide) hf hn ?_ I.jC
  exact Heap.get?_none_of_le (ô I.ok.bsz I.ok.above)
def Inv.mU(I:Inv X pins σ H s):∀b∈frs X.stack,b∈X.env.locals::X.fs:=λb hb=>by
 rcases I.ok.stk with e|⟨e,hf⟩
 ·rw[e] at hb;exact Ï _ hb
 ·rw[e] at hb
  unfold frs at hb
  rw[ď,hf] at hb
  exact hb
def Inv.qx(I:Inv X pins σ H s):∀b∈frs X.stack,H b=none:=λb hb=>by
 rcases É.mp (I.mU b hb) with e|hb
 ·rw[e];exact I.free
 ·obtain⟨_,o,ho,_⟩:=I.ok.jC.mem hb
  exact I.base.free b o ho (I.ok.frf b hb) λz=>I.ok.exfs b z hb
def Inv.step{g':Array GenState}{t':Nat}{d':Drawn}{ch:List Addr}(I:Inv X pins σ H s)(hch:∀b∈ch,(b∈X.ex\/X.s₀.heap.objs.size<=b)/\b≠X.env.locals/\(∀x c,X.env.cells.lookup x=some c->c≠b)/\∀p∈X.pn++pins,p.1≠b)(keep:∀b o,b≠X.env.locals->b∉X.fs->b∉ch->s.heap.get? b=some o->H b=none->h'.get? b=some o)(slot:∀b o,b≠X.env.locals->b∈X.fs->b∉ch->s.heap.get? b=some o->H b=none->∃sl,h'.get? b=some { o with slots:=sl })(free:∀b o,b∉ch->s.heap.get? b=some o->H b=none->H' b=none)(there:∀b o,b∉ch->s.heap.get? b=some o->∃o',h'.get? b=some o')(tups:∀b xs,H b=some (.tup xs)->H' b=some (.tup xs))(frzs:∀b o u,H b=some (.frz o u)->H' b=some (.frz o u))(tbls:∀b ps,H b=some (.tbl ps)->∃more,H' b=some (.tbl (ps++more)))(ns:∀m,s.heap.Ns X.env.locals m->h'.Ns X.env.locals m)(hok:HOk X.prog X.w H' h')(hg:AllBare g') :
  Inv X pins σ H' { s with heap:=h',gens:=g',drawn:=d',toks:=t' }:=by
 have neL:∀b o,X.s₀.heap.get? b=some o->b≠X.env.locals:=λb o e=>Û (Ó (Å e) I.ok.above)
 have neC:∀b o,X.s₀.heap.get? b=some o->b∉X.ex->b∉ch:=λb o e hx hb=>by
  rcases(hch b hb).1 with z|z
  ·exact hx z
  ·exact absurd (Ó (Å e) z) (ú _)
 have cellK:∀x c,X.env.cells.lookup x=some c->∀v,s.heap.IsCell c v->h'.IsCell c v:=λx c e v ⟨o,ho,hd⟩=>by
  have nch:c∉ch:=λz=>(hch c z).2.2.1 x c e rfl
  by_cases hc:c∈X.fs
  ·obtain⟨sl,q⟩:=slot c o (I.cne x c e) hc nch ho (I.freeC x c e)
   exact⟨_,q,hd⟩
  ·exact⟨o,keep c o (I.cne x c e) hc nch ho (I.freeC x c e),hd⟩
 refine⟨I.ok,I.os,hg,⟨λb o e n hb hx=>?_,λb o e n hb hx=>?_,λb o e n hx=>?_,λb o e hx=>?_,λb xs e=>tups b xs (I.base.tups b xs e),λb o xs e=>frzs b o xs (I.base.frzs b o xs e),λb ps e=>?_⟩,?_,λx c e=>?_,?_,λx c e=>?_,λp hp=>?_,hok,I.len⟩
 ·exact keep b o (neL b o e) hb (neC b o e hx) (I.base.keep b o e n hb hx) (I.base.free b o e n hx)
 ·obtain⟨sl,e1⟩:=I.base.slot b o e n hb hx
  obtain⟨sl',e2⟩:=slot b _ (neL b o e) hb (neC b o e hx) e1 (I.base.free b o e n hx)
  exact⟨sl',e2⟩
 ·obtain⟨o',e1⟩:=I.base.there b o e hx
  exact free b o' (neC b o e hx) e1 (I.base.free b o e n hx)
 ·obtain⟨o',e1⟩:=I.base.there b o e hx
  exact there b o' (neC b o e hx) e1
 ·obtain⟨m1,e1⟩:=I.base.tbls b ps e
  obtain⟨m2,e2⟩:=tbls b _ e1
  exact⟨m1++m2,by rw[e2,Array.append_assoc]⟩
 ·obtain⟨m,hn,hl⟩:=I.loc
  refine⟨m,ns m hn,λi x v e1 e2 e3=>?_⟩
  obtain⟨u,r,l⟩:=hl i x v e1 e2 e3
  refine⟨u,r,?_⟩
  rcases l with l|⟨k,c,e,z⟩
  ·exact .inl l
  ·exact .inr ⟨k,c,e,cellK x c e _ z⟩
 ·obtain⟨v,z⟩:=I.cell x c e
  exact⟨v,cellK x c e v z⟩
 ·obtain⟨m,⟨o,_,_,ho,_⟩,_⟩:=I.loc
  exact free _ o (λz=>(hch _ z).2.1 rfl) ho I.free
 ·obtain⟨v,o,ho,hd⟩:=I.cell x c e
  exact free c o (λz=>(hch c z).2.2.1 x c e rfl) ho (I.freeC x c e)
 ·obtain⟨e,n,ne,nf,d⟩:=I.pin p hp
  have nch:p.1∉ch:=λz=>(hch p.1 z).2.2.2 p hp rfl
  exact⟨keep p.1 p.2 ne nf nch e n,free p.1 p.2 nch e n,ne,nf,d⟩
def Inv.un{t':Nat}(I:Inv X pins σ H s)(u:Un X.fs [] H H' s.heap h')(hok:HOk X.prog X.w H' h'):Inv X pins σ H' { s with heap:=h',toks:=t' }:=by
 obtain⟨m,⟨o,es,ep,ho,r⟩,_⟩:=id I.loc
 obtain⟨sl,hL⟩:=u.any ho I.free (by simp)
 exact I.step (g':=s.gens) (d':=s.drawn) (ch:=[]) (λ_ z=>nomatch z) (λb o _ hb _ e n=>u.keep b o e n hb (by simp)) (λb o _ hb _ e n=>u.slot b o e n hb (by simp)) (λb o _ e n=>u.free b o e n (by simp)) (λb o _ e=>u.there b o e (by simp)) u.tups u.frzs u.tbls (λm' hm=>by
  obtain⟨o',es',ep',ho',r'⟩:=hm
  rw[ho] at ho';cases ho'
  exact⟨_,es',ep',hL,r'⟩) hok I.bare
def Inv.call{g':Array GenState}{t':Nat}{d':Drawn}{ch:List Addr}(I:Inv X pins σ H s)(u:Un (frs X.stack) ch H H' s.heap h')(hok:HOk X.prog X.w H' h')(hg:AllBare g')(hch:∀b∈ch,(b∈X.ex\/X.s₀.heap.objs.size<=b)/\b≠X.env.locals/\(∀x c,X.env.cells.lookup x=some c->c≠b)/\∀p∈X.pn++pins,p.1≠b) :
  Inv X pins σ H' { s with heap:=h',gens:=g',drawn:=d',toks:=t' }:=by
 obtain⟨m,⟨o,es,ep,ho,r⟩,_⟩:=id I.loc
 obtain⟨sl,hL⟩:=u.any ho I.free λz=>(hch _ z).2.1 rfl
 exact I.step (ch:=ch) hch (λb o hL hb hc e n=>u.keep b o e n (λz=>(É.mp (I.mU b z)).elim hL hb) hc) (λb o _ _ hc e n=>u.any e n hc) (λb o hc e n=>u.free b o e n hc) (λb o hc e=>u.there b o e hc) u.tups u.frzs u.tbls (λm' hm=>by
  obtain⟨o',es',ep',ho',r'⟩:=hm
  rw[ho] at ho';cases ho'
  exact⟨_,es',ep',hL,r'⟩) hok hg
def Inv.turned{t':Nat}{it:Addr}(I:Inv X pins σ H s)(k:∀b o,b≠it->s.heap.get? b=some o->h'.get? b=some o)(hn:H it=none)(hL:it≠X.env.locals)(h1:it∈X.ex\/X.s₀.heap.objs.size<=it)(h2:∀x c,X.env.cells.lookup x=some c->c≠it)(h3:∀p∈X.pn++pins,p.1≠it):Inv X pins σ H { s with heap:=h',toks:=t' }:=by
 have nit:∀b u,H b=some u->b≠it:=λb u e z=>by rw[z,hn] at e;cases e
 refine I.step (g':=s.gens) (d':=s.drawn) (ch:=[it]) (λb hb=>?_) (λb o _ _ hc e _=>k b o (λz=>hc (by simp[z])) e) (λb o _ _ hc e _=>⟨o.slots,k b o (λz=>hc (by simp[z])) e⟩) (λ_ _ _ _ n=>n)
  (λb o hc e=>⟨o,k b o (λz=>hc (by simp[z])) e⟩) (λ_ _ e=>e) (λ_ _ _ e=>e) (λb ps e=>⟨#[],by rw[e];simp⟩) (λm hm=>?_) (λb u e=>?_) I.bare
 ·have e:b=it:=by simpa using hb
  subst e
  exact⟨h1,hL,h2,h3⟩
 ·obtain⟨o,es,ep,ho,r⟩:=hm
  exact⟨o,es,ep,k _ o (é hL) ho,r⟩
 ·refine(I.hok b u e).stay (λc v hc q=>k c v ?_ q) (λ_ q=>q) λ_ _ q=>q
  rcases hc with z|z
  ·rw[z];exact nit b u e
  ·exact nit c _ z
def Inv.tok(I:Inv X pins σ H s)(t:Nat):Inv X pins σ H { s with toks:=t }:=I.un (h':=s.heap) (t':=t) Un.refl I.hok
def Inv.kept{t':Nat}(I:Inv X pins σ H s)(k:∀b u,s.heap.get? b=some u->h'.get? b=some u):Inv X pins σ H { s with heap:=h',toks:=t' }:=I.un (Un.kept k) (I.hok.kept k)
def Inv.laid{a:Addr}{o:HO}{t':Nat}(I:Inv X pins σ H s)(k:∀b u,s.heap.get? b=some u->h'.get? b=some u)(hp:s.heap.objs.size<=a)(new:aM X.prog X.w (upd H a o) h' a o) :
  Inv X pins σ (upd H a o) { s with heap:=h',toks:=t' }:=I.un (Un.laid k hp (I.hok.fresh hp)) (I.hok.laid k hp new)
def Inv.write{x e:Addr}{o:HO}{t':Nat}(I:Inv X pins σ H s)(mu:Mut (H x))(he:e=x\/H e=some (.own x))(k:∀b u,b≠e->s.heap.get? b=some u->h'.get? b=some u)(heo:∃u,h'.get? e=some u)(new:aM X.prog X.w (upd H x o) h' x o):Inv X pins σ (upd H x o) { s with heap:=h',toks:=t' }:=I.un (Un.write mu he k heo) (I.hok.write mu he k heo new)
def Inv.mj{pins':List (Addr×Obj)}(I:Inv X pins σ H s)(h:∀p∈pins',s.heap.get? p.1=some p.2/\H p.1=none/\p.1≠X.env.locals/\p.1∉X.fs/\∀v,p.2.data≠.cell v):Inv X pins' σ H s :=
 ⟨I.ok,I.os,I.bare,I.base,I.loc,I.cell,I.free,I.freeC,λp hp=>(è.mp hp).elim (λz=>I.pin p (Ş _ z)) (h p),I.hok,I.len⟩
def nO{N:List Str}(hN:N.Nodup){i j:Nat}{x:Str}(a:N[i]?=some x)(b:N[j]?=some x):i=j:=by
 obtain⟨h1,e1⟩:=Ù.mp a
 obtain⟨h2,e2⟩:=Ù.mp b
 exact(List.getElem_inj hN).mp (e1.trans e2.symm)
def pJ{M:Model}{A:Around}{E:Value->Shared->Prop}{i:Nat}{x:Str}{v:V}{u:Value}{Q:Unit->Shared->Prop}(I:Inv X pins σ H s)(hU:∀j,X.N[j]?=some x->j=i)(hi:X.N[i]?=some x)(hx:Loc X.env.scope x)(r:RelV v u)(h:∀s',Inv X pins (σ.set i (some v)) H s'->(∃a,ũ a s.heap s'.heap/\(a=X.env.locals\/X.env.cells.lookup x=some a))->Q () s')(hf:X.fn x=true\/X.env.scope.names.lookup x=some .local:=by first|exact .inl rfl|exact .inr rfl|assumption):wpAny M A (storeName X.env x u) Q E s:=by
 obtain⟨m,hn,hl⟩:=id I.loc
 have hcls:(X.env.scope.kind == .class || (X.env.scope.kind == .module&&X.env.locals != X.env.globals))=false:=by rw[I.ok.kind];rfl
 have hiσ:i<σ.length:=by rw[I.len];exact(Ù.mp hi).1
 have cne:=I.cne
 have tracked:∀{a:Addr}{h':Heap},(∃o,s.heap.get? a=some o/\H a=none)->ũ a s.heap h'->HOk X.prog X.w H h':=λ{a h'} ha hs b ob e=>by
  obtain⟨_,_,hfree⟩:=ha
  refine(I.hok b ob e).stay (λc w' hc q=>(hs.2 c ?_).trans q) (λ_ q=>q) λ_ _ q=>q
  rintro rfl
  rcases hc with rfl|hc
  ·rw[hfree] at e;cases e
  ·rw[hfree] at hc;cases hc
 rcases hx with hk|hk
 ·refine wpAny_storeName_local hk hn (λh' hn' hs=>?_) hcls
  obtain⟨oL,_,_,hoL,_⟩:=id hn
  refine h _ ⟨I.ok,I.os,I.bare,⟨λb o e n hb hx=>?_,λb o e n hb hx=>?_,I.base.free,λb o e hx=>?_,I.base.tups,I.base.frzs,I.base.tbls⟩,⟨_,hn',λj y v' e1 e2 e3=>?_⟩,λy c e=>?_,I.free,I.freeC,λp hp=>?_,tracked ⟨oL,hoL,I.free⟩ hs,by simpa using I.len⟩ ⟨_,hs,.inl rfl⟩
  ·exact(hs.2 b (Û (Ó (Å e) I.ok.above))).trans (I.base.keep b o e n hb hx)
  ·obtain⟨sl,e1⟩:=I.base.slot b o e n hb hx
   exact⟨sl,(hs.2 b (Û (Ó (Å e) I.ok.above))).trans e1⟩
  ·obtain⟨o',e1⟩:=I.base.there b o e hx
   exact⟨o',(hs.2 b (Û (Ó (Å e) I.ok.above))).trans e1⟩
  ·by_cases hj:j=i
   ·subst hj
    rw[hi] at e1;cases e1
    rw[Ć hiσ] at e2
    cases e2
    exact⟨u,r,.inl ⟨hk,by simp⟩⟩
   ·rw[Ę (é hj)] at e2
    obtain⟨u',r',q⟩:=hl j y v' e1 e2 e3
    refine⟨u',r',?_⟩
    rcases q with ⟨k,e⟩|⟨k,c,e,z⟩
    ·refine .inl ⟨k,?_⟩
     have:y≠x:=λe=>hj (hU _ (e ▸ e1))
     simp[this,e]
    ·exact .inr ⟨k,c,e,z.sameBut hs (cne y c e)⟩
  ·obtain⟨w',z⟩:=I.cell y c e
   exact⟨w',z.sameBut hs (cne y c e)⟩
  ·obtain⟨e,n,ne,nf,d⟩:=I.pin p hp
   exact⟨(hs.2 p.1 ne).trans e,n,ne,nf,d⟩
 ·have hfn:X.fn x=true:=by
   rcases hf with z|z
   ·exact z
   ·rw[z] at hk;cases hk
  obtain⟨c,hc⟩:=I.ok.has x (.inl hk)
  obtain⟨w',z⟩:=I.cell x c hc
  refine wpAny_storeName_cell I.ok.kind hk hc z (λh' hc' hs=>?_)
  obtain⟨oc,hoc,hocd⟩:=id z
  refine h { s with heap:=h' } ⟨I.ok,I.os,I.bare,⟨λb o e n hb hx=>?_,λb o e n hb hx=>?_,I.base.free,λb o e hx=>?_,I.base.tups,I.base.frzs,I.base.tbls⟩,⟨m,hn.sameBut hs (é (cne x c hc)),λj y v' e1 e2 e3=>?_⟩,λy c' e=>?_,I.free,I.freeC,λp hp=>?_,tracked ⟨oc,hoc,I.freeC x c hc⟩ hs,by simpa using I.len⟩ ⟨c,hs,.inr hc⟩
  ·exact(hs.2 b (Û (Ó (Å e) (I.ok.cab x c hfn hc)))).trans (I.base.keep b o e n hb hx)
  ·obtain⟨sl,e1⟩:=I.base.slot b o e n hb hx
   exact⟨sl,(hs.2 b (Û (Ó (Å e) (I.ok.cab x c hfn hc)))).trans e1⟩
  ·obtain⟨o',e1⟩:=I.base.there b o e hx
   exact⟨o',(hs.2 b (Û (Ó (Å e) (I.ok.cab x c hfn hc)))).trans e1⟩
  ·by_cases hj:j=i
   ·subst hj
    rw[hi] at e1;cases e1
    rw[Ć hiσ] at e2
    cases e2
    exact⟨u,r,.inr ⟨.inl hk,c,hc,hc'⟩⟩
   ·rw[Ę (é hj)] at e2
    obtain⟨u',r',q⟩:=hl j y v' e1 e2 e3
    refine⟨u',r',?_⟩
    rcases q with q|⟨k,c',e,z'⟩
    ·exact .inl q
    ·refine .inr ⟨k,c',e,z'.sameBut hs ?_⟩
     rintro rfl
     exact hj (hU _ (I.ok.inj _ _ _ e hc ▸ e1))
  ·by_cases hcc:c'=c
   ·subst hcc;exact⟨_,hc'⟩
   ·obtain⟨w2,z2⟩:=I.cell y c' e
    exact⟨w2,z2.sameBut hs hcc⟩
  ·obtain⟨e,n,ne,nf,d⟩:=I.pin p hp
   refine⟨(hs.2 p.1 ?_).trans e,n,ne,nf,d⟩
   intro q
   rw[q,hoc] at e
   have q':oc=p.2:=Ò e
   exact d w' (by rw[←q'];exact hocd)
def mR{M:Model}{A:Around}{E:Value->Shared->Prop}{i:Nat}{x:Str}{v:V}{u:Value}{Q:Unit->Shared->Prop}(I:Inv X pins σ H s)(hN:X.N.Nodup)(hi:X.N[i]?=some x)(hx:Loc X.env.scope x)(r:RelV v u)(h:∀s',Inv X pins (σ.set i (some v)) H s'->Q () s')(hf:X.fn x=true\/X.env.scope.names.lookup x=some .local:=by first|exact .inl rfl|exact .inr rfl|assumption):wpAny M A (storeName X.env x u) Q E s :=
 pJ I (λj h=>nO hN h hi) hi hx r (λs' I' _=>h s' I') hf
def Inv.call'{s':Shared}{ch:List Addr}(I:Inv X pins σ H s)(ho:s'.os=s.os)(u:Un (frs X.stack) ch H H' s.heap s'.heap)(hok:HOk X.prog X.w H' s'.heap)(hg:AllBare s'.gens)(hch:∀b∈ch,(b∈X.ex\/X.s₀.heap.objs.size<=b)/\b≠X.env.locals/\(∀x c,X.env.cells.lookup x=some c->c≠b)/\∀p∈X.pn++pins,p.1≠b):Inv X pins σ H' s':=by
 obtain⟨h',g',d',t',o'⟩:=s'
 have e:o'=s.os:=ho
 subst e
 exact I.call (g':=g') (t':=t') (d':=d') u hok hg hch
end
abbrev XK:=Value->Option Addr->Hp->Prop
abbrev St:=List (Option V)
abbrev VK:=V->Hp->Prop
abbrev TE:=St->Hp->VK->Prop
abbrev TT:=St->Hp->(Bool->Hp->Prop)->Prop
abbrev TA:=St->Hp->(List V->Hp->Prop)->Prop
structure Ends where
 nx:St->Hp->Prop
 rt:VK
 bk:St->Hp->Prop:=λ_ _=>False
 ct:St->Hp->Prop:=λ_ _=>False
abbrev TS:=Ends->St->Hp->Prop
def EP(X:Cx)(pins:List (Addr×Obj))(σ:St)(Q:VK)(u:Value)(s':Shared):Prop:=∃v H',Inv X pins σ H' s'/\RelV v u/\Q v H'
def TP(X:Cx)(pins:List (Addr×Obj))(σ:St)(Q:Bool->Hp->Prop)(b:Bool)(s':Shared):Prop:=∃H',Inv X pins σ H' s'/\Q b H'
def AP(X:Cx)(pins:List (Addr×Obj))(σ:St)(Q:List V->Hp->Prop)(us:List Value)(s':Shared):Prop:=∃vs H',Inv X pins σ H' s'/\Vals vs us/\Q vs H'
def SP(X:Cx)(pins:List (Addr×Obj))(D:Ends)(f:Flow)(s':Shared):Prop :=
 match f with
 |.next=>∃σ' H',Inv X pins σ' H' s'/\D.nx σ' H'
 |.brk=>∃σ' H',Inv X pins σ' H' s'/\D.bk σ' H'
 |.cont=>∃σ' H',Inv X pins σ' H' s'/\D.ct σ' H'
 |.ret u=>∃v σ' H',Inv X pins σ' H' s'/\RelV v u/\D.rt v H'
def PE(X:Cx)(e:Expr)(t:TE):Prop :=
 ∀(pins:List (Addr×Obj)) (s:Shared) (σ:St) (H:Hp) (Q:VK),Inv X pins σ H s->t σ H Q->wpAny (model X.prog X.w) X.A (eval e X.env) (EP X pins σ Q) X.xe s
def PT(X:Cx)(e:Expr)(t:TT):Prop :=
 ∀(pins:List (Addr×Obj)) (s:Shared) (σ:St) (H:Hp) (Q:Bool->Hp->Prop),Inv X pins σ H s->t σ H Q->wpAny (model X.prog X.w) X.A (isTrue e X.env (eval e X.env)) (TP X pins σ Q) X.xe s
def PW(X:Cx)(e:Expr)(t:TT):Prop :=
 ∀(whole:Sem Value) (pins:List (Addr×Obj)) (s:Shared) (σ:St) (H:Hp) (Q:Bool->Hp->Prop),Inv X pins σ H s->t σ H Q->wpAny (model X.prog X.w) X.A (isTrue e X.env whole) (TP X pins σ Q) X.xe s
def PW.pt{X:Cx}{e:Expr}{t:TT}(h:PW X e t):PT X e t:=h _
def PA(X:Cx)(es:List Expr)(t:TA):Prop :=
 ∀(pos:Pos) (pins:List (Addr×Obj)) (s:Shared) (σ:St) (H:Hp) (Q:List V->Hp->Prop),Inv X pins σ H s->t σ H Q->wpAny (model X.prog X.w) X.A (spliced (backTo pos (starEach es X.env))) (AP X pins σ Q) X.xe s
def PS(X:Cx)(st:Stmt)(t:TS):Prop :=
 ∀(pins:List (Addr×Obj)) (s:Shared) (σ:St) (H:Hp) (D:Ends),Inv X pins σ H s->t D σ H->wpAny (model X.prog X.w) X.A (exec st X.env) (SP X pins D) X.xe s
def PSs(X:Cx)(st:List Stmt)(t:TS):Prop :=
 ∀(pins:List (Addr×Obj)) (s:Shared) (σ:St) (H:Hp) (D:Ends),Inv X pins σ H s->t D σ H->wpAny (model X.prog X.w) X.A (execs st X.env) (SP X pins D) X.xe s
def thn{α:Type}{t:Sem α}{Q Q':α->Shared->Prop}{M:Model}{A:Around}{E:Value->Shared->Prop}{s:Shared}(h:wpAny M A t Q E s)(hQ:∀a s,Q a s->Q' a s):wpAny M A t Q' E s:=č h hQ λ_ _ x=>x
section
variable {X:Cx}
def bin{a b:Expr}{ta tb:TE}(ha:PE X a ta)(hb:PE X b tb){pins:List (Addr×Obj)}{s:Shared}{σ:St}{H:Hp}{R:V->V->Hp->Prop}(I:Inv X pins σ H s)(h:ta σ H λx H1=>tb σ H1 λy H2=>R x y H2){α:Type}{Q:α->Shared->Prop}{f:Value->Value->Sem α}(hf:∀v u s2 x y H2,Inv X pins σ H2 s2->RelV x v->RelV y u->R x y H2->wpAny (model X.prog X.w) X.A (f v u) Q X.xe s2) :
  wpAny (model X.prog X.w) X.A (eval a X.env) (λv s₁=>wpAny (model X.prog X.w) X.A (eval b X.env) (λu s₂=>wpAny (model X.prog X.w) X.A (f v u) Q X.xe s₂) X.xe s₁) X.xe s:=by
 refine thn (ha pins s σ H _ I h) λv s1 ⟨x,H1,I1,r1,q1⟩=>?_
 refine thn (hb pins s1 σ H1 _ I1 q1) λu s2 ⟨y,H2,I2,r2,q2⟩=>?_
 exact hf v u s2 x y H2 I2 r1 r2 q2
def mQ(i:Nat):TE:=λσ H Q=>∃v,σ[i]?=some (some v)/\Q v H
def tC(v:V):TE:=λ_ H Q=>Q v H
def Jq{i:Nat}{x:Str}{pos:Pos}(hN:X.N[i]?=some x)(hv:Vis X.env.scope x)(hd:(x == ("__debug__":Str))=false:=by decide)(hcd:(x == ("__classdict__":Str))=false:=by decide):PE X (.Name x pos) (mQ i):=by
 intro pins s σ H Q I h
 obtain⟨v,e,h⟩:=h
 obtain⟨m,hn,hl⟩:=I.loc
 obtain⟨u,r,l⟩:=hl i x v hN e hv
 have fin:EP X pins σ Q u s:=⟨v,H,I,r,h⟩
 rcases l with ⟨hk,hm⟩|⟨hk,c,hc,hcell⟩
 ·exact wpAny_Name (wpAny_loadName_local I.ok.kind hk hn hm fin) hd
 ·rcases hk with hk|hk
  ·exact wpAny_Name (wpAny_loadName_cell I.ok.kind hk hc hcell fin) hd
  ·exact wpAny_Name (wpAny_loadName_free I.ok.kind hk hc hcell fin hcd) hd
def aZ{i j pos}:PE X (.Constant (.int i) j pos) (tC (.int i)):=λ_ _ _ H _ I h=>wpAny_Constant_int ⟨.int i,H,I.tok _,⟨_,rfl⟩,h⟩
def HN{b j pos}:PE X (.Constant (.bool b) j pos) (tC (.bl b)):=λ_ _ _ H _ I h=>Constant_bool ⟨.bl b,H,I,rfl,h⟩
def BP{j pos}:PE X (.Constant .none j pos) (tC .non):=λ_ _ _ H _ I h=>Constant_none ⟨.non,H,I,rfl,h⟩
def cR{x j pos}:PE X (.Constant (.str x) j pos) (tC (.str x)):=λ_ _ _ H _ I h=>Calls.Constant_str ⟨.str x,H,I.tok _,⟨_,rfl⟩,h⟩
def Gl(X:Cx)(x:Str):Prop:=X.env.kindOf x=some .globalImplicit
def jZ{E:Value->Shared->Prop}{pins:List (Addr×Obj)}{s:Shared}{σ:St}{H:Hp}{x:Str}{u:Value}{pos:Pos}{Q:Value->Shared->Prop}(I:Inv X pins σ H s)(hg:Gl X x)(hm:X.mg x=some u)(h:Q u s)(hd:(x == ("__debug__":Str))=false:=by decide):wpAny (model X.prog X.w) X.A (eval (.Name x pos) X.env) Q E s :=
 Calls.Name_function_global I.ok.kind hg (Calls.loadGlobal_global (by rw[I.ok.glob];exact I.mod.glob.keeps I.bk) hm h) hd
def nW{E:Value->Shared->Prop}{pins:List (Addr×Obj)}{s:Shared}{σ:St}{H:Hp}{x:Str}{u:Value}{pos:Pos}{Q:Value->Shared->Prop}(I:Inv X pins σ H s)(hg:Gl X x)(hm:X.mg x=none)(hv:bootBuiltins x=some u)(h:Q u s)(hn:x≠"__name__":=by decide)(hd:(x == ("__debug__":Str))=false:=by decide):wpAny (model X.prog X.w) X.A (eval (.Name x pos) X.env) Q E s:=by
 obtain⟨mb,h1,h2⟩:=I.mod.blt
 exact Calls.Name_function_global I.ok.kind hg (Calls.loadGlobal_builtin (by rw[I.ok.glob];exact I.mod.glob.keeps I.bk) hm (by rw[I.ok.blt];exact h1.keeps I.bk) ((h2 x hn).trans hv) h) hd
def dJ{x:Str}{v:V}{u:Value}{pos:Pos}(hg:Gl X x)(hm:X.mg x=some u)(r:RelV v u)(hd:(x == ("__debug__":Str))=false:=by decide):PE X (.Name x pos) (tC v) :=
 λ_ _ _ H _ I h=>jZ I hg hm ⟨v,H,I,r,h⟩ hd
def mz{x:Str}{v:V}{u:Value}{pos:Pos}(hg:Gl X x)(hm:X.mg x=none)(hv:bootBuiltins x=some u)(r:RelV v u)(hn:x≠"__name__":=by decide)(hd:(x == ("__debug__":Str))=false:=by decide):PE X (.Name x pos) (tC v) :=
 λ_ _ _ H _ I h=>nW I hg hm hv ⟨v,H,I,r,h⟩ hn hd
variable {a b:Expr}{ta tb:TE}{pos:Pos}
def PC(X:Cx)(op:CmpOp)(a b:Expr)(t:TE):Prop :=
 ∀(pins:List (Addr×Obj)) (s:Shared) (σ:St) (H:Hp) (Q:VK),Inv X pins σ H s->t σ H Q ->
  wpAny (model X.prog X.w) X.A (eval a X.env) (λv s₁=>wpAny (model X.prog X.w) X.A (eval b X.env) (λu s₂=>wpAny (model X.prog X.w) X.A (compareOp op v u) (EP X pins σ Q) X.xe s₂) X.xe s₁) X.xe s
def tB(t:TE):TT:=λσ H Q=>t σ H λx H1=>∃c,x=.bl c/\Q c H1
def OJ{op:CmpOp}{t:TE}(h:PC X op a b t)(h1:behindInMarks op b=false:=by first|exact nobehind _ (by decide) (by decide)|rfl):PT X (.Compare a [op] [b] pos) (tB t):=by
 intro pins s σ H Q I hw
 refine wpAny_isTrue_Compare1 (thn (h pins s σ H _ I hw) λv s1 h1=>thn h1 λu s2 h2=>thn h2 λc s3 ⟨x,H1,I1,r1,q1⟩=>?_) h1
 obtain⟨d,rfl,q⟩:=q1
 cases r1
 exact ĩ ⟨H1,I1,q⟩
def Bt{e:Expr}{t:TE}(h:PE X e t)(he:∀whole,isTrue e X.env whole=(do let v ←whole;standAt e.pos;holding [v] (truthy v)):=by intro _;rfl):PT X e (tB t):=by
 intro pins s σ H Q I hw
 refine isTrue_plain (thn (h pins s σ H _ I hw) λv s1 ⟨x,H1,I1,r1,q1⟩=>?_) (he _)
 obtain⟨d,rfl,q⟩:=q1
 cases r1
 exact ĩ ⟨H1,I1,q⟩
variable {tA tB':TT}{rest:List Expr}
def Ot(t u:TT):TT:=λσ H Q=>t σ H λc H1=>if c=true then u σ H1 Q else Q false H1
def tOr(t u:TT):TT:=λσ H Q=>t σ H λc H1=>if c=true then Q true H1 else u σ H1 Q
def Ol(t:TT):TT:=λσ H Q=>t σ H λc H1=>Q (!c) H1
def FZ(ha:PT X a tA):PW X (.BoolOp .And [a] pos) tA:=by
 intro wh pins s σ H Q I h
 refine isTrue_and (thn (ha pins s σ H Q I h) λc s1 e=>?_)
 cases c with
 |true=>exact isTrue_and_nil e
 |false=>exact e
def Ji(ha:PT X a tA):PW X (.BoolOp .Or [a] pos) tA:=by
 intro wh pins s σ H Q I h
 refine isTrue_or (thn (ha pins s σ H Q I h) λc s1 e=>?_)
 cases c with
 |false=>exact isTrue_or_nil e
 |true=>exact e
def Jj(ha:PT X a tA)(hb:PW X (.BoolOp .And (b::rest) pos) tB'):PW X (.BoolOp .And (a::b::rest) pos) (Ot tA tB'):=by
 intro wh pins s σ H Q I h
 refine isTrue_and (thn (ha pins s σ H _ I h) λc s1 ⟨H1,I1,q1⟩=>?_)
 cases c with
 |true=>exact hb wh pins s1 σ H1 Q I1 q1
 |false=>exact⟨H1,I1,q1⟩
def Mx(ha:PT X a tA)(hb:PW X (.BoolOp .Or (b::rest) pos) tB'):PW X (.BoolOp .Or (a::b::rest) pos) (tOr tA tB'):=by
 intro wh pins s σ H Q I h
 refine isTrue_or (thn (ha pins s σ H _ I h) λc s1 ⟨H1,I1,q1⟩=>?_)
 cases c with
 |true=>exact⟨H1,I1,q1⟩
 |false=>exact hb wh pins s1 σ H1 Q I1 q1
def Jk(ha:PT X a tA):PT X (.UnaryOp .Not a pos) (Ol tA):=by
 intro pins s σ H Q I h
 exact isTrue_not (ha pins s σ H (λc H1=>Q (!c) H1) I h)
def Mf(ta tb:TE):TE:=λσ H Q=>ta σ H λx H1=>∃c,x=.bl c/\if c=true then tb σ H1 Q else Q (.bl false) H1
def Lq(ta:TE):TE:=λσ H Q=>ta σ H λx H1=>∃c,x=.bl c/\Q (.bl (!c)) H1
def BL{op}{t:TE}(h:PE X a t):PE X (.BoolOp op [a] pos) t:=λpins s σ H Q I hw=>BoolOp_one (h pins s σ H Q I hw)
def Cd(ha:PE X a ta)(hb:PE X (.BoolOp .And (b::rest) pos) tb):PE X (.BoolOp .And (a::b::rest) pos) (Mf ta tb):=by
 intro pins s σ H Q I h
 refine BoolOp_and (thn (ha pins s σ H _ I h) λv s1 ⟨x,H1,I1,r1,q1⟩=>?_)
 obtain⟨c,rfl,q1⟩:=q1
 cases r1
 refine ĩ ?_
 cases c with
 |true=>exact hb pins s1 σ H1 Q I1 q1
 |false=>exact⟨.bl false,H1,I1,rfl,q1⟩
def Jr(ha:PE X a ta):PE X (.UnaryOp .Not a pos) (Lq ta):=by
 intro pins s σ H Q I h
 refine UnaryOp_ (thn (ha pins s σ H _ I h) λv s1 ⟨x,H1,I1,r1,q1⟩=>?_)
 obtain⟨c,rfl,q1⟩:=q1
 cases r1
 exact not_of (ĩ ⟨.bl (!c),H1,I1,rfl,q1⟩)
end
def SqL(K:Ê)(H:Hp)(a:Addr)(xs:List V):Prop :=
 Rd H a (.lst xs) ∨
  ∃(o:Obj) (its:Array Value) (n:Nat),K.lookup a=some o/\o.cls=.type "list"/\o.dict=none/\o.data=.seq its n/\its.size<=sizeLine/\Vals xs its.toList
def SqT(K:Ê)(H:Hp)(a:Addr)(xs:List V):Prop :=
 Rd H a (.tup xs) ∨
  ∃(o:Obj) (its:Array Value) (n:Nat),K.lookup a=some o/\o.cls=.type "tuple"/\o.data=.seq its n/\its.size<=sizeLine/\Vals xs its.toList
def Pk:Value->Option V
 |.none=>some .non
 |.bool b=>some (.bl b)
 |.int i _=>some (.int i)
 |.str x _=>some (.str x)
 |.bytes b _=>some (.byt b)
 |.float b _=>some (.flt b)
 |.ref a=>some (.ref a)
 |.type n=>some (.ty n)
 |_=>none
def RelV.abs{x:V}{u:Value}(r:RelV x u):Pk u=some x:=by
 cases x with
 |non=>cases r;rfl
 |bl _=>cases r;rfl
 |int _=>obtain⟨t,rfl⟩:=r;rfl
 |str _=>obtain⟨t,rfl⟩:=r;rfl
 |byt _=>obtain⟨t,rfl⟩:=r;rfl
 |flt _=>obtain⟨t,rfl⟩:=r;rfl
 |ref _=>cases r;rfl
 |ty _=>cases r;rfl
def RelV.inj{x y:V}{u:Value}(r:RelV x u)(q:RelV y u):x=y:=Ò (r.abs.symm.trans q.abs)
def Vals.inj:∀{xs ys:List V}{us:List Value},Vals xs us->Vals ys us->xs=ys
 |_,_,_,.nil,.nil=>rfl
 |_,_,_,.cons r t,.cons r' t'=>by rw[r.inj r',Vals.inj t t']
section
variable {X:Cx}{pins:List (Addr×Obj)}{σ:St}{H:Hp}{s:Shared}{a:Addr}{xs ys:List V}
def SqL.of{K:Ê}(h:H a=some (.lst xs)):SqL K H a xs:=.inl (.inl h)
def SqT.of{K:Ê}(h:H a=some (.tup xs)):SqT K H a xs:=.inl (.inl h)
def Inv.list(I:Inv X pins σ H s)(h:SqL X.K H a xs):∃its:List Value,Vals xs its/\PlainL s.heap a its.toArray/\xs.length<=sizeLine:=by
 rcases h with h|⟨o,its,n,hk,hc,hd,hs,hz,r⟩
 ·obtain⟨z,its,n,r,e⟩:=h.ok I.hok
  exact⟨its,r,⟨_,n,e,rfl,rfl,rfl⟩,z⟩
 ·refine⟨its.toList,r,⟨o,n,I.kIn a o hk,hc,hd,by simpa using hs⟩,?_⟩
  have e:=r.length
  simp only[Ă] at e
  omega
def Inv.tuple(I:Inv X pins σ H s)(h:SqT X.K H a xs):∃its:List Value,Vals xs its/\IsTup s.heap a its.toArray/\xs.length<=sizeLine:=by
 rcases h with h|⟨o,its,n,hk,hc,hs,hz,r⟩
 ·obtain⟨z,its,r,p⟩:=h.ok I.hok
  exact⟨its,r,p,z⟩
 ·refine⟨its.toList,r,⟨o,I.kIn a o hk,hc,n,by simpa using hs⟩,?_⟩
  have e:=r.length
  simp only[Ă] at e
  omega
def Inv.nQ(I:Inv X pins σ H s)(h:SqL X.K H a xs)(h':SqL X.K H a ys):xs=ys:=by
 obtain⟨its,r,⟨o,n,e,_,_,d⟩,_⟩:=I.list h
 obtain⟨its',r',⟨o',n',e',_,_,d'⟩,_⟩:=I.list h'
 rw[e] at e';cases e'
 rw[d] at d'
 injection d' with d1 _
 have:its=its':=by simpa using congrArg Array.toList d1
 subst this
 exact r.inj r'
def Inv.kj(I:Inv X pins σ H s)(h:SqT X.K H a xs)(h':SqT X.K H a ys):xs=ys:=by
 obtain⟨its,r,⟨o,e,_,n,d⟩,_⟩:=I.tuple h
 obtain⟨its',r',⟨o',e',_,n',d'⟩,_⟩:=I.tuple h'
 rw[e] at e';cases e'
 rw[d] at d'
 injection d' with d1 _
 have:its=its':=by simpa using congrArg Array.toList d1
 subst this
 exact r.inj r'
end
abbrev Cx.wish(X:Cx)(E:Value->Shared->Prop):Cx:={ X with xe:=E }
abbrev Cx.nox(X:Cx):Cx:=X.wish λ_ _=>False
def Cx.Ok.wish{X:Cx}(ok:X.Ok)(E:Value->Shared->Prop):(X.wish E).Ok :=
 ⟨ok.mod,ok.kind,ok.glob,ok.blt,ok.above,ok.inj,ok.has,ok.cab,ok.hd,ok.frames,ok.stk,ok.exf,ok.bs,ok.bsz,ok.noex,ok.exfs,ok.jC,ok.frf,ok.sof⟩
def Cx.Ok.gC{X:Cx}{E:Value->Shared->Prop}(ok:(X.wish E).Ok):X.Ok :=
 ⟨ok.mod,ok.kind,ok.glob,ok.blt,ok.above,ok.inj,ok.has,ok.cab,ok.hd,ok.frames,ok.stk,ok.exf,ok.bs,ok.bsz,ok.noex,ok.exfs,ok.jC,ok.frf,ok.sof⟩
section
variable {X:Cx}{pins:List (Addr×Obj)}{σ:St}{H:Hp}{s:Shared}{E:Value->Shared->Prop}
def Inv.wish(I:Inv X pins σ H s)(E:Value->Shared->Prop):Inv (X.wish E) pins σ H s:=⟨I.ok.wish E,I.os,I.bare,I.base,I.loc,I.cell,I.free,I.freeC,I.pin,I.hok,I.len⟩
def Inv.gC(I:Inv (X.wish E) pins σ H s):Inv X pins σ H s:=⟨I.ok.gC,I.os,I.bare,I.base,I.loc,I.cell,I.free,I.freeC,I.pin,I.hok,I.len⟩
def SP.gC{D:Ends}{f:Flow}{s':Shared}(h:SP (X.wish E) pins D f s'):SP X pins D f s':=by
 cases f with
 |next=>obtain⟨σ',H',I,q⟩:=h;exact⟨σ',H',I.gC,q⟩
 |brk=>obtain⟨σ',H',I,q⟩:=h;exact⟨σ',H',I.gC,q⟩
 |cont=>obtain⟨σ',H',I,q⟩:=h;exact⟨σ',H',I.gC,q⟩
 |ret u=>obtain⟨v,σ',H',I,r,q⟩:=h;exact⟨v,σ',H',I.gC,r,q⟩
def PSs.nox{st:List Stmt}{t:TS}(h:PSs X.nox st t):PSs X st t:=λpins s σ H D I hw =>
 č (h pins s σ H D (I.wish _) hw) (λ_ _ q=>q.gC) λ_ _ z=>ø z
end
section
variable {X:Cx}{st:Stmt}{rest:List Stmt}{t u:TS}{e:Expr}{te:TE}{pos:Pos}
def Lw:TS:=λD σ H=>D.nx σ H
def Ln(t u:TS):TS:=λD σ H=>t { D with nx:=u D } σ H
def jP:PSs X [] Lw:=λ_ _ σ H _ I h=>œ ⟨σ,H,I,h⟩
def aO(h1:PS X st t)(h2:PSs X rest u):PSs X (st::rest) (Ln t u):=by
 intro pins s σ H D I h
 refine wpAny_execs_cons (thn (h1 pins s σ H { D with nx:=u D } I h) λf s1 q=>?_)
 cases f with
 |next =>
  obtain⟨σ',H',I',q⟩:=q
  exact h2 pins s1 σ' H' D I' q
 |ret v=>exact q
 |brk=>exact q
 |cont=>exact q
def cH(h1:PS X st t):PSs X [st] t:=by
 intro pins s σ H D I h
 refine wpAny_execs_cons (thn (h1 pins s σ H D I h) λf s1 q=>?_)
 cases f with
 |next=>exact œ q
 |ret v=>exact q
 |brk=>exact q
 |cont=>exact q
def Inv.quiet{pins:List (Addr×Obj)}{σ:St}{H:Hp}{s:Shared}(I:Inv X pins σ H s):interactive X.env=false:=by simp[interactive,I.ok.kind]
def Aq(te:TE):TS:=λD σ H=>te σ H λ_ H1=>D.nx σ H1
def gF(he:PE X e te)(hs:swapsWith e none pos.line X.env=pure false:=by rfl):PS X (.Expr e pos) (Aq te):=by
 intro pins s σ H D I h
 exact wpAny_Expr_any (thn (he pins s σ H _ I h) λv s1 ⟨x,H1,I1,r1,q1⟩=>⟨σ,H1,I1,q1⟩) I.quiet hs
def Oj(te:TE):TS:=λD σ H=>te σ H D.rt
def iC(he:PE X e te):PS X (.Return (some e) pos) (Oj te):=by
 intro pins s σ H D I h
 exact wpAny_Return_some (thn (he pins s σ H _ I h) λv s1 ⟨x,H1,I1,r1,q1⟩=>⟨x,σ,H1,I1,r1,q1⟩)
def Oo(c:TT)(t u:TS):TS:=λD σ H=>c σ H λb H1=>if b=true then t D σ H1 else u D σ H1
def sY{c:Expr}{a b:List Stmt}{tc:TT}(hc:PT X c tc)(ha:PSs X a t)(hb:PSs X b u):PS X (.If c a b pos) (Oo tc t u):=by
 intro pins s σ H D I h
 refine wpAny_If (thn (hc pins s σ H _ I h) λd s1 ⟨H1,I1,q1⟩=>?_)
 cases d with
 |true=>exact ha pins s1 σ H1 D I1 q1
 |false=>exact hb pins s1 σ H1 D I1 q1
end
abbrev TG:=V->St->Hp->(St->Hp->Prop)->Prop
abbrev TGs:=List V->St->Hp->(St->Hp->Prop)->Prop
def PG(X:Cx)(target:Expr)(t:TG):Prop :=
 ∀(pins:List (Addr×Obj)) (s:Shared) (σ:St) (H:Hp) (v:V) (u:Value) (Q:St->Hp->Prop),Inv X pins σ H s->RelV v u->t v σ H Q ->
  wpAny (model X.prog X.w) X.A (assign target X.env u) (λ_ s'=>∃σ' H',Inv X pins σ' H' s'/\Q σ' H') X.xe s
def PGs(X:Cx)(ts:List Expr)(t:TGs):Prop :=
 ∀(pins:List (Addr×Obj)) (s:Shared) (σ:St) (H:Hp) (vs:List V) (us:List Value) (Q:St->Hp->Prop),Inv X pins σ H s->Vals vs us->t vs σ H Q ->
  wpAny (model X.prog X.w) X.A (assignInOrder ((assignEach ts X.env).map (·.2)) us) (λ_ s'=>∃σ' H',Inv X pins σ' H' s'/\Q σ' H') X.xe s
section
variable {X:Cx}{pos:Pos}
def jx(i:Nat):TG:=λv σ H Q=>Q (σ.set i (some v)) H
def mq{i:Nat}{x:Str}(hN:X.N.Nodup)(hi:X.N[i]?=some x)(hx:Loc X.env.scope x)(hf:X.fn x=true\/X.env.scope.names.lookup x=some .local:=by first|exact .inl rfl|exact .inr rfl|assumption):PG X (.Name x pos) (jx i):=by
 intro pins s σ H v u Q I r h
 exact wpAny_assign_Name (mR I hN hi hx r (λs' I'=>⟨_,H,I',h⟩) hf)
def Pj:TGs:=λvs σ H Q=>vs=[]/\Q σ H
def NP(t:TG)(u:TGs):TGs:=λvs σ H Q=>∃v r,vs=v::r/\t v σ H λσ' H'=>u r σ' H' Q
def Gg:PGs X [] Pj:=by
 intro pins s σ H vs us Q I r h
 obtain⟨e,h⟩:=h
 subst e
 cases r
 exact assignInOrder_nil ⟨σ,H,I,h⟩
def BK{e:Expr}{es:List Expr}{t:TG}{u:TGs}(h1:PG X e t)(h2:PGs X es u)(hs:(assignEach (e::es) X.env).map (·.2)=assign e X.env::(assignEach es X.env).map (·.2):=by rfl):PGs X (e::es) (NP t u):=by
 intro pins s σ H vs us Q I r h
 obtain⟨v,vr,e1,h⟩:=h
 subst e1
 cases r with
 |cons r rr =>
  rw[hs]
  refine assignInOrder_cons (thn (h1 pins s σ H _ _ _ I r h) λ_ s1 ⟨σ1,H1,I1,q1⟩=>?_)
  exact h2 pins s1 σ1 H1 _ _ Q I1 rr q1
def Ph(K:Ê)(n:Nat)(t:TGs):TG:=λv σ H Q=>∃a xs,v=.ref a/\SqT K H a xs/\xs.length=n/\t xs σ H Q
def Jo{es:List Expr}{k:Nat}{t:TGs}{n:Nat}(hc:X.calm=true)(h:PGs X es t)(hn:(assignEach es X.env).length=n:=by rfl)(hst:(assignEach es X.env).findIdx? (·.1)=none:=by rfl):PG X (.Tuple es k pos) (Ph X.K n t):=by
 intro pins s σ H v u Q I r hw
 obtain⟨a,xs,e1,hq,hl,hw⟩:=hw
 subst e1
 cases r
 obtain⟨its,rv,ht,hz⟩:=I.tuple hq
 refine assign_Tuple_tuple (I.ok.hd hc) ht (by simp[hn,←hl,rv.length]) hst λh' hx=>?_
 have I1:Inv X pins σ H { s with heap:=h' }:=I.kept (t':=s.toks) λb o e=>hx b o (Û (Å e)) e
 exact h pins _ σ H xs _ Q I1 (by simpa using rv) hw
def vh(te:TE)(g:TG):TS:=λD σ H=>te σ H λx H1=>g x σ H1 D.nx
def eF{i:Nat}{x:Str}{e:Expr}{te:TE}{pos':Pos}(hN:X.N.Nodup)(hi:X.N[i]?=some x)(hx:Loc X.env.scope x)(he:PE X e te)(hs:swapsWith e (some (.Name x pos')) pos.line X.env=pure false:=by rfl)(hf:X.fn x=true\/X.env.scope.names.lookup x=some .local:=by first|exact .inl rfl|exact .inr rfl|assumption) :
  PS X (.Assign [.Name x pos'] e pos) (vh te (jx i)):=by
 intro pins s σ H D I h
 refine wpAny_Assign_Name (thn (he pins s σ H _ I h) λv s1 ⟨y,H1,I1,r1,q1⟩=>?_) hs
 exact mR I1 hN hi hx r1 (λs2 I2=>⟨_,H1,I2,q1⟩) hf
end
section
variable {X:Cx}{pos:Pos}
def Iw(c:TT)(tb:TS):TS:=λD σ H=>∃W:Nat->St->Hp->Prop,(∃m,W m σ H)/\∀m σ H,W m σ H ->
 c σ H λb H1=>if b=true then ∃N:St->Hp->Prop,(∀σ' H',N σ' H'->∃m',m'<m/\W m' σ' H')/\tb { D with nx:=N,ct:=N,bk:=D.nx } σ H1 else D.nx σ H1
def Bv{c:Expr}{body:List Stmt}{tc:TT}{tb:TS}(hp:PassesOwn (model X.prog X.w) X.A X.env X.xe)(hc:PT X c tc)(hb:PSs X body tb):PS X (.While c body [] pos) (Iw tc tb):=by
 intro pins s σ H D I h
 obtain⟨W,⟨m0,w0⟩,turn⟩:=h
 refine wpAny_While (codeAny_whileLoop (λn s'=>∃σ' H',Inv X pins σ' H' s'/\W n σ' H') ?_ m0 ⟨σ,H,I,w0⟩)
 rintro n s1 ⟨σ1,H1,I1,w1⟩
 refine ĸ hp (thn (hc pins s1 σ1 H1 _ I1 (turn n σ1 H1 w1)) λb s2 ⟨H2,I2,q2⟩=>?_)
 cases b with
 |true =>
  obtain⟨N,hN,q2⟩:=q2
  rw[if_pos rfl]
  refine ĸ hp (thn (hb pins s2 σ1 H2 _ I2 q2) λf s3 q3=>?_)
  cases f with
  |next =>
   obtain⟨σ3,H3,I3,n3⟩:=q3
   obtain⟨m',hm,w3⟩:=hN σ3 H3 n3
   exact⟨m',hm,σ3,H3,I3,w3⟩
  |cont =>
   obtain⟨σ3,H3,I3,n3⟩:=q3
   obtain⟨m',hm,w3⟩:=hN σ3 H3 n3
   exact⟨m',hm,σ3,H3,I3,w3⟩
  |brk=>exact q3
  |ret v=>exact q3
 |false =>
  rw[if_neg Î]
  exact œ ⟨σ1,H2,I2,q2⟩
end
structure It where
 go:Nat->Hp->Prop
 yld:Nat->Hp->V->Hp->Prop
 stop:Nat->Hp->Prop
def jo(X:Cx)(pins:List (Addr×Obj))(H:Hp)(b:Addr):Prop :=
 H b=none/\b≠X.env.locals/\b∉X.fs/\(b∈X.ex\/X.s₀.heap.objs.size<=b)/\(∀x c,X.env.cells.lookup x=some c->c≠b)/\∀p∈X.pn++pins,p.1≠b
def Inv.Hi{X:Cx}{pins:List (Addr×Obj)}{σ:St}{H H':Hp}{s:Shared}{b:Addr}(I:Inv X pins σ H s)(hb:s.heap.objs.size<=b)(hn:H' b=none):jo X pins H' b:=by
 refine⟨hn,ļ (Ó I.lt hb),I.O7 hb,.inr (ô I.sz hb),λx c e z=>?_,λp hp z=>?_⟩
 ·obtain⟨v,q⟩:=I.cell x c e
  exact absurd (Ó q.lt (by rw[z];exact hb)) (ú _)
 ·exact absurd (Ó (Å (I.pin p hp).1) (by rw[z];exact hb)) (ú _)
structure TurnG(Cm:Cx->Prop)(P:Program)(w:World)(K:Ê)(tg:Expr)(J:It)(fp:List Addr)(it:Addr)(tn:Nat->Heap->Prop):Prop where
 mem:it∈fp
 obj:∀i h,tn i h->∀b∈fp,∃o,h.get? b=some o/\∀v,o.data≠.cell v
 keep:∀i h h',tn i h->(∀b∈fp,∀o,h.get? b=some o->h'.get? b=some o)->tn i h'
 item:∀(X:Cx),X.prog=P->X.w=w->X.K=K->Cm X->∀(i:Nat) (pins:List (Addr×Obj)) (s:Shared) (σ:St) (H:Hp) (E:Value->Shared->Prop),Inv X pins σ H s->(∀b∈fp,jo X pins H b)->tn i s.heap->J.go i H ->
  wpAny (model P w) X.A (pyNext (.ref it)) (λr s1=>∃u,r=some u /\
   wpAny (model P w) X.A (letOwnedTupleGo tg (.ref it) u) (λ_ s2=>∃x H',Inv X pins σ H' s2/\RelV x u/\J.yld i H x H'/\tn (i+1) s2.heap/\∀b∈fp,H' b=none) E s1) E s
 done:∀(X:Cx),X.prog=P->X.w=w->X.K=K->Cm X->∀(i:Nat) (pins:List (Addr×Obj)) (s:Shared) (σ:St) (H:Hp) (E:Value->Shared->Prop),Inv X pins σ H s->(∀b∈fp,jo X pins H b)->tn i s.heap->J.stop i H ->
  wpAny (model P w) X.A (pyNext (.ref it)) (λr s1=>r=none/\Inv X pins σ H s1) E s
 self:∀(A:Around) (i:Nat) (s:Shared) (Q:Value->Shared->Prop) (E:Value->Shared->Prop),tn i s.heap->Q (.ref it) s->wpAny (model P w) A (pyIter (.ref it)) Q E s
abbrev Turn(P:Program)(w:World)(K:Ê)(tg:Expr)(J:It)(fp:List Addr)(it:Addr)(tn:Nat->Heap->Prop):Prop:=TurnG (λX=>X.calm=true) P w K tg J fp it tn
abbrev TI:=St->Hp->(It->Hp->Prop)->Prop
def Oc(Cm:Cx->Prop)(X:Cx)(pins:List (Addr×Obj))(σ:St)(tg:Expr)(R:It->Hp->Prop)(itv:Value)(s2:Shared):Prop :=
 ∃(it:Addr) (fp:List Addr) (tn:Nat->Heap->Prop) (J:It) (H':Hp),itv=.ref it/\Inv X pins σ H' s2/\TurnG Cm X.prog X.w X.K tg J fp it tn/\tn 0 s2.heap/\(∀b∈fp,jo X pins H' b)/\R J H'
def PIG(Cm:Cx->Prop)(X:Cx)(tg iter:Expr)(wi:TI):Prop :=
 ∀(pins:List (Addr×Obj)) (s:Shared) (σ:St) (H:Hp) (R:It->Hp->Prop),Inv X pins σ H s->wi σ H R ->
  wpAny (model X.prog X.w) X.A (eval iter X.env) (λv s1=>wpAny (model X.prog X.w) X.A (pyIter v) (Oc Cm X pins σ tg R) X.xe s1) X.xe s
abbrev PIE(X:Cx):=Oc (λX=>X.calm=true) X
abbrev PI(X:Cx):=PIG (λX=>X.calm=true) X
def DX{M:Model}{A:Around}{E:Value->Shared->Prop}{s:Shared}{tg:Expr}{it:Addr}{u:Value}{o:Obj}{n:String}{vs:Array Value}{Q:Unit->Shared->Prop}(ho:s.heap.get? it=some o)(hc:o.cls=.type n)(hd:o.data=.fields vs)(hn:["enumerate","zip","dict_itemiterator","dict_reverseitemiterator","odict_iterator","itertools.zip_longest","itertools.pairwise"].contains n=false)(hQ:Q () s):wpAny M A (letOwnedTupleGo tg (.ref it) u) Q E s:=by
 unfold letOwnedTupleGo
 cases tg <;> first
  |exact Ç hQ
  | (cases u <;> first
    |exact Ç hQ
    | (refine À (wpAny_load ho ?_)
       rw[hc,hd]
       show wpAny M A (if (["enumerate","zip","dict_itemiterator","dict_reverseitemiterator","odict_iterator","itertools.zip_longest","itertools.pairwise"].contains n&&vs[0]? == some (rawInt _))=true then _ else _) Q E s
       rw[if_neg (by intro h;rw[hn,Bool.false_and] at h;cases h)]
       exact Ç hQ))
def Itl(K:Ê)(a:Addr):It :=
 ⟨λi H=>∃xs x,SqL K H a xs/\xs[i]?=some x,λi H x H'=>H'=H/\∀xs,SqL K H a xs->xs[i]?=some x,λi H=>∃xs,SqL K H a xs/\xs.length<=i⟩
def Itt(K:Ê)(a:Addr):It :=
 ⟨λi H=>∃xs x,SqT K H a xs/\xs[i]?=some x,λi H x H'=>H'=H/\∀xs,SqT K H a xs->xs[i]?=some x,λi H=>∃xs,SqT K H a xs/\xs.length<=i⟩
def Itr(lo:Int)(n:Nat):It:=⟨λi _=>i<n,λi H x H'=>H'=H/\x=.int (lo+i),λi _=>n<=i⟩
def yp{P:Program}{w:World}{K:Ê}{tg:Expr}(a it:Addr):Turn P w K tg (Itl K a) [it] it (λi h=>h.IsListIter it a i) where
 mem:=by simp
 obj:=λi h st b hb=>by
  have e:b=it:=by simpa using hb
  subst e
  obtain⟨o,e,c,d⟩:=st
  exact⟨o,e,λv z=>by rw[d] at z;cases z⟩
 keep:=λi h h' st k=>st.at λo e=>k it (by simp) o e
 item:=by
  intro X hP hw hK hc i pins s σ H E I hf st hg
  subst hP hw hK
  obtain⟨xs,x,hq,hx⟩:=hg
  obtain⟨its,rv,p,hz⟩:=I.list hq
  obtain⟨u,hu,ru⟩:=rv.get hx
  obtain⟨f0,f1,f2,f3,f4,f5⟩:=hf it (by simp)
  refine wpAny_pyNext_list_item st p.isList (x:=u) (by simpa using hu) λh' st' sb=>?_
  have I1:Inv X pins σ H { s with heap:=h' }:=I.turned (t':=s.toks) (λb o hb e=>(sb.2 b hb).trans e) f0 f1 f3 f4 f5
  obtain⟨o,e,c,d⟩:=id st'
  exact⟨u,rfl,DX (s:={ s with heap:=h' }) e c d (by decide) ⟨x,H,I1,ru,⟨rfl,λys hy=>by rw[I.nQ hy hq];exact hx⟩,st',λb hb=>(hf b hb).1⟩⟩
 done:=by
  intro X hP hw hK hc i pins s σ H E I hf st hg
  subst hP hw hK
  obtain⟨xs,hq,hx⟩:=hg
  obtain⟨its,rv,p,hz⟩:=I.list hq
  obtain⟨f0,f1,f2,f3,f4,f5⟩:=hf it (by simp)
  have hl:=rv.length
  exact wpAny_pyNext_list_end (I.ok.hd hc) st p.isList (by simp;omega) λh' eb=>⟨rfl,I.turned (t':=s.toks) (λb o hb e=>eb b o hb e) f0 f1 f3 f4 f5⟩
 self:=λ_ _ _ _ _ st h=>wpAny_pyIter_listiter st h
def u6{P:Program}{w:World}{K:Ê}{tg:Expr}(a it:Addr):Turn P w K tg (Itt K a) [it] it (λi h=>h.IsTupleIter it a i) where
 mem:=by simp
 obj:=λi h st b hb=>by
  have e:b=it:=by simpa using hb
  subst e
  obtain⟨o,e,c,d⟩:=st
  exact⟨o,e,λv z=>by rw[d] at z;cases z⟩
 keep:=λi h h' st k=>st.at λo e=>k it (by simp) o e
 item:=by
  intro X hP hw hK hc i pins s σ H E I hf st hg
  subst hP hw hK
  obtain⟨xs,x,hq,hx⟩:=hg
  obtain⟨its,rv,p,hz⟩:=I.tuple hq
  obtain⟨u,hu,ru⟩:=rv.get hx
  obtain⟨f0,f1,f2,f3,f4,f5⟩:=hf it (by simp)
  refine wpAny_pyNext_tuple_item st (show s.heap.IsTuple a its.toArray from p) (x:=u) (by simpa using hu) λh' st' sb=>?_
  have I1:Inv X pins σ H { s with heap:=h' }:=I.turned (t':=s.toks) (λb o hb e=>(sb.2 b hb).trans e) f0 f1 f3 f4 f5
  obtain⟨o,e,c,d⟩:=id st'
  exact⟨u,rfl,DX (s:={ s with heap:=h' }) e c d (by decide) ⟨x,H,I1,ru,⟨rfl,λys hy=>by rw[I.kj hy hq];exact hx⟩,st',λb hb=>(hf b hb).1⟩⟩
 done:=by
  intro X hP hw hK hc i pins s σ H E I hf st hg
  subst hP hw hK
  obtain⟨xs,hq,hx⟩:=hg
  obtain⟨its,rv,p,hz⟩:=I.tuple hq
  obtain⟨f0,f1,f2,f3,f4,f5⟩:=hf it (by simp)
  have hl:=rv.length
  exact wpAny_pyNext_tuple_end (I.ok.hd hc) st (show s.heap.IsTuple a its.toArray from p) (by simp;omega) λh' eb=>⟨rfl,I.turned (t':=s.toks) (λb o hb e=>eb b o hb e) f0 f1 f3 f4 f5⟩
 self:=λ_ _ _ _ _ st h=>wpAny_pyIter_tupleiter st h
def u9{P:Program}{w:World}{K:Ê}{tg:Expr}(it:Addr)(lo:Int)(n:Nat):Turn P w K tg (Itr lo n) [it] it (λi h=>IsRangeIter h it (lo+(i:Nat) * 1) ((n:Int) - (i:Nat)) 1) where
 mem:=by simp
 obj:=λi h st b hb=>by
  have e:b=it:=by simpa using hb
  subst e
  exact⟨_,st,λv z=>by
   have z':Data.fields _=Data.cell v:=z
   cases z'⟩
 keep:=λi h h' st k=>k it (by simp) _ st
 item:=by
  intro X hP hw hK hc i pins s σ H E I hf st hg
  subst hP hw hK
  obtain⟨f0,f1,f2,f3,f4,f5⟩:=hf it (by simp)
  have W:=Walks.range (prog:=X.prog) (w:=X.w) (I.ok.hd hc) it lo 1 n
  refine W.item i s _ _ hg st λv h' tk hv st' kk=>?_
  obtain⟨t,rfl⟩:=hv
  have I1:Inv X pins σ H { s with heap:=h',toks:=tk }:=I.turned (λb o hb e=>kk b o (by simpa using hb) e) f0 f1 f3 f4 f5
  refine⟨_,rfl,DX (s:={ s with heap:=h',toks:=tk }) (n:="range_iterator") st' rfl rfl (by decide) ⟨.int (lo+i),H,I1,⟨t,?_⟩,⟨rfl,rfl⟩,st',λb hb=>(hf b hb).1⟩⟩
  rw[Int.mul_one]
 done:=by
  intro X hP hw hK hc i pins s σ H E I hf st hg
  subst hP hw hK
  obtain⟨f0,f1,f2,f3,f4,f5⟩:=hf it (by simp)
  exact wpAny_pyNext_range_end (I.ok.hd hc) st (by have:n<=i:=hg;omega) λh' eb=>⟨rfl,I.turned (t':=s.toks) (λb o hb e=>eb b o hb e) f0 f1 f3 f4 f5⟩
 self:=λ_ _ _ _ _ st h=>wpAny_pyIter_rangeiter st h
section
variable {X:Cx}{tg:Expr}
def Bq{pins:List (Addr×Obj)}{σ:St}{H:Hp}{s:Shared}{R:It->Hp->Prop}{E:Value->Shared->Prop}{lo hi:Int}{t u v:Tok}{tk:Nat}(I:Inv X pins σ H s)(h1:-(2 ^ 62)<=lo)(h2:lo<2 ^ 62)(h3:-(2 ^ 62)<=hi)(h4:hi<2 ^ 62)(q:R (Itr lo (hi - lo).toNat) H):wpAny (model X.prog X.w) X.A (pyIter (.ref s.heap.objs.size)) (PIE X pins σ tg R) E { s with heap:=s.heap.push { cls:=.type "range",data:=.fields #[.int lo t,.int hi u,.int 1 v] },toks:=tk }:=by
 refine wpAny_pyIter_range (IsRange.new ..) (small_one h1 h2 h3 h4) ?_
 have I1:Inv X pins σ H { s with heap:=s.heap.push { cls:=.type "range",data:=.fields #[.int lo t,.int hi u,.int 1 v] },toks:=tk }:=I.kept λb o e=>Ä _ e
 refine⟨(s.heap.push { cls:=.type "range",data:=.fields #[.int lo t,.int hi u,.int 1 v] }).objs.size,[(s.heap.push { cls:=.type "range",data:=.fields #[.int lo t,.int hi u,.int 1 v] }).objs.size],_,_,H,rfl,
  I1.kept (t':=tk) λb o e=>Ä _ e,u9 _ lo (hi - lo).toNat,?_,λb hb=>?_,q⟩
 ·have e1:lo+((0:Nat):Int) * 1=lo:=by simp
  have e2:(((hi - lo).toNat:Nat):Int) - ((0:Nat):Int)=Builtin.Range.rangeSize lo hi 1:=by rw[rangeSize_one];split <;> omega
  show IsRangeIter _ _ (lo+((0:Nat):Int) * 1) ((((hi - lo).toNat:Nat):Int) - ((0:Nat):Int)) 1
  rw[e1,e2]
  exact Ô _ rfl
 ·have e:b=(s.heap.push { cls:=.type "range",data:=.fields #[.int lo t,.int hi u,.int 1 v] }).objs.size:=by simpa using hb
  subst e
  exact I1.Hi (Æ _) (I1.hok.fresh (Æ _))
def Ny(ta:TA):TI:=λσ H R=>ta σ H λvs H1=>∃j:Int,vs=[.int j]/\-(2 ^ 62)<=j/\j<2 ^ 62/\R (Itr 0 j.toNat) H1
def yE{a:Expr}{ta:TA}{p pos:Pos}(hg:Gl X "range")(hm:X.mg "range"=none)(ha:PA X [a] ta)(hs:starEach [a] X.env=[(false,eval a X.env)]:=by rfl):PI X tg (.Call (.Name "range" p) [a] [] pos) (Ny ta):=by
 intro pins s σ H R I h
 refine Call_ (nW I hg hm boot_range (Ř (thn (ha pos pins s σ H _ I h) λus s1 ⟨vs,H1,I1,r1,q1⟩=>?_) hs rfl))
 obtain⟨j,e,q1,q2,q⟩:=q1
 subst e
 cases r1 with
 |cons r rr =>
  cases rr
  obtain⟨t,rfl⟩:=r
  exact call_range_1 (Bq I1 (by omega) (by omega) q1 q2 (by simpa using q))
def Oq(wi:TI)(g:TG)(tb:TS):TS:=λD σ H=>wi σ H λJ H1=>∃W:Nat->Nat->St->Hp->Prop,(∃m,W 0 m σ H1)/\∀i m σ H,W i m σ H ->
 (J.stop i H/\D.nx σ H)\/(J.go i H/\∃N:St->Hp->Prop,(∀σ' H',N σ' H'->∃m',m'<m/\W (i+1) m' σ' H')/\∀x H',J.yld i H x H'->g x σ H' λσ2 H2=>tb { D with nx:=N,ct:=N,bk:=D.nx } σ2 H2)
def iG(fp:List Addr)(h:Heap):List (Addr×Obj):=fp.filterMap λb=>(h.get? b).map λo=>(b,o)
def gM{fp:List Addr}{h:Heap}{b:Addr}{o:Obj}(hb:b∈fp)(e:h.get? b=some o):(b,o)∈iG fp h:=Ň.mpr ⟨b,hb,by rw[e];rfl⟩
def pO{fp:List Addr}{h:Heap}{p:Addr×Obj}(hp:p∈iG fp h):p.1∈fp/\h.get? p.1=some p.2:=by
 obtain⟨b,hb,e⟩:=Ň.mp hp
 cases q:h.get? b with
 |none=>rw[q] at e;cases e
 |some o =>
  rw[q] at e
  have e':(b,o)=p:=Ò e
  subst e'
  exact⟨hb,q⟩
def Inv.pinned{pins:List (Addr×Obj)}{σ:St}{H:Hp}{s:Shared}{fp:List Addr}(I:Inv X pins σ H s)(hf:∀b∈fp,jo X pins H b)(ho:∀b∈fp,∃o,s.heap.get? b=some o/\∀v,o.data≠.cell v):Inv X (pins++iG fp s.heap) σ H s :=
 I.mj λp hp=>(è.mp hp).elim (λz=>I.pin p (Ý _ z)) λz=>by
  obtain⟨hb,e⟩:=pO z
  obtain⟨f0,f1,f2,_⟩:=hf p.1 hb
  obtain⟨o,e',d⟩:=ho p.1 hb
  rw[e] at e';cases e'
  exact⟨e,f0,f1,f2,d⟩
def Inv.jH{pins pl:List (Addr×Obj)}{σ:St}{H:Hp}{s:Shared}(I:Inv X (pins++pl) σ H s):Inv X pins σ H s:=I.mj λp hp=>I.pin p (Ý _ (Ş _ hp))
def vC{iter:Expr}{body:List Stmt}{wi:TI}{g:TG}{tb:TS}{pos:Pos}(hp:PassesOwn (model X.prog X.w) X.A X.env X.xe)(hc:X.calm=true)(hi:PI X tg iter wi)(hg:PG X tg g)(hb:PSs X body tb)(hs:∀x,foldedSetIterable iter X.env x=pure x:=by intro _;rfl):PS X (.For tg iter body [] pos) (Oq wi g tb):=by
 intro pins s σ H D I h
 refine wpAny_For (thn (hi pins s σ H _ I h) λv s1 h1=>thn h1 λitv s2 h2=>?_) hs
 obtain⟨it,fp,tn,J,H2,e,I2,T,st2,f2,W,⟨m0,w0⟩,turn⟩:=h2
 subst e
 -- what stays true of the iterator's objects through the loop
 have stat:∀{H':Hp},(∀b∈fp,H' b=none)->∀b∈fp,jo X pins H' b:=λhn b hb=>⟨hn b hb,(f2 b hb).2⟩
 refine codeAny_forLoop_any (λn s'=>∃i σ' H',Inv X pins σ' H' s'/\tn i s'.heap/\(∀b∈fp,H' b=none)/\W i n σ' H') ?_ m0 ⟨0,σ,H2,I2,st2,λb hb=>(f2 b hb).1,w0⟩
 rintro n s3 ⟨i,σ3,H3,I3,st3,fr3,w3⟩
 rcases turn i n σ3 H3 w3 with ⟨stop,qn⟩|⟨go,N,hN,step⟩
 ·refine ĸ hp (thn (T.done X rfl rfl rfl hc i pins s3 σ3 H3 X.xe I3 (stat fr3) st3 stop) λr s4 ⟨hr,I4⟩=>?_)
  subst hr
  exact œ ⟨σ3,H3,I4,qn⟩
 ·refine ĸ hp (thn (T.item X rfl rfl rfl hc i pins s3 σ3 H3 X.xe I3 (stat fr3) st3 go) λr s4 ⟨u,hr,h4⟩=>?_)
  subst hr
  refine ĸ hp (thn h4 λ_ s5 ⟨x,H5,I5,r5,y5,st5,fr5⟩=>?_)
  have I5':=I5.pinned (stat fr5) (T.obj _ _ st5)
  refine ĸ hp (thn (hg _ s5 σ3 H5 x u _ I5' r5 (step x H5 y5)) λ_ s6 ⟨σ6,H6,I6,q6⟩=>?_)
  refine ĸ hp (thn (hb _ s6 σ6 H6 _ I6 q6) λf s7 q7=>?_)
  have again:∀{σ7:St}{H7:Hp},Inv X (pins++iG fp s5.heap) σ7 H7 s7->N σ7 H7->∃m,m<n/\∃i σ' H',Inv X pins σ' H' s7/\tn i s7.heap/\(∀b∈fp,H' b=none)/\W i m σ' H':=λ{σ7 H7} I7 n7=>by
   obtain⟨m',hm,w7⟩:=hN σ7 H7 n7
   refine⟨m',hm,i+1,σ7,H7,I7.jH,T.keep _ _ _ st5 λb hb o e=>(I7.pin (b,o) (Ý _ (Ý _ (gM hb e)))).1,λb hb=>?_,w7⟩
   obtain⟨o,e,d⟩:=T.obj _ _ st5 b hb
   exact(I7.pin (b,o) (Ý _ (Ý _ (gM hb e)))).2.1
  cases f with
  |next=>obtain⟨σ7,H7,I7,n7⟩:=q7;exact again I7 n7
  |cont=>obtain⟨σ7,H7,I7,n7⟩:=q7;exact again I7 n7
  |brk=>obtain⟨σ7,H7,I7,q7⟩:=q7;exact⟨σ7,H7,I7.jH,q7⟩
  |ret v=>obtain⟨x7,σ7,H7,I7,r7,q7⟩:=q7;exact⟨x7,σ7,H7,I7.jH,r7,q7⟩
end
abbrev R2:=V->V->Hp->VK->Prop
def OpR(X:Cx)(f:Value->Value->Sem Value)(r:R2):Prop :=
 ∀(pins:List (Addr×Obj)) (s:Shared) (σ:St) (H:Hp) (x y:V) (v u:Value) (Q:VK),Inv X pins σ H s->RelV x v->RelV y u->r x y H Q ->
  wpAny (model X.prog X.w) X.A (f v u) (EP X pins σ Q) X.xe s
def UnR(X:Cx)(f:Value->Sem Value)(r:V->Hp->VK->Prop):Prop :=
 ∀(pins:List (Addr×Obj)) (s:Shared) (σ:St) (H:Hp) (x:V) (v:Value) (Q:VK),Inv X pins σ H s->RelV x v->r x H Q ->
  wpAny (model X.prog X.w) X.A (f v) (EP X pins σ Q) X.xe s
def aW(X:Cx)(f:Value)(r:List V->Hp->VK->Prop):Prop :=
 ∀(pins:List (Addr×Obj)) (s:Shared) (σ:St) (H:Hp) (xs:List V) (us:List Value) (Q:VK),Inv X pins σ H s->Vals xs us->r xs H Q ->
  wpAny (model X.prog X.w) X.A (call f us) (EP X pins σ Q) X.xe s
def tOp(r:R2)(ta tb:TE):TE:=λσ H Q=>ta σ H λx H1=>tb σ H1 λy H2=>r x y H2 Q
def tUn(r:V->Hp->VK->Prop)(ta:TE):TE:=λσ H Q=>ta σ H λx H1=>r x H1 Q
def rI(C:Int->Int->Prop)(g:Int->Int->V):R2:=λx y H Q=>∃i j,x=.int i/\y=.int j/\C i j/\Q (g i j) H
def rI0(g:Int->Int->V):R2:=λx y H Q=>∃i j,x=.int i/\y=.int j/\Q (g i j) H
def rU(g:Int->V):V->Hp->VK->Prop:=λx H Q=>∃i,x=.int i/\Q (g i) H
section
variable {X:Cx}{a b c:Expr}{ta tb tc:TE}{pos:Pos}
def La(ha:PE X a ta)(hb:PE X b tb){pins:List (Addr×Obj)}{s:Shared}{σ:St}{H:Hp}{R:V->V->Hp->Prop}(I:Inv X pins σ H s)(h:ta σ H λx H1=>tb σ H1 λy H2=>R x y H2){Q:Value->Shared->Prop}{f:Value->Value->Sem Value}(hf:∀v u s2 x y H2,Inv X pins σ H2 s2->RelV x v->RelV y u->R x y H2->wpAny (model X.prog X.w) X.A (f v u) Q X.xe s2) :
  wpAny (model X.prog X.w) X.A (eval a X.env) (λv s₁=>wpAny (model X.prog X.w) X.A (eval b X.env) (λu s₂=>wpAny (model X.prog X.w) X.A (f v u) Q X.xe s₂) X.xe s₁) X.xe s:=by
 refine thn (ha pins s σ H _ I h) λv s1 ⟨x,H1,I1,r1,q1⟩=>?_
 refine thn (hb pins s1 σ H1 _ I1 q1) λu s2 ⟨y,H2,I2,r2,q2⟩=>?_
 exact hf v u s2 x y H2 I2 r1 r2 q2
def cu{op:Operator}{r:R2}(ho:OpR X (binaryOp op) r)(ha:PE X a ta)(hb:PE X b tb):PE X (.BinOp a op b pos) (tOp r ta tb):=by
 intro pins s σ H Q I h
 exact wpAny_BinOp (La ha hb I h λv u s2 x y H2 I2 rx ry q=>ho pins s2 σ H2 x y v u Q I2 rx ry q)
def HJ{op:UnaryOp}{r:V->Hp->VK->Prop}(ho:UnR X (unaryOp op) r)(ha:PE X a ta):PE X (.UnaryOp op a pos) (tUn r ta):=by
 intro pins s σ H Q I h
 exact UnaryOp_ (thn (ha pins s σ H _ I h) λv s1 ⟨x,H1,I1,r1,q1⟩=>ho pins s1 σ H1 x v Q I1 r1 q1)
def opI{f:Value->Value->Sem Value}{C:Int->Int->Prop}{g:Int->Int->Int}(rule:∀(i j:Int) (t u:Tok) (s:Shared) (Q:Value->Shared->Prop) (E:Value->Shared->Prop),C i j->Q (.int (g i j) s.toks) { s with toks:=s.toks+1 }->wpAny (model X.prog X.w) X.A (f (.int i t) (.int j u)) Q E s) :
  OpR X f (rI C λi j=>.int (g i j)):=by
 intro pins s σ H x y v u Q I rx ry h
 obtain⟨i,j,rfl,rfl,hc,q⟩:=h
 obtain⟨t,rfl⟩:=rx
 obtain⟨t',rfl⟩:=ry
 exact rule i j t t' s _ _ hc ⟨.int (g i j),H,I.tok _,⟨_,rfl⟩,q⟩
def M6{f:Value->Value->Sem Value}{g:Int->Int->Int}(rule:∀(i j:Int) (t u:Tok) (s:Shared) (Q:Value->Shared->Prop) (E:Value->Shared->Prop),Q (.int (g i j) s.toks) { s with toks:=s.toks+1 }->wpAny (model X.prog X.w) X.A (f (.int i t) (.int j u)) Q E s) :
  OpR X f (rI0 λi j=>.int (g i j)):=by
 intro pins s σ H x y v u Q I rx ry h
 obtain⟨i,j,rfl,rfl,q⟩:=h
 obtain⟨t,rfl⟩:=rx
 obtain⟨t',rfl⟩:=ry
 exact rule i j t t' s _ _ ⟨.int (g i j),H,I.tok _,⟨_,rfl⟩,q⟩
def Gq{f:Value->Value->Sem Value}{g:Int->Int->Bool}(rule:∀(i j:Int) (t u:Tok) (s:Shared) (Q:Value->Shared->Prop) (E:Value->Shared->Prop),Q (.bool (g i j)) s->wpAny (model X.prog X.w) X.A (f (.int i t) (.int j u)) Q E s) :
  OpR X f (rI0 λi j=>.bl (g i j)):=by
 intro pins s σ H x y v u Q I rx ry h
 obtain⟨i,j,rfl,rfl,q⟩:=h
 obtain⟨t,rfl⟩:=rx
 obtain⟨t',rfl⟩:=ry
 exact rule i j t t' s _ _ ⟨.bl (g i j),H,I,rfl,q⟩
def Pu(i j:Int):Prop:=0<j/\j<1073741824
def Le(i j:Int):Prop:=0<=j/\j<=1000000/\i.natAbs<2 ^ 64
def Hv(i j:Int):Prop:=(-(2 ^ 64)<i/\i<2 ^ 64)\/(-(2 ^ 64)<j/\j<2 ^ 64)
def Hv.ok{i j:Int}(h:Hv i j):IntMulOk i j:=by
 rcases h with ⟨h1,h2⟩|⟨h1,h2⟩
 ·exact .of_left (intBits_le_64 h1 h2)
 ·exact .of_right (intBits_le_64 h1 h2)
def iJ:OpR X (binaryOp .Add) (rI0 λi j=>.int (i+j)):=M6 λ_ _ _ _ _ _ _ q=>add_int q
def Jz:OpR X (binaryOp .Sub) (rI0 λi j=>.int (i - j)):=M6 λ_ _ _ _ _ _ _ q=>sub_int q
def kZ:OpR X (binaryOp .Mult) (rI Hv λi j=>.int (i * j)):=opI λ_ _ _ _ _ _ _ hc q=>mul_int q hc.ok
def Gm:OpR X (binaryOp .FloorDiv) (rI Pu λi j=>.int (i / j)):=opI λi j _ _ _ _ _ hc q=>by
 have h1:(0:Int)<j:=hc.1
 have h2:j<1073741824:=hc.2
 exact floordiv_int (by omega) (by rw[Int.fdiv_eq_ediv_of_nonneg i (by omega)];exact q) (.inl (PyProof.noPylong_small (by omega)))
def iI:OpR X (binaryOp .Mod) (rI (λ_ j=>0<j) λi j=>.int (i % j)):=opI λi j _ _ _ _ _ hc q=>by
 have h1:(0:Int)<j:=hc
 exact mod_int' (by omega) (by rw[Int.fmod_eq_emod_of_nonneg i (by omega)];exact q)
def Ci:OpR X (binaryOp .Pow) (rI Le λi j=>.int (i ^ j.toNat)):=opI λ_ _ _ _ _ _ _ hc q=>pow_int_small hc.1 hc.2.1 hc.2.2 q
def unI{f:Value->Sem Value}{g:Int->Int}(rule:∀(i:Int) (t:Tok) (s:Shared) (Q:Value->Shared->Prop) (E:Value->Shared->Prop),Q (.int (g i) s.toks) { s with toks:=s.toks+1 }->wpAny (model X.prog X.w) X.A (f (.int i t)) Q E s) :
  UnR X f (rU λi=>.int (g i)):=by
 intro pins s σ H x v Q I rx h
 obtain⟨i,rfl,q⟩:=h
 obtain⟨t,rfl⟩:=rx
 exact rule i t s _ _ ⟨.int (g i),H,I.tok _,⟨_,rfl⟩,q⟩
def Ai:UnR X (unaryOp .USub) (rU λi=>.int (-i)):=unI λ_ _ _ _ _ q=>neg_int q
end
def Mp:V->V->Bool
 |.non,.non=>true|.non,.int _=>true|.int _,.non=>true|.non,.bl _=>true|.bl _,.non=>true|.non,.str _=>true|.str _,.non=>true
 |.int _,.int _=>true|.bl _,.bl _=>true|.str _,.str _=>true|.byt _,.byt _=>true
 |.int _,.str _=>true|.str _,.int _=>true|.bl _,.str _=>true|.str _,.bl _=>true
 |_,_=>false
def rEq:R2:=λx y H Q=>Mp x y=true/\Q (.bl (decide (x=y))) H
def rNe:R2:=λx y H Q=>Mp x y=true/\Q (.bl (!decide (x=y))) H
def xX{i j:Int}:decide (V.int i=V.int j)=(i == j):=by
 rw[ņ]
 simp
def Ey{i j:Bool}:decide (V.bl i=V.bl j)=(i == j):=by
 rw[ņ]
 simp
def xW{i j:Str}:decide (V.str i=V.str j)=(i == j):=by
 rw[ņ]
 simp
def xY{i j:Array UInt8}:decide (V.byt i=V.byt j)=(i.toList == j.toList):=by
 rw[ņ]
 cases i
 cases j
 simp
section
variable {X:Cx}{a b c:Expr}{ta tb tc:TE}{pos:Pos}
def aK{pins:List (Addr×Obj)}{σ:St}{H:Hp}{s:Shared}{Q:VK}{k k':Bool}(I:Inv X pins σ H s)(q:Q (.bl k) H)(e:k=k'):EP X pins σ Q (.bool k') s:=by
 subst e
 exact⟨.bl k,H,I,rfl,q⟩
def HS:OpR X (compareOp .Eq) rEq:=by
 intro pins s σ H x y v u Q I rx ry h
 obtain⟨hs,q⟩:=h
 cases x with
 |non =>
  cases rx
  cases y with
  |non=>cases ry;exact PySem.EqNone.eq_none_none (aK I q (by simp))
  |bl j=>cases ry;exact PySem.EqNone.eq_none_bool (aK I q (by simp))
  |int j=>obtain⟨t',rfl⟩:=ry;exact PySem.EqNone.eq_none_int (aK I q (by simp))
  |str j=>obtain⟨t',rfl⟩:=ry;exact PySem.EqNone.eq_none_str (aK I q (by simp))
  |_=>exact absurd (show false=true from hs) Î
 |bl i =>
  cases rx
  cases y with
  |non=>cases ry;exact PySem.EqNone.eq_bool_none (aK I q (by simp))
  |bl j=>cases ry;exact eq_bool (aK I q Ey)
  |str j=>obtain⟨t',rfl⟩:=ry;exact PySem.EqMixed.eq_bool_str (aK I q (by simp))
  |_=>exact absurd (show false=true from hs) Î
 |int i =>
  obtain⟨t,rfl⟩:=rx
  cases y with
  |non=>cases ry;exact PySem.EqNone.eq_int_none (aK I q (by simp))
  |int j=>obtain⟨t',rfl⟩:=ry;exact eq_int (aK I q xX)
  |str j=>obtain⟨t',rfl⟩:=ry;exact PySem.EqMixed.eq_int_str (aK I q (by simp))
  |_=>exact absurd (show false=true from hs) Î
 |str i =>
  obtain⟨t,rfl⟩:=rx
  cases y with
  |non=>cases ry;exact PySem.EqNone.eq_str_none (aK I q (by simp))
  |bl j=>cases ry;exact PySem.EqMixed.eq_str_bool (aK I q (by simp))
  |int j=>obtain⟨t',rfl⟩:=ry;exact PySem.EqMixed.eq_str_int (aK I q (by simp))
  |str j=>obtain⟨t',rfl⟩:=ry;exact eq_str (aK I q xW)
  |_=>exact absurd (show false=true from hs) Î
 |byt i =>
  obtain⟨t,rfl⟩:=rx
  cases y with
  |byt j=>obtain⟨t',rfl⟩:=ry;exact W.eq_bytes (aK I q xY)
  |_=>exact absurd (show false=true from hs) Î
 |_=>cases y <;> exact absurd (show false=true from hs) Î
def MP:OpR X (compareOp .NotEq) rNe:=by
 intro pins s σ H x y v u Q I rx ry h
 obtain⟨hs,q⟩:=h
 cases x with
 |non =>
  cases rx
  cases y with
  |non=>cases ry;exact PySem.EqNone.ne_none_none (aK I q (by simp))
  |bl j=>cases ry;exact PySem.EqNone.ne_none_bool (aK I q (by simp))
  |int j=>obtain⟨t',rfl⟩:=ry;exact PySem.EqNone.ne_none_int (aK I q (by simp))
  |str j=>obtain⟨t',rfl⟩:=ry;exact PySem.EqNone.ne_none_str (aK I q (by simp))
  |_=>exact absurd (show false=true from hs) Î
 |bl i =>
  cases rx
  cases y with
  |non=>cases ry;exact PySem.EqNone.ne_bool_none (aK I q (by simp))
  |bl j=>cases ry;exact ne_bool (aK I q (congrArg not Ey))
  |str j=>obtain⟨t',rfl⟩:=ry;exact PySem.EqMixed.ne_bool_str (aK I q (by simp))
  |_=>exact absurd (show false=true from hs) Î
 |int i =>
  obtain⟨t,rfl⟩:=rx
  cases y with
  |non=>cases ry;exact PySem.EqNone.ne_int_none (aK I q (by simp))
  |int j=>obtain⟨t',rfl⟩:=ry;exact ne_int (aK I q (congrArg not xX))
  |str j=>obtain⟨t',rfl⟩:=ry;exact PySem.EqMixed.ne_int_str (aK I q (by simp))
  |_=>exact absurd (show false=true from hs) Î
 |str i =>
  obtain⟨t,rfl⟩:=rx
  cases y with
  |non=>cases ry;exact PySem.EqNone.ne_str_none (aK I q (by simp))
  |bl j=>cases ry;exact PySem.EqMixed.ne_str_bool (aK I q (by simp))
  |int j=>obtain⟨t',rfl⟩:=ry;exact PySem.EqMixed.ne_str_int (aK I q (by simp))
  |str j=>obtain⟨t',rfl⟩:=ry;exact ne_str (aK I q (congrArg not xW))
  |_=>exact absurd (show false=true from hs) Î
 |byt i =>
  obtain⟨t,rfl⟩:=rx
  cases y with
  |byt j=>obtain⟨t',rfl⟩:=ry;exact W.ne_bytes (aK I q (congrArg not xY))
  |_=>exact absurd (show false=true from hs) Î
 |_=>cases y <;> exact absurd (show false=true from hs) Î
def Cj:OpR X (compareOp .Lt) (rI0 λi j=>.bl (decide (i<j))):=Gq λ_ _ _ _ _ _ _ q=>lt_int q
def M4:OpR X (compareOp .LtE) (rI0 λi j=>.bl (decide (i<=j))):=Gq λ_ _ _ _ _ _ _ q=>le_int q
def Cp:OpR X (compareOp .Gt) (rI0 λi j=>.bl (decide (j<i))):=Gq λ_ _ _ _ _ _ _ q=>gt_int q
def M5:OpR X (compareOp .GtE) (rI0 λi j=>.bl (decide (j<=i))):=Gq λ_ _ _ _ _ _ _ q=>ge_int q
def Ck:OpR X (compareOp .Is) (λx y H Q=>y=.non/\Q (.bl (decide (x=.non))) H):=by
 intro pins s σ H x y v u Q I rx ry h
 obtain⟨rfl,q⟩:=h
 cases ry
 refine is_none_gen (aK I q ?_)
 cases x <;> first
  |(cases rx;rfl)
  |(obtain⟨t,rfl⟩:=rx;rfl)
def dR(b:Expr){op:CmpOp}(h:op≠.In:=by decide)(h2:op≠.NotIn:=by decide):behindInMarks op b=false:=by
 have e1:(op == CmpOp.In)=false:=by cases op <;> first|rfl|exact absurd rfl h
 have e2:(op == CmpOp.NotIn)=false:=by cases op <;> first|rfl|exact absurd rfl h2
 cases b <;> simp[behindInMarks,e1,e2]
def Gj{op:CmpOp}{r:R2}(ho:OpR X (compareOp op) r)(ha:PE X a ta)(hb:PE X b tb)(hm:behindInMarks op b=false):PE X (.Compare a [op] [b] pos) (tOp r ta tb):=by
 intro pins s σ H Q I h
 exact wpAny_Compare1 (La ha hb I h λv u s2 x y H2 I2 rx ry q=>ho pins s2 σ H2 x y v u Q I2 rx ry q) hm
def Lk(t:TE):TT:=λσ H Q=>t σ H λx H'=>∃k,x=.bl k/\Q k H'
def jO{op:CmpOp}{r:R2}(ho:OpR X (compareOp op) r)(ha:PE X a ta)(hb:PE X b tb)(hm:behindInMarks op b=false):PT X (.Compare a [op] [b] pos) (Lk (tOp r ta tb)):=by
 intro pins s σ H Q I h
 refine wpAny_isTrue_Compare1 (thn (ha pins s σ H _ I h) λv s1 ⟨x,H1,I1,r1,q1⟩=>thn (hb pins s1 σ H1 _ I1 q1) λu s2 ⟨y,H2,I2,r2,q2⟩ =>
  thn (ho pins s2 σ H2 x y v u _ I2 r1 r2 q2) λc s3 ⟨z,H3,I3,r3,k,e,q3⟩=>?_) hm
 subst e
 cases r3
 exact ĩ ⟨H3,I3,q3⟩
def Av(r r':R2)(ta tb tc:TE):TE:=λσ H Q=>ta σ H λx H1=>tb σ H1 λy H2=>r x y H2 λz H3=>∃k,z=.bl k /\
 (if k=true then tc σ H3 λw' H4=>r' y w' H4 Q else Q (.bl false) H3)
def Ca{op op':CmpOp}{r r':R2}(ho:OpR X (compareOp op) r)(ho':OpR X (compareOp op') r')(ha:PE X a ta)(hb:PE X b tb)(hc:PE X c tc)(hm:lastMarks [op,op'] [b,c]=false:=by with_unfolding_all rfl):PE X (.Compare a [op,op'] [b,c] pos) (Av r r' ta tb tc):=by
 intro pins s σ H Q I h
 refine Compare_chain (thn (ha pins s σ H _ I h) λv s1 ⟨x,H1,I1,r1,q1⟩=>chain_link (thn (hb pins s1 σ H1 _ I1 q1) λu s2 ⟨y,H2,I2,r2,q2⟩ =>
  thn (ho pins s2 σ H2 x y v u _ I2 r1 r2 q2) λd s3 ⟨z,H3,I3,r3,k,e,q3⟩=>?_)) hm
 subst e
 cases r3
 refine ĩ ?_
 cases k with
 |false=>exact ite_ff ⟨.bl false,H3,I3,rfl,q3⟩
 |true=>exact ite_tt (chain_last (thn (hc pins s3 σ H3 _ I3 q3) λw' s4 ⟨z',H4,I4,r4,q4⟩=>ho' pins s4 σ H4 y z' u w' Q I4 r2 r4 q4))
def vQ:(sizeLine:Nat)<2 ^ 63:=by rw[ì];decide
def vals1{x:V}{us:List Value}(r:Vals [x] us):∃u,us=[u]/\RelV x u:=by
 cases r with
 |cons r1 r2=>cases r2;exact⟨_,rfl,r1⟩
def vals2{x y:V}{us:List Value}(r:Vals [x,y] us):∃u w',us=[u,w']/\RelV x u/\RelV y w':=by
 cases r with
 |cons r1 r2 =>
  cases r2 with
  |cons r3 r4=>cases r4;exact⟨_,_,rfl,r1,r3⟩
def oN:aW X (.builtin "abs") (λxs H Q=>∃i,xs=[.int i]/\Q (.int (if i<0 then -i else i)) H):=by
 intro pins s σ H xs us Q I r h
 obtain⟨i,rfl,q⟩:=h
 obtain⟨u,rfl,t,rfl⟩:=vals1 r
 exact call_abs_int λu tk=>⟨.int (if i<0 then -i else i),H,I.tok _,⟨_,rfl⟩,q⟩
def zU(hc:X.calm=true):aW X (.builtin "max") (λxs H Q=>∃i j,xs=[.int i,.int j]/\Q (.int (if j > i then j else i)) H):=by
 intro pins s σ H xs us Q I r h
 obtain⟨i,j,rfl,q⟩:=h
 obtain⟨u,w',rfl,⟨t,rfl⟩,⟨t',rfl⟩⟩:=vals2 r
 refine max_two_ints (I.ok.hd hc) λh' tk k=>⟨_,H,I.kept k,?_,q⟩
 by_cases hj:j > i
 ·rw[if_pos hj,if_pos hj];exact⟨_,rfl⟩
 ·rw[if_neg hj,if_neg hj];exact⟨_,rfl⟩
def zO(hc:X.calm=true):aW X (.builtin "min") (λxs H Q=>∃i j,xs=[.int i,.int j]/\Q (.int (if j<i then j else i)) H):=by
 intro pins s σ H xs us Q I r h
 obtain⟨i,j,rfl,q⟩:=h
 obtain⟨u,w',rfl,⟨t,rfl⟩,⟨t',rfl⟩⟩:=vals2 r
 refine min_two_ints (I.ok.hd hc) λh' tk k=>⟨_,H,I.kept k,?_,q⟩
 by_cases hj:j<i
 ·rw[if_pos hj,if_pos hj];exact⟨_,rfl⟩
 ·rw[if_neg hj,if_neg hj];exact⟨_,rfl⟩
def zV:aW X (.type "int") (λxs H Q=>(∃i,xs=[.int i]/\Q (.int i) H)\/∃k,xs=[.bl k]/\Q (.int (if k then 1 else 0)) H):=by
 intro pins s σ H xs us Q I r h
 rcases h with ⟨i,rfl,q⟩|⟨k,rfl,q⟩
 ·obtain⟨u,rfl,t,rfl⟩:=vals1 r
  exact call_int_int ⟨.int i,H,I,⟨_,rfl⟩,q⟩
 ·obtain⟨u,rfl,r1⟩:=vals1 r
  cases r1
  exact call_int_bool ⟨.int (if k then 1 else 0),H,I.tok _,⟨_,rfl⟩,q⟩
def rT:aW X (.type "str") (λxs H Q=>∃i,xs=[.int i]/\i.natAbs.log2<1920/\Q (.str (toString i)) H):=by
 intro pins s σ H xs us Q I r h
 obtain⟨i,rfl,hz,q⟩:=h
 obtain⟨u,rfl,t,rfl⟩:=vals1 r
 exact PySem.P.str_of_int hz ⟨.str _,H,I.tok _,⟨_,rfl⟩,q⟩
end
structure ObjM(h:Heap)(x dx C:Addr)(mA:Str->Option Value):Prop where
 obj:h.get? x=some (W.instObj C dx)
 ns:h.Ns1 dx mA
 ne:dx≠x
def yN{h:Heap}{dx:Addr}{mA:Str->Option Value}(n:h.Ns1 dx mA):∃od,h.get? dx=some od/\∀name,W.lookIn name od=some (mA name):=by
 obtain⟨o,es,ep,ho,hd,hk,_,hm⟩:=n
 refine⟨o,ho,λname=>?_⟩
 have e:=hm name
 unfold nsFind findBy at e
 rw[←Array.find?_toList] at e
 unfold W.lookIn
 rw[hd]
 dsimp only
 split
 ·rename_i y q
  rw[q] at e
  exact congrArg some e
 ·rename_i q
  rw[q] at e
  have a:es.toList.any (·.refKey)=false:=by
   rw[List.any_eq_false]
   intro y hy
   obtain⟨z,t,hkey⟩:=hk y (Array.mem_toList_iff.mp hy)
   simp[DictEntry.refKey,hkey]
  have a':¬es.toList.any (·.refKey)=true:=by rw[a];exact Î
  rw[if_neg a']
  exact congrArg some e
def ObjM.look{h:Heap}{x dx C:Addr}{mA:Str->Option Value}(I:ObjM h x dx C mA):∃od,W.InstAt h x (W.instObj C dx) C (some od)/\∀name,W.lookIn name od=some (mA name) :=
 let ⟨od,ho,hl⟩:=yN I.ns
 ⟨od,⟨I.obj,rfl,rfl,ho⟩,hl⟩
section
variable {prog:Program}{w:World}{A:Around}{E:Value->Shared->Prop}{s:Shared}{K:Ê}{x dx C f:Addr}{mA:Str->Option Value}{name:Str}{v:Value}
end
def oO.some_of{v:V}{o:Option Value}(r:oO (some v) o):∃u,o=some u/\RelV v u:=by
 cases o with
 |none=>exact(show False from r).elim
 |some u=>exact⟨u,rfl,r⟩
section
variable {P:Program}{w:World}{H H':Hp}{h h':Heap}{a C dx:Addr}{fs fs':List (Str×V)}
def xH(hok:HOk P w H h)(e:H a=some (.ins C dx fs)):∃mA,ObjM h a dx C mA/\(∀f,oO (fs.lookup f) (mA f))/\PySem.Within mA (fs.map (·.1))/\fs.length<=1000/\H dx=some (.own a):=by
 obtain⟨d,z,ne,ob,mA,n,r,q⟩:=(show aM P w H h a (.ins C dx fs) from hok a _ e)
 exact⟨mA,⟨ob,n,ne⟩,r,q,z,d⟩
end
structure Cls(K:Ê)(C:Addr):Prop where
 pg:W.plainGet K C Str.empty=true
 hd:W.hasDictIn K C=true
 po:W.plainOver K C=true
 sa:W.findIn K (.ref C) "__setattr__"=some (some (.builtin "object.__setattr__"))
def Cls.get{K:Ê}{C:Addr}(c:Cls K C)(f:Str):W.plainGet K C f=true:=c.pg
structure Con(K:Ê)(C:Addr)(f:Str)(v:V)(u:Value):Prop where
 at_:W.findIn K (.ref C) f=some (some u)
 rel:RelV v u
 get:W.specialIn K u "__get__"=some none
 cp:W.copiedNames.contains f=false
structure Meth(K:Ê)(C:Addr)(m:Str)(f:Addr):Prop where
 at_:W.findIn K (.ref C) m=some (some (.ref f))
 fn:W.isFn K (.ref f)=true
 kp:ň K (.ref f)=true
section
variable {X:Cx}{pins:List (Addr×Obj)}{σ:St}{H:Hp}{s:Shared}{a C dx:Addr}{fs:List (Str×V)}{f:Str}{v:V}{A:Around}{E:Value->Shared->Prop}
end
section
variable {X:Cx}{o e value:Expr}{f:Str}{pos pos' tpos:Pos}{ta tv:TE}
end
section
variable {X:Cx}{pins:List (Addr×Obj)}{σ:St}{H:Hp}{s:Shared}{A:Around}{E:Value->Shared->Prop}{Q:Value->Shared->Prop}{c:Value}{b:Bool}
inductive TyOf(K:Ê)(H:Hp):V->Value->Prop where
 |non:TyOf K H .non (.type "NoneType")
 |bl (x:Bool):TyOf K H (.bl x) (.type "bool")
 |int (i:Int):TyOf K H (.int i) (.type "int")
 |str (x:Str):TyOf K H (.str x) (.type "str")
 |flt (x:UInt64):TyOf K H (.flt x) (.type "float")
 |lst {a:Addr}{xs:List V} (e:H a=some (.lst xs)):TyOf K H (.ref a) (.type "list")
 |frz {a:Addr}{o:Obj}{xs:List V} (e:H a=some (.frz o (.lst xs))):TyOf K H (.ref a) (.type "list")
 |tup {a:Addr}{xs:List V} (e:H a=some (.tup xs)):TyOf K H (.ref a) (.type "tuple")
 |dK {a:Addr}{kvs:List (Key×V)} (e:H a=some (.dK kvs)):TyOf K H (.ref a) (.type "dict")
 |dT {a:Addr}{kvs:List (List Key×V)} (e:H a=some (.dT kvs)):TyOf K H (.ref a) (.type "dict")
 |ins {a C dx:Addr}{fs:List (Str×V)} (e:H a=some (.ins C dx fs)) (cl:Cls K C) (ha:W.findIn K (.ref C) "__class__"=some (some (.builtin "object.__class__")))
   (hn:W.specialIn K (.builtin "object.__class__") "__get__"=some (some (.builtin "getset_descriptor.__get__"))) (htk:W.takesIn K (.builtin "object.__class__")=some true)
   (hm:Ŀ K C (.type "object")=some true):TyOf K H (.ref a) (.ref C)
def yU{x:V}{u t:Value}(I:Inv X pins σ H s)(rx:RelV x u)(ty:TyOf X.K H x t)(e:Ĳ X.K t c=some b)(h:∀tk,Q (.bool b) { s with toks:=tk }) :
  wpAny (model X.prog X.w) A (call (.builtin "isinstance") [u,c]) Q E s:=by
 cases ty with
 |non=>cases (show u=ð from rx);exact Ł W.kitx_none I.kIn Ď e (λz=>nomatch z) h
 |bl y=>cases (show u=ū y from rx);exact Ł W.kitx_bool I.kIn Ď e (λz=>nomatch z) h
 |int i=>obtain⟨t,q⟩:=(show ∃t,u=Ē i t from rx);cases q;exact Ł W.kitx_int I.kIn Ď e (λz=>nomatch z) h
 |str y=>obtain⟨t,q⟩:=(show ∃t,u=Value.str y t from rx);cases q;exact Ł W.kitx_str I.kIn Ď e (λz=>nomatch z) h
 |flt y=>obtain⟨t,q⟩:=(show ∃t,u=Value.float y t from rx);cases q;exact Ł W.kitx_float I.kIn Ď e (λz=>nomatch z) h
 |@lst a xs ea =>
  cases (show u=æ a from rx)
  obtain⟨_,_,n,_,h1⟩:=(show aM X.prog X.w H s.heap a (.lst xs) from I.hok a _ ea)
  exact Ł W.kitx_list I.kIn ⟨_,h1,rfl⟩ e (λz=>nomatch z) h
 |@frz a ob xs ea =>
  cases (show u=æ a from rx)
  obtain⟨_,_,_,n,_,h1⟩:=(show aM X.prog X.w H s.heap a (.frz ob (.lst xs)) from I.hok a _ ea)
  exact Ł W.kitx_list I.kIn ⟨_,h1,rfl⟩ e (λz=>nomatch z) h
 |@tup a xs ea =>
  cases (show u=æ a from rx)
  obtain⟨_,_,_,p⟩:=(show aM X.prog X.w H s.heap a (.tup xs) from I.hok a _ ea)
  obtain⟨o,h1,h2,_⟩:=p
  exact Ł W.kitx_tuple I.kIn ⟨o,h1,h2⟩ e (λz=>nomatch z) h
 |@dK a kvs ea =>
  cases (show u=æ a from rx)
  obtain⟨_,_,vs,_,p⟩:=(show aM X.prog X.w H s.heap a (.dK kvs) from I.hok a _ ea)
  obtain⟨o,es,ep,h1,h2,_⟩:=p
  exact Ł W.kitx_dict I.kIn ⟨o,h1,h2.1⟩ e (λz=>nomatch z) h
 |@dT a kvs ea =>
  cases (show u=æ a from rx)
  obtain⟨_,_,xs,_,o,es,ep,h1,h2,_⟩:=(show aM X.prog X.w H s.heap a (.dT kvs) from I.hok a _ ea)
  exact Ł W.kitx_dict I.kIn ⟨o,h1,h2.1⟩ e (λz=>nomatch z) h
 |@ins a C dx fs ea cl ha hn htk hm =>
  cases (show u=æ a from rx)
  obtain⟨mA,O,_⟩:=xH I.hok ea
  obtain⟨od,J,_⟩:=O.look
  exact Ł (W.kitx_own (cl.get _) cl.hd ha hn htk hm) I.kIn J e (λz=>nomatch z) h
end
structure Room(k:Nat)(A:Around):Prop where
 hd:A.handled=none
 dp:A.depth+3 * k+5<recursionLimit
 un:A.units+16 * k+200<cLine
 gd:A.guards=some []
def Room.mono{j k:Nat}{A:Around}(r:Room k A)(h:j<=k):Room j A:=⟨r.hd,by have:=r.dp;omega,by have:=r.un;omega,r.gd⟩
def Room.deeper{k:Nat}{A:Around}(r:Room (k+1) A)(env:Env):Room k (A.deeper env) :=
 ⟨r.hd,by have:=r.dp;show A.depth+1+3 * k+5<_;omega,by have:=r.un;show A.units+3+16 * k+200<_;omega,r.gd⟩
def Room.depth{k:Nat}{A:Around}(r:Room k A):A.depth<recursionLimit:=by have:=r.dp;omega
def Room.units{k:Nat}{A:Around}(r:Room k A):A.units+64<cLine:=by have:=r.un;omega
def Ls:TA:=λ_ H Q=>Q [] H
def Ar(ta:TE)(tr:TA):TA:=λσ H Q=>ta σ H λx H1=>tr σ H1 λxs H2=>Q (x::xs) H2
section
variable {X:Cx}{e:Expr}{es:List Expr}{te:TE}{t:TA}{pos:Pos}
def bA:PA X [] Ls:=λ_ _ _ _ H Q I h=>Calls.spliced_nil ⟨[],H,I,.nil,h⟩
def aF(ha:PE X e te)(hr:PA X es t)(hs:starEach (e::es) X.env=(false,eval e X.env)::starEach es X.env:=by rfl):PA X (e::es) (Ar te t):=by
 intro pos pins s σ H Q I h
 rw[hs]
 show wpAny _ _ (spliced ((false,eval e X.env)::backTo pos (starEach es X.env))) _ _ s
 refine Calls.spliced_cons (thn (ha pins s σ H _ I h) λu s1 ⟨x,H1,I1,r1,q1⟩=>?_)
 exact thn (hr pos pins s1 σ H1 _ I1 q1) λus s2 ⟨xs,H2,I2,r2,q2⟩=>⟨x::xs,H2,I2,.cons r1 r2,q2⟩
def Oi(t:TA):TE:=λσ H Q=>t σ H λxs H1=>xs.length<=sizeLine/\∀p,H1 p=none->Q (.ref p) (upd H1 p (.tup xs))
def Om(t:TA):TE:=λσ H Q=>t σ H λxs H1=>xs.length<=sizeLine/\∀p,H1 p=none->Q (.ref p) (upd H1 p (.lst xs))
def vH{x1}(h:PA X es t):PE X (.Tuple es x1 pos) (Oi t):=by
 intro pins s σ H Q I hq
 refine wpAny_Tuple_spliced (thn (h pos pins s σ H _ I hq) λus s1 ⟨xs,H1,I1,r,z,q⟩=>⟨by rw[←r.length];exact z,?_⟩)
 have hf:H1 s1.heap.objs.size=none:=I1.hok.fresh (Æ _)
 refine⟨.ref s1.heap.objs.size,upd H1 s1.heap.objs.size (.tup xs),I1.laid (t':=s1.toks) (λb u e=>Ä _ e) (Æ _) ?_,rfl,q _ hf⟩
 exact⟨z,us,r,⟨_,Ô _ rfl,rfl,_,rfl⟩⟩
def BR(h:PA X es t):PE X (.List es pos) (Om t):=by
 intro pins s σ H Q I hq
 refine wpAny_List_spliced (thn (h pos pins s σ H _ I hq) λus s1 ⟨xs,H1,I1,r,z,q⟩=>⟨by rw[←r.length];exact z,?_⟩)
 have hf:H1 s1.heap.objs.size=none:=I1.hok.fresh (Æ _)
 refine⟨.ref s1.heap.objs.size,upd H1 s1.heap.objs.size (.lst xs),I1.laid (t':=s1.toks) (λb u e=>Ä _ e) (Æ _) ?_,rfl,q _ hf⟩
 exact⟨z,us,0,r,Ô _ rfl⟩
end
abbrev Sp:=List V->Hp->VK->XK->Prop
abbrev CXT:=List Env->Hp->Shared->XK->Value->Shared->Prop
structure Env0(P:Program)(w:World)(K:Ê)(mg:Str->Option Value)(base:Heap)(A:Around)(outer:List Env)(s:Shared)(H:Hp):Prop where
 frames:A.frames=some outer
 mod:Mod K mg base
 bs:∀b o,base.get? b=some o->s.heap.get? b=some o/\H b=none
 bsz:base.objs.size<=s.heap.objs.size
 jC:s.heap.FunFrames base outer
 frf:∀b∈frs outer,H b=none
 hok:HOk P w H s.heap
 bare:AllBare s.gens
def CE(outer:List Env)(P:Program)(w:World)(H:Hp)(s:Shared)(Q:VK)(u:Value)(s':Shared):Prop :=
 ∃v H',s'.os=s.os/\AllBare s'.gens/\Un (frs outer) [] H H' s.heap s'.heap/\HOk P w H' s'.heap/\RelV v u/\Q v H'
def CR(CX:CXT)(outer:List Env)(P:Program)(w:World)(H:Hp)(s:Shared)(Q:VK)(E:XK)(r:Result)(s':Shared):Prop :=
 match r with
 |.ok (.ret u)=>CE outer P w H s Q u s'
 |.ok _=>False
 |.error e=>CX outer H s E e s'
structure FnOk(P:Program)(w:World)(K:Ê)(mg:Str->Option Value)(base:Heap)(CX:CXT)(k:Nat)(f:Addr)(fd:FuncData)(ps:List Str)(sp:Sp):Prop where
 len:∀vs H Q E,sp vs H Q E->vs.length=ps.length
 run:∀(A:Around) (outer:List Env) (s:Shared) (H:Hp) (args:Args) (us:List Value) (vs:List V) (Q:VK) (E:XK),Room k A->Env0 P w K mg base A outer s H->BindsTo s fd args (ps.zip us)->Vals vs us->sp vs H Q E ->
  codeAny (model P w) A (.call (.ref f) args) (CR CX outer P w H s Q E) s
def FnOk.mono{P:Program}{w:World}{K:Ê}{mg:Str->Option Value}{base:Heap}{CX:CXT}{j k:Nat}{f:Addr}{fd:FuncData}{ps:List Str}{sp:Sp}(F:FnOk P w K mg base CX j f fd ps sp)(h:j<=k) :
  FnOk P w K mg base CX k f fd ps sp:=⟨F.len,λA outer s H args us vs Q E hr=>F.run A outer s H args us vs Q E (hr.mono h)⟩
def FnOk.imp{P:Program}{w:World}{K:Ê}{mg:Str->Option Value}{base:Heap}{CX:CXT}{k:Nat}{f:Addr}{fd:FuncData}{ps:List Str}{sp sp':Sp}(F:FnOk P w K mg base CX k f fd ps sp)(h:∀vs H Q E,sp' vs H Q E->sp vs H Q E):FnOk P w K mg base CX k f fd ps sp' :=
 ⟨λvs H Q E q=>F.len vs H Q E (h _ _ _ _ q),λA outer s H args us vs Q E hr he hb hv hs=>F.run A outer s H args us vs Q E hr he hb hv (h _ _ _ _ hs)⟩
section
variable {X:Cx}{pins:List (Addr×Obj)}{σ:St}{H:Hp}{s s':Shared}
def Inv.env0(I:Inv X pins σ H s):Env0 X.prog X.w X.K X.mg X.base X.A X.stack s H :=
 ⟨I.ok.frames,I.ok.mod,I.bs,ô I.ok.bsz I.sz,I.stack,I.qx,I.hok,I.bare⟩
def Inv.after{Q:VK}{u:Value}(I:Inv X pins σ H s)(h:CE X.stack X.prog X.w H s Q u s'):EP X pins σ Q u s':=by
 obtain⟨v,H',os,bare,un,hok,r,q⟩:=h
 obtain⟨hh,g,d,t,os'⟩:=s'
 obtain rfl:os'=s.os:=os
 exact⟨v,H',I.call (h':=hh) (g':=g) (d':=d) (t':=t) (ch:=[]) un hok bare (λb z=>absurd z (by simp)),r,q⟩
end
def jK(sp:Sp)(dvs:List V)(E:XK)(t:TA):TE:=λσ H Q=>t σ H λvs H1=>sp (vs++dvs) H1 Q E
def Binds(K:Ê)(fd:FuncData)(ps:List Str)(ds:List Value):Prop :=
 ∀(s:Shared) (us:List Value),K.In s.heap->(us++ds).length=ps.length->BindsTo s fd ⟨us,[]⟩ (ps.zip (us++ds))
def Binds.all{K:Ê}{fd:FuncData}{ps:List Str}(h:∀us:List Value,us.length=ps.length->bindArgs fd ⟨us,[]⟩=pure (ps.zip us)):Binds K fd ps []:=λs us _ hl=>by
 rw[ą] at hl ⊢
 exact .of_eq (h us hl)
def Passes(CX:CXT)(X:Cx)(E:XK):Prop:=∀(pins:List (Addr×Obj)) (σ:St) (H:Hp) (s:Shared) (e:Value) (s':Shared),Inv X pins σ H s->CX X.stack H s E e s'->X.xe e s'
section
variable {X:Cx}{CX:CXT}{k:Nat}{f C:Addr}{fd:FuncData}{ps:List Str}{sp:Sp}{dvs:List V}{ds:List Value}{E:XK}{x m:Str}{p pos apos:Pos}{e o:Expr}{es:List Expr}{ta:TE}{t:TA}
def Jg{pins:List (Addr×Obj)}{σ:St}{H:Hp}{s:Shared}{Q:VK}{us:List Value}{vs:List V}(F:FnOk X.prog X.w X.K X.mg X.base CX k f fd ps sp)(hr:Room k X.A)(hb:Binds X.K fd ps ds)(hd:Vals dvs ds)(hx:Passes CX X E)(I:Inv X pins σ H s)(r:Vals vs us)(h:sp (vs++dvs) H Q E):wpAny (model X.prog X.w) X.A (call (.ref f) us) (EP X pins σ Q) X.xe s:=by
 have r2:Vals (vs++dvs) (us++ds):=r.append hd
 have hl:(us++ds).length=ps.length:=by rw[←r2.length];exact F.len _ _ _ _ h
 refine wpAny_call (Ŷ (F.run X.A X.stack s H ⟨us,[]⟩ (us++ds) (vs++dvs) Q E hr I.env0 (hb s us I.kIn hl) r2 h) λr s' hq=>?_)
 cases r with
 |error e=>exact hx pins σ H s e s' I hq
 |ok fl =>
  cases fl with
  |ret u=>exact I.after hq
  |next=>exact ø hq
  |brk=>exact ø hq
  |cont=>exact ø hq
def wY(F:FnOk X.prog X.w X.K X.mg X.base CX k f fd ps sp)(hr:Room k X.A)(hg:Gl X x)(hm:X.mg x=some (.ref f))(hk:ň X.K (.ref f)=true)(hb:Binds X.K fd ps ds)(hd:Vals dvs ds)(hx:Passes CX X E)(ha:PA X (e::es) t)(hdb:(x == ("__debug__":Str))=false:=by decide)(he:starEach (e::es) X.env=(false,eval e X.env)::starEach es X.env:=by rfl)(hpl:(backTo pos (starEach es X.env)).any (·.1)=false:=by rfl) :
  PE X (.Call (.Name x p) (e::es) [] pos) (jK sp dvs E t):=by
 intro pins s σ H Q I h
 refine ŕ (jZ I hg hm ?_ hdb)
 refine W.callWith_K (h₀:=X.base) I.ok.mod.kin hk (thn (ha pos pins s σ H _ I h) λus s1 ⟨vs,H1,I1,r,q⟩=>⟨I1.kIn,?_⟩) he hpl
 exact Jg F hr hb hd hx I1 r q
structure Mk(K:Ê)(C f:Addr):Prop where
 makes:W.makesIn K C=true
 init:W.findIn K (.ref C) "__init__"=some (some (.ref f))
 fn:W.isFn K (.ref f)=true
 kp:ň K (.ref C)=true
end
section
variable {X:Cx}{CX:CXT}{k:Nat}{f C:Addr}{fd:FuncData}{ps ks:List Str}{sp:Sp}{E:XK}{x m:Str}{p pos apos kpos:Pos}{e o:Expr}{es:List Expr}{kws:List Keyword}{te ta:TE}{t tk:TA}{nm:Option Str}
structure KBinds(K:Ê)(fd:FuncData)(ps ks:List Str)(g:List Value->List Value->List Value)(gV:List V->List V->List V):Prop where
 to:∀(s:Shared) (us ws:List Value),K.In s.heap->(g us ws).length=ps.length->BindsTo s fd ⟨us,ks.zip ws⟩ (ps.zip (g us ws))
 rel:∀{vs:List V}{us:List Value}{zs:List V}{ws:List Value},Vals vs us->Vals zs ws->Vals (gV vs zs) (g us ws)
variable {g:List Value->List Value->List Value}{gV:List V->List V->List V}
end
structure FnScope(N P:List Str)(sc:Scope):Prop where
 kind:sc.kind=.function
 co:sc.isCoroutine=false
 gen:sc.isGenerator=false
 nd:N.Nodup
 pre:N.take P.length=P
 par:∀x∈P,sc.names.lookup x=some .local\/sc.names.lookup x=some .cell
 nofree:∀y∈sc.names,y.2≠.free
def zC{N P:List Str}{sc:Scope}(a:sc.kind=.function:=by rfl)(b:sc.isCoroutine=false:=by rfl)(c:sc.isGenerator=false:=by rfl)(d:N.Nodup:=by decide +kernel)(e:N.take P.length=P:=by rfl)(f:∀x∈P,sc.names.lookup x=some .local\/sc.names.lookup x=some .cell:=by decide +kernel)(g:∀y∈sc.names,y.2≠.free:=by decide +kernel):FnScope N P sc:=⟨a,b,c,d,e,f,g⟩
def qj{kindOf:Str->Option NameKind}{x:Str}:∀{binds:List (Str×Value)}{m:Str->Option Value},(∀v,(x,v)∉binds)->bindL kindOf binds m x=m x
 |[],_,_=>rfl
 |(n,v)::r,m,h=>by
  unfold bindL
  rw[qj λw hw=>h w (Ï _ hw)]
  split
  ·have:x≠n:=by rintro rfl;exact h v Ì
   simp[this]
  ·rfl
def qm{kindOf:Str->Option NameKind}{x:Str}:∀{binds:List (Str×Value)}{m:Str->Option Value},(∀v,(x,v)∉binds)->bindC kindOf binds m x=m x
 |[],_,_=>rfl
 |(n,v)::r,m,h=>by
  unfold bindC
  rw[qm λw hw=>h w (Ï _ hw)]
  split
  ·rfl
  ·have:x≠n:=by rintro rfl;exact h v Ì
   simp[this]
def ql{kindOf:Str->Option NameKind}{x:Str}{v:Value}:∀{P:List Str}{vs:List Value}{i:Nat}{m:Str->Option Value},P.Nodup->P[i]?=some x->vs[i]?=some v->kindOf x=some .local ->
  bindL kindOf (P.zip vs) m x=some v
 |[],_,_,_,_,h,_,_=>by simp at h
 |_::_,[],_,_,_,_,h,_=>by simp at h
 |p::P,w::vs,0,m,nd,h1,h2,hk=>by
  simp at h1 h2;subst h1;subst h2
  show bindL kindOf ((p,w)::P.zip vs) m p=_
  unfold bindL
  rw[qj λv hv=>(Ě.mp nd).1 (List.of_mem_zip hv).1,if_pos hk]
  simp
 |p::P,w::vs,i+1,m,nd,h1,h2,hk=>by
  show bindL kindOf ((p,w)::P.zip vs) m x=_
  unfold bindL
  exact ql (i:=i) (Ě.mp nd).2 (by simpa using h1) (by simpa using h2) hk
def qp{kindOf:Str->Option NameKind}{x:Str}{v:Value}:∀{P:List Str}{vs:List Value}{i:Nat}{m:Str->Option Value},P.Nodup->P[i]?=some x->vs[i]?=some v->kindOf x≠some .local ->
  bindC kindOf (P.zip vs) m x=some v
 |[],_,_,_,_,h,_,_=>by simp at h
 |_::_,[],_,_,_,_,h,_=>by simp at h
 |p::P,w::vs,0,m,nd,h1,h2,hk=>by
  simp at h1 h2;subst h1;subst h2
  show bindC kindOf ((p,w)::P.zip vs) m p=_
  unfold bindC
  rw[qm λv hv=>(Ě.mp nd).1 (List.of_mem_zip hv).1,if_neg hk]
  simp
 |p::P,w::vs,i+1,m,nd,h1,h2,hk=>by
  show bindC kindOf ((p,w)::P.zip vs) m x=_
  unfold bindC
  exact qp (i:=i) (Ě.mp nd).2 (by simpa using h1) (by simpa using h2) hk
def start(N:List Str)(vs:List V):St:=vs.map some++È (N.length - vs.length) none
def rR(CX:CXT)(P:Program)(w:World)(K:Ê)(mg:Str->Option Value)(base:Heap)(N:List Str)(qual:Str)(scope:Scope)(f:Addr)(cd:Value)(A:Around)(outer:List Env)(s:Shared)(H:Hp)(E:XK):Cx where
 prog:=P
 w:=w
 K:=K
 mg:=mg
 base:=base
 A:=A.deeper (envOfC qual scope s.heap.objs.size f cd)
 N:=N
 s₀:=s
 H₀:=H
 env:=envOfC qual scope s.heap.objs.size f cd
 outer:=outer
 stack:=envOfC qual scope s.heap.objs.size f cd::outer
 ex:=[]
 calm:=true
 fn:=λ_=>true
 pn:=[]
 xe:=λe s'=>wpAny (model P w) (A.deeper (envOfC qual scope s.heap.objs.size f cd)) (leaving (envOfC qual scope s.heap.objs.size f cd) e) (λ_ s''=>CX outer H s E e s'') (λe' s''=>CX outer H s E e' s'') s'
def uO{sc:Scope}{n:Nat}{x:Str}(h:sc.names.lookup x=some .cell):∃c,(cellsFrom n sc.names []).lookup x=some c:=by
 have q:=W.cellsFrom_some sc.names n [] (.inl h)
 exact ľ.mp q
def yW{CX:CXT}{P:Program}{w:World}{K:Ê}{mg:Str->Option Value}{base:Heap}{N ps:List Str}{qual:Str}{scope:Scope}{f:Addr}{cd:Value}{A:Around}{outer:List Env}{s s1:Shared}{H:Hp}{E:XK}{us:List Value}{vs:List V}(S:FnScope N ps scope)(hd:A.handled=none)(e0:Env0 P w K mg base A outer s H)(hl:vs.length=ps.length)(r:Vals vs us)(x:InCallC s s.heap.objs.size (bindL (envOfC qual scope s.heap.objs.size f cd).kindOf (ps.zip us) λ_=>none) (cellsFrom (s.heap.objs.size+1) scope.names []) (bindC (envOfC qual scope s.heap.objs.size f cd).kindOf (ps.zip us) λ_=>none) s1) :
  Inv (rR CX P w K mg base N qual scope f cd A outer s H E) [] (start N vs) H s1:=by
 have hpl:ps.length<=N.length:=by have:=congrArg List.length S.pre;rw[Ĕ] at this;omega
 obtain⟨h1,tk,rfl,hk⟩:=x.done
 have noA:∀b:Addr,b∉(rR CX P w K mg base N qual scope f cd A outer s H E).ex:=λb z=>absurd (show b∈([]:List Addr) from z) (by simp)
 refine⟨⟨e0.mod,S.kind,rfl,rfl,Æ _,λy z c h1 h2=>?_,λy hy=>?_,λy c _ h=>?_,λ_=>hd,Around.frames_deeper e0.frames,.inr ⟨rfl,rfl⟩,λb z=>absurd z (noA b),e0.bs,e0.bsz,λb _ _=>noA b,λb z=>absurd z (noA b),e0.jC,e0.frf,λq z=>nomatch (show q∈([]:List (Addr×Obj×HO)) from z)⟩,
  rfl,e0.bare,Un.kept hk,⟨_,x.toInCall.ns,λi y v h1 h2 h3=>?_⟩,λy c h=>⟨_,x.cell y c h⟩,e0.hok.fresh (Æ _),λy c h=>?_,λp hp=>absurd (show p∈([]:List (Addr×Obj)) from hp) (by simp),e0.hok.kept hk,?_⟩
 ·exact name_of_addr x.apart (Ā h1) (Ā h2)
 ·have hy:scope.names.lookup y=some .cell\/scope.names.lookup y=some .free:=hy
  rcases hy with hy|hy
  ·exact uO hy
  ·exact absurd rfl (S.nofree _ (Ā hy))
 ·exact Nat.le_of_lt (x.above y c (Ā h))
 ·have hi:i<vs.length:=by
   unfold start at h2
   by_cases hi:i<vs.length
   ·exact hi
   ·rw[ê (by simpa using hi)] at h2
    rw[ę] at h2
    split at h2 <;> cases h2
  have ha:vs[i]?=some v:=by
   unfold start at h2
   rw[ü (by simpa using hi),Þ] at h2
   cases e:vs[i]? with
   |none=>rw[e] at h2;cases h2
   |some a=>rw[e] at h2;cases h2;rfl
  obtain⟨u,hu,rv⟩:=r.get ha
  have hp:ps[i]?=some y:=by
   rw[←S.pre,List.getElem?_take_of_lt (by omega)];exact h1
  have ndP:ps.Nodup:=by rw[←S.pre];exact S.nd.sublist (List.take_sublist _ _)
  refine⟨u,rv,?_⟩
  rcases S.par y (Ñ hp) with k|k
  ·exact .inl ⟨k,ql ndP hp hu k⟩
  ·obtain⟨c,e⟩:=uO (n:=s.heap.objs.size+1) k
   refine .inr ⟨.inl k,c,e,?_⟩
   have q:=x.cell y c e
   rw[qp ndP hp hu (by show scope.names.lookup y≠_;rw[k];decide)] at q
   exact q
 ·exact e0.hok.fresh (Nat.le_of_lt (x.above y c (Ā h)))
 ·unfold start
  show _=N.length
  rw[Ð,Á,ğ]
  omega
def Ej{CX:CXT}{P:Program}{w:World}{K:Ê}{mg:Str->Option Value}{base:Heap}{k:Nat}{f:Addr}{name qual:Str}{params:Arguments}{body:List Stmt}{scope:Scope}{dV kV doc pm cdv ct oc:Value}{an od:Option Addr}{osl:Array (Option Value)}{N ps:List Str}{sp:Sp}(lk:K.lookup f=some ⟨oc,od,.func (W.fnOf name qual params body scope dV kV doc pm an cdv ct),osl⟩)(hcd:W.codeIn K cdv qual=true)(S:FnScope N ps scope)(len:∀vs H Q E,sp vs H Q E->vs.length=ps.length)(hbody:∀(A:Around) (outer:List Env) (s:Shared) (H:Hp) (vs:List V) (Q:VK) (E:XK),Room k (A.deeper (envOfC qual scope s.heap.objs.size f cdv))->sp vs H Q E ->
   ∃t,PSs (rR CX P w K mg base N qual scope f cdv A outer s H E) body t/\t { nx:=λ_ H'=>Q .non H',rt:=Q } (start N vs) H) :
  FnOk P w K mg base CX (k+1) f (W.fnOf name qual params body scope dV kV doc pm an cdv ct) ps sp:=by
 refine⟨len,λA outer s H args us vs Q E hr e0 hb r hsp=>?_⟩
 have hl:=len _ _ _ _ hsp
 have KX:K.In s.heap:=e0.mod.kin.keeps λb o e=>(e0.bs b o e).1
 have lim:s.heap.NoLimit:=e0.mod.nolimit.keeps λb o e=>(e0.bs b o e).1
 have hkind:∀y∈ps.zip us,scope.names.lookup y.1=some .local\/(scope.names.lookup y.1=some .cell/\((cellsFrom (s.heap.objs.size+1) scope.names []).lookup y.1).isSome=true):=λ⟨n,v⟩ hy=>by
  rcases S.par n (List.of_mem_zip hy).1 with q|q
  ·exact .inl q
  ·exact .inr ⟨q,W.cellsFrom_some _ _ _ (.inl q)⟩
 refine codeAny_call_function hr.depth (KX _ _ lk) rfl S.co S.gen rfl (W.codeRec_of KX hcd) (hb _ _ _ _ ?_)
 refine wpAny_newFunctionEnv_cells S.kind hkind λenv he s1 x=>?_
 subst he
 refine⟨lim.keeps x.toInCall.keep,codeAny_func ?_⟩
 obtain⟨t,ht,hq⟩:=hbody A outer s H vs Q E (hr.deeper _) hsp
 have I:Inv (rR CX P w K mg base N qual scope f cdv A outer s H E) [] (start N vs) H s1:=yW S hr.hd e0 hl r x
 refine č (ht [] s1 (start N vs) H _ I hq) (λfl s' hs=>?_) λe s' hs=>hs
 have fin:∀{σ':St}{H':Hp}{v:V}{u:Value},Inv (rR CX P w K mg base N qual scope f cdv A outer s H E) [] σ' H' s'->RelV v u->Q v H'->CE outer P w H s Q u s' :=
  λ{σ' H' v u} J rv q=>⟨v,H',J.os,J.bare,J.base,J.hok,rv,q⟩
 cases fl with
 |ret u =>
  obtain⟨v,σ',H',J,rv,q⟩:=hs
  exact fin J rv q
 |next =>
  obtain⟨σ',H',J,q⟩:=hs
  exact fin (v:=V.non) (u:=ð) J rfl q
 |brk =>
  obtain⟨_,_,_,q⟩:=hs
  exact ø q
 |cont =>
  obtain⟨_,_,_,q⟩:=hs
  exact ø q
section
variable {X:Cx}{x:Str}{p pos:Pos}{e:Expr}{es:List Expr}{t:TA}{id T:String}{r:List V->Hp->VK->Prop}
def tCB(r:List V->Hp->VK->Prop)(t:TA):TE:=λσ H Q=>t σ H λvs H1=>r vs H1 Q
def bQ(hc:aW X (.builtin id) r)(hg:Gl X x)(hm:X.mg x=none)(hv:bootBuiltins x=some (.builtin id))(ha:PA X (e::es) t)(hn:x≠"__name__":=by decide)(hdb:(x == ("__debug__":Str))=false:=by decide)(he:starEach (e::es) X.env=(false,eval e X.env)::starEach es X.env:=by rfl)(hpl:(backTo pos (starEach es X.env)).any (·.1)=false:=by rfl):PE X (.Call (.Name x p) (e::es) [] pos) (tCB r t):=by
 intro pins s σ H Q I h
 refine ŕ (nW I hg hm hv ?_ hn hdb)
 exact PyProof.Rows.callWith_builtin1 (thn (ha pos pins s σ H _ I h) λus s1 ⟨vs,H1,I1,r1,q1⟩=>hc pins s1 σ H1 vs us Q I1 r1 q1) he hpl
def jf(hc:aW X (.type T) r)(hg:Gl X x)(hm:X.mg x=none)(hv:bootBuiltins x=some (.type T))(ha:PA X (e::es) t)(hn:x≠"__name__":=by decide)(hdb:(x == ("__debug__":Str))=false:=by decide)(he:starEach (e::es) X.env=(false,eval e X.env)::starEach es X.env:=by rfl)(hpl:(backTo pos (starEach es X.env)).any (·.1)=false:=by rfl):PE X (.Call (.Name x p) (e::es) [] pos) (tCB r t):=by
 intro pins s σ H Q I h
 refine ŕ (nW I hg hm hv ?_ hn hdb)
 exact Ř (thn (ha pos pins s σ H _ I h) λus s1 ⟨vs,H1,I1,r1,q1⟩=>hc pins s1 σ H1 vs us Q I1 r1 q1) he hpl
end
end L2
namespace HT
open PySem PyProof.Rows
section
open PySem.SeqAt
open PySem.AutoSeq1 (wpAny_loadPart')
open PySem.MeetsSeq PySem.MeetsSeq2 PySem.MeetsSeq3
end
section
variable {prog:Program}{w:World}{A:Around}{E:Value->Shared->Prop}{s:Shared}
def Hs{t b:Addr}{vs ws:List Value}{Q:Value->Shared->Prop}(ht:IsTup s.heap t vs.toArray)(hb:IsTup s.heap b ws.toArray)(hv:vs≠[])(h1:ws=[]->Q (.ref t) s)(h2:ws≠[]->Q (.ref s.heap.objs.size) { s with heap:=s.heap.push { cls:=.type "tuple",data:=.seq (vs++ws).toArray } })(hsz:vs.length+ws.length<=sizeLine):wpAny (model prog w) A (binaryOp .Add (.ref t) (.ref b)) Q E s:=by
 obtain⟨⟨cls,dd,data,sl⟩,ho,hc,n,hd⟩:=id ht
 obtain⟨⟨cls2,dd2,data2,sl2⟩,ho2,hc2,n2,hd2⟩:=id hb
 simp only at hc hd hc2 hd2
 subst hc hd hc2 hd2
 have e:vs.toArray++ws.toArray=(vs++ws).toArray:=by simp
 by_cases hw:ws=[]
 ·exact concat_meets ⟨_,ho,rfl⟩ ⟨_,ho2,rfl⟩ noFill_tuple_add seq_tuple_add PySem.F.slot_tuple_add PySem.F.entry_tuple_add (PySem.F.args_tuple_add_2 _ _)
   (tuple_addW1 t b vs.toArray ws.toArray n n2 dd dd2 sl sl2 (by simpa using hv) (by simp[hw])) ⟨ho,ho2,h1 hw⟩
 ·refine concat_meets ⟨_,ho,rfl⟩ ⟨_,ho2,rfl⟩ noFill_tuple_add seq_tuple_add PySem.F.slot_tuple_add PySem.F.entry_tuple_add (PySem.F.args_tuple_add_2 _ _)
   (tuple_addW2 t b vs.toArray ws.toArray n n2 dd dd2 sl sl2 (by simpa using hv) (by simpa using hw) (by rw[Ë,Ë];exact hsz)) ⟨ho,ho2,?_⟩
  rw[e]
  exact h2 hw
def sIx(n d:Nat):Option Int->Nat
 |none=>d
 |some v=>if v<0 then (v+(n:Int)).toNat else min v.toNat n
def lW(n d k:Nat):sIx n d (some (k:Int))=min k n:=by
 show(if (k:Int)<0 then ((k:Int)+(n:Int)).toNat else min (k:Int).toNat n)=min k n
 rw[if_neg (by omega),Ŗ]
def Jf(n d:Nat)(hd:d<=n)(o:Option Int):sIx n d o<=n:=by
 cases o with
 |none=>exact hd
 |some v =>
  show(if v<0 then (v+(n:Int)).toNat else min v.toNat n)<=n
  by_cases hv:v<0
  ·rw[if_pos hv];omega
  ·rw[if_neg hv];exact Nat.min_le_right _ _
def xZ(v:Int)(n d:Nat):(if v<0 then max (v+(n:Int)) 0 else min v (n:Int))=((sIx n d (some v):Nat):Int):=by
 show(if v<0 then max (v+(n:Int)) 0 else min v (n:Int))=(((if v<0 then (v+(n:Int)).toNat else min v.toNat n):Nat):Int)
 by_cases hv:v<0
 ·simp only[if_pos hv];omega
 ·simp only[if_neg hv];omega
def wK(lo hi:Option Int)(n:Nat):ś lo hi 1 (n:Int)=(((sIx n 0 lo:Nat):Int),((sIx n n hi:Nat):Int)):=by
 have h1:¬((1:Int)<0):=by omega
 unfold ś
 simp only[h1,if_false]
 refine ŭ ?_ ?_
 ·cases lo with
  |none=>rfl
  |some v=>exact xZ v n 0
 ·cases hi with
  |none=>rfl
  |some v=>exact xZ v n n
def vD(i j:Nat):į (i:Int) (j:Int) 1=j - i:=by
 unfold į
 have h1:(1:Int) > 0:=by omega
 simp only[h1,if_true,Int.ediv_one]
 split <;> omega
def mW{v:Value}{o:Option Int}{Q:Option Int->Shared->Prop}(p:IsPart v o)(h:Q o s):wpAny (model prog w) A (Builtin.Slice.slicePartIndex v) Q E s:=by
 cases p with
 |none=>exact slicePart_none h
 |int i t=>exact slicePart_int h
def kE{sl:Addr}{vl vu:Value}{lo hi:Option Int}{n:Nat}{Q:Int×Int×Nat->Shared->Prop}(hs:s.heap.IsSliceOf sl vl vu .none)(pl:IsPart vl lo)(pu:IsPart vu hi)(h:Q (((sIx n 0 lo:Nat):Int),1,sIx n n hi - sIx n 0 lo) s):wpAny (model prog w) A (Builtin.Slice.sliceApplied (.ref sl) (pure (n:Int))) Q E s:=by
 obtain⟨os,hos,hcs,hds⟩:=id hs
 unfold Builtin.Slice.sliceApplied Builtin.Slice.sliceFields
 refine À (À (þ hos hds (x:=vl) rfl (À (þ hos hds (x:=vu) rfl (À (þ hos hds (x:=.none) rfl (Ç ?_)))))))
 refine À (slicePart_none ?_)
 show wpAny _ _ (if ((1:Int) == 0)=true then _ else _) _ _ s
 rw[if_neg (by decide)]
 refine À (mW pl (À (mW pu (À (Ç ?_)))))
 show wpAny _ _ (match ś lo hi 1 (n:Int) with|(lo,hi)=>pure (lo,(1:Int),į lo hi 1)) _ _ s
 rw[wK lo hi n]
 show wpAny _ _ (pure (((sIx n 0 lo:Nat):Int),(1:Int),į ((sIx n 0 lo:Nat):Int) ((sIx n n hi:Nat):Int) 1)) _ _ s
 rw[vD]
 exact Ç h
def BJ(xs:Array Value)(i k:Nat):((Ø k).filterMap λ(m:Nat)=>xs[((i:Int)+(m:Int) * 1).toNat]?).toArray=((xs.toList.drop i).take k).toArray:=by
 have e:(λ(m:Nat)=>xs[((i:Int)+(m:Int) * 1).toNat]?)=λm=>xs[i+m]?:=by
  funext m
  have:((i:Int)+(m:Int) * 1).toNat=i+m:=by omega
  rw[this]
 rw[e]
 have:=pick_run xs i k
 rw[List.filterMap_map] at this
 have e2:((λx=>xs[x]?) ∘ λx=>i+x)=λm=>xs[i+m]?:=rfl
 rw[e2] at this
 rw[this]
def j4{t sl:Addr}{items:Array Value}{vl vu:Value}{lo hi:Option Int}{Q:Value->Shared->Prop}(ht:IsTup s.heap t items)(hs:s.heap.IsSliceOf sl vl vu .none)(pl:IsPart vl lo)(pu:IsPart vu hi)(hw:¬(sIx items.size 0 lo=0/\sIx items.size items.size hi=items.size))(h:Q (.ref s.heap.objs.size) { s with heap:=s.heap.push { cls:=.type "tuple",data:=.seq ((items.toList.drop (sIx items.size 0 lo)).take (sIx items.size items.size hi - sIx items.size 0 lo)).toArray } })(hsz:items.size<=sizeLine):wpAny (model prog w) A (getItem (.ref t) (.ref sl)) Q E s:=by
 have htake:sizeOk (.seq ((items.toList.drop (sIx items.size 0 lo)).take (sIx items.size items.size hi - sIx items.size 0 lo)).toArray):=by
  show((items.toList.drop (sIx items.size 0 lo)).take (sIx items.size items.size hi - sIx items.size 0 lo)).toArray.size<=sizeLine
  rw[Ë,Ĕ,ā,Ă]
  omega
 have hj:sIx items.size items.size hi<=items.size:=Jf _ _ (Æ _) hi
 obtain⟨os,hos,hcs,hds⟩:=id hs
 have hTs:s.TypeIs (.ref sl) "slice":=⟨os,hos,hcs⟩
 unfold getItem
 try with_reducible refine ŧ ?_
 first|refine À (Ç ?_)|skip
 refine À (wpAny_sequenceKey ht.typeIs (by decide) ?_)
 refine À (Į (name:=á "__getitem__") ht.typeIs PyProof.Rows.slot_tuple_getitem
  (Ņ PyProof.Rows.slot_tuple_getitem ht.typeIs entry_tuple_getitem ?_ (args_tuple_getitem _ _)))
 show wpAny _ _ (Builtin.Tuple.tupleItemsOf (.ref t) >>= _) _ _ s
 refine À (tupleItemsOf_ ht ?_)
 refine À (wpAny_typeOf hTs ?_)
 rw[if_pos (by decide)]
 refine À (kE hs pl pu ?_)
 have hno:¬((((sIx items.size 0 lo:Nat):Int) == 0&&(1:Int) == 1&&(sIx items.size items.size hi - sIx items.size 0 lo) == items.size)=true):=by
  intro q
  rw[â,â] at q
  have q1:((sIx items.size 0 lo:Nat):Int)=0:=eq_of_beq q.1.1
  have q2:sIx items.size items.size hi - sIx items.size 0 lo=items.size:=eq_of_beq q.2
  exact hw ⟨by omega,by omega⟩
 show wpAny _ _ (if (((sIx items.size 0 lo:Nat):Int) == 0&&(1:Int) == 1&&(sIx items.size items.size hi - sIx items.size 0 lo) == items.size)=true then _ else _) _ _ s
 rw[if_neg hno,BJ]
 first
  |exact À (m:=Ĵ _) (ě (Ç ⟨_,rfl,Ç h⟩) htake)
  |exact À (m:=Ĵ _) (ě (À (Ç (Ç ⟨_,rfl,Ç h⟩))) htake)
  |exact À (À (m:=Ĵ _) (ě (Ç (Ç ⟨_,rfl,Ç h⟩)) htake))
  |exact À (À (m:=Ĵ _) (ě (Ç ⟨_,rfl,Ç h⟩) htake))
end
end HT
namespace L2
open PySem PySem.Spec PyProof.Rows
abbrev TO:=St->Hp->(Option Int->Hp->Prop)->Prop
def PO(X:Cx)(e:Option Expr)(t:TO):Prop :=
 ∀(pins:List (Addr×Obj)) (s:Shared) (σ:St) (H:Hp) (Q:Option Int->Hp->Prop),Inv X pins σ H s->t σ H Q ->
  wpAny (model X.prog X.w) X.A (evalPart e X.env) (λu s'=>∃o H',Inv X pins σ H' s'/\IsPart u o/\Q o H') X.xe s
def Fw:TO:=λ_ H Q=>Q none H
def Lp(t:TE):TO:=λσ H Q=>t σ H λx H1=>∃i,x=.int i/\Q (some i) H1
def intsAre_of{ns:List Int}:∀{us:List Value},Vals (ns.map V.int) us->IntsAre us ns:=by
 induction ns with
 |nil=>intro us r;rw[List.map_nil] at r;cases r;exact .nil
 |cons n ns ih =>
  intro us r
  rw[Ą] at r
  cases r with
  |cons r1 r2 =>
   obtain⟨t,e⟩:=r1
   subst e
   exact .cons n t (ih r2)
section
variable {X:Cx}{e:Expr}{te:TE}{lo hi:Option Expr}{tl th:TO}{pos p2:Pos}
def qK:PO X none Fw:=by
 intro pins s σ H Q I h
 rw[evalPart_none]
 exact Ç ⟨none,H,I,.none,h⟩
def qJ(h:PE X e te):PO X (some e) (Lp te):=by
 intro pins s σ H Q I hw
 rw[evalPart_some]
 refine thn (h pins s σ H _ I hw) λu s1 ⟨x,H1,I1,r1,q1⟩=>?_
 obtain⟨i,rfl,q⟩:=q1
 obtain⟨t,rfl⟩:=r1
 exact⟨some i,H1,I1,.int i t,q⟩
def SlR(X:Cx)(r:V->Option Int->Option Int->Hp->VK->Prop):Prop :=
 ∀(pins:List (Addr×Obj)) (s:Shared) (σ:St) (H:Hp) (x:V) (v vl vu:Value) (lo hi:Option Int) (sl:Addr) (Q:VK),Inv X pins σ H s->RelV x v->s.heap.IsSliceOf sl vl vu .none->IsPart vl lo->IsPart vu hi->r x lo hi H Q ->
  ∃T id,typeLookup (.type T) "__getitem__"=pure (some (.builtin id))/\s.TypeIs v T/\wpAny (model X.prog X.w) X.A (getItem v (.ref sl)) (EP X pins σ Q) X.xe s
def SlR.or{r r':V->Option Int->Option Int->Hp->VK->Prop}(h:SlR X r)(h':SlR X r'):SlR X (λx lo hi H Q=>r x lo hi H Q\/r' x lo hi H Q):=by
 intro pins s σ H x v vl vu lo hi sl Q I rx hs pl pu q
 rcases q with q|q
 ·exact h pins s σ H x v vl vu lo hi sl Q I rx hs pl pu q
 ·exact h' pins s σ H x v vl vu lo hi sl Q I rx hs pl pu q
def tSl(r:V->Option Int->Option Int->Hp->VK->Prop)(te:TE)(tl th:TO):TE:=λσ H Q=>te σ H λx H1=>tl σ H1 λl H2=>th σ H2 λu H3=>r x l u H3 Q
def nq{r:V->Option Int->Option Int->Hp->VK->Prop}(hr:SlR X r)(he:PE X e te)(hl:PO X lo tl)(hu:PO X hi th):PE X (.Subscript e (.Slice lo hi none p2) pos) (tSl r te tl th):=by
 intro pins s σ H Q I h
 refine Subscript_ (thn (he pins s σ H _ I h) λv s1 ⟨x,H1,I1,r1,q1⟩=>?_)
 refine wpAny_Slice (thn (hl pins s1 σ H1 _ I1 q1) λvl s2 ⟨l,H2,I2,pl,q2⟩=>thn (hu pins s2 σ H2 _ I2 q2) λvu s3 ⟨u,H3,I3,pu,q3⟩=>?_)
 rw[evalPart_none]
 refine Ç ?_
 have I4:Inv X pins σ H3 { s3 with heap:=s3.heap.push { cls:=.type "slice",data:=.fields #[vl,vu,.none] } }:=I3.kept (t':=s3.toks) λb ob q=>Ä _ q
 obtain⟨T,id,hT,ht,hg⟩:=hr pins { s3 with heap:=s3.heap.push { cls:=.type "slice",data:=.fields #[vl,vu,.none] } } σ H3 x v vl vu l u s3.heap.objs.size Q I4 r1 (Heap.IsSliceOf.new ..) pl pu q3
 show wpAny (model X.prog X.w) X.A (subscriptTail e (.Slice lo hi none p2) v (.ref s3.heap.objs.size)) (EP X pins σ Q) X.xe { s3 with heap:=s3.heap.push { cls:=.type "slice",data:=.fields #[vl,vu,.none] } }
 exact tail_any (ops:=[.ref s3.heap.objs.size,v]) ht hT hg (by with_unfolding_all rfl)
def jE(xs:List V)(lo hi:Option Int):List V:=(xs.drop (HT.sIx xs.length 0 lo)).take (HT.sIx xs.length xs.length hi - HT.sIx xs.length 0 lo)
def lR(xs:List V)(lo hi:Option Int):(jE xs lo hi).length<=xs.length:=by
 unfold jE
 rw[Ĕ,ā]
 omega
def Ov(K:Ê):V->Option Int->Option Int->Hp->VK->Prop:=λx lo hi H Q=>∃a xs,x=.ref a/\SqT K H a xs /\
 ¬(HT.sIx xs.length 0 lo=0/\HT.sIx xs.length xs.length hi=xs.length)/\∀p,H p=none->Q (.ref p) (upd H p (.tup (jE xs lo hi)))
def Jb:SlR X (Ov X.K):=by
 intro pins s σ H x v vl vu lo hi sl Q I rx hs pl pu h
 obtain⟨a,xs,rfl,hx,hw,q⟩:=h
 cases rx
 obtain⟨its,r,ht,hz⟩:=I.tuple hx
 have hlen:its.toArray.size=xs.length:=by rw[Ë];exact r.length.symm
 refine⟨"tuple",_,PyProof.Rows.slot_tuple_getitem.lookup,ht.typeIs,?_⟩
 refine HT.j4 ht hs pl pu (by rw[hlen];exact hw) ?_ (by rw[hlen];exact hz)
 rw[hlen]
 refine⟨.ref s.heap.objs.size,_,I.laid (t':=s.toks) (o:=.tup (jE xs lo hi)) (λb ob q=>Ä _ q) (Æ _) ?_,rfl,q _ (I.hok.fresh (Æ _))⟩
 exact⟨ô (lR xs lo hi) hz,_,(r.drop (HT.sIx xs.length 0 lo)).take (HT.sIx xs.length xs.length hi - HT.sIx xs.length 0 lo),IsTup.new _ _⟩
def Mv(K:Ê):R2:=λx y H Q=>∃a b xs ys,x=.ref a/\y=.ref b/\SqT K H a xs/\SqT K H b ys/\xs≠[]/\xs.length+ys.length<=sizeLine /\
 (ys=[]->Q (.ref a) H)/\(ys≠[]->∀p,H p=none->Q (.ref p) (upd H p (.tup (xs++ys))))
def Vals.rA{xs:List V}{us:List Value}(r:Vals xs us):us=[]↔xs=[]:=by
 cases r with
 |nil=>simp
 |cons _ _=>simp
def Gn:OpR X (binaryOp .Add) (Mv X.K):=by
 intro pins s σ H x y v u Q I rx ry h
 obtain⟨a,b,xs,ys,rfl,rfl,ha,hb,hx,hz,q1,q2⟩:=h
 cases rx
 cases ry
 obtain⟨its,r1,p1,_⟩:=I.tuple ha
 obtain⟨its2,r2,p2,_⟩:=I.tuple hb
 refine HT.Hs p1 p2 (λz=>hx (r1.rA.mp z)) (λz=>⟨.ref a,H,I,rfl,q1 (r2.rA.mp z)⟩) (λz=>?_) (by rw[←r1.length,←r2.length];exact hz)
 refine⟨.ref s.heap.objs.size,_,I.laid (t':=s.toks) (o:=.tup (xs++ys)) (λb ob q=>Ä _ q) (Æ _) ?_,rfl,q2 (λw=>z (r2.rA.mpr w)) _ (I.hok.fresh (Æ _))⟩
 exact⟨by rw[Ð];exact hz,_,r1.append r2,IsTup.new _ _⟩
end
def ixN(n:Nat)(i:Int):Option Nat:=if 0<=i then (if i<n then some i.toNat else none) else if -(n:Int)<=i then some (i+n).toNat else none
def atI{α:Type}(xs:List α)(i:Int):Option α:=(ixN xs.length i).bind λj=>xs[j]?
def G8{n:Nat}{i:Int}{j:Nat}(h:ixN n i=some j):seqIndex? i n=some j/\j<n/\-(n:Int)<=i/\i<n:=by
 unfold ixN at h
 by_cases h0:0<=i
 ·rw[if_pos h0] at h
  by_cases h1:i<n
  ·rw[if_pos h1] at h
   have e:i.toNat=j:=Ò h
   exact⟨by rw[seqIndex_of h0 h1,e],by omega,by omega,h1⟩
  ·rw[if_neg h1] at h;cases h
 ·rw[if_neg h0] at h
  by_cases h1:-(n:Int)<=i
  ·rw[if_pos h1] at h
   have e:(i+n).toNat=j:=Ò h
   exact⟨by rw[seqIndex_neg (by omega) h1,e],by omega,h1,by omega⟩
  ·rw[if_neg h1] at h;cases h
def yc{α:Type}{xs:List α}{i:Int}{v:α}(h:atI xs i=some v):∃j,seqIndex? i xs.length=some j/\xs[j]?=some v/\j<xs.length/\-(xs.length:Int)<=i/\i<xs.length:=by
 unfold atI at h
 cases e:ixN xs.length i with
 |none=>rw[e] at h;cases h
 |some j =>
  rw[e] at h
  obtain⟨h1,h2,h3,h4⟩:=G8 e
  exact⟨j,h1,h,h2,h3,h4⟩
def j9{α:Type}{xs:List α}{j:Nat}{v:α}(h:xs[j]?=some v):atI xs (j:Int)=some v:=by
 have hj:j<xs.length:=(Ù.mp h).1
 have e:ixN xs.length (j:Int)=some j:=by
  unfold ixN
  rw[if_pos (by omega),if_pos (by omega)];simp
 unfold atI;rw[e];exact h
def sH(b:Expr):Prop:=∀o i,subscripted b false o i=operate [o,i] (getItem o i)
def IxR(X:Cx)(r:R2):Prop :=
 ∀(value slice:Expr) (pins:List (Addr×Obj)) (s:Shared) (σ:St) (H:Hp) (x y:V) (v u:Value) (Q:VK),Inv X pins σ H s->RelV x v->RelV y u->r x y H Q ->
  subscripted slice false v u=operate [v,u] (getItem v u)->wpAny (model X.prog X.w) X.A (subscriptTail value slice v u) (EP X pins σ Q) X.xe s
def MtR(X:Cx)(id:String)(r:V->List V->Hp->VK->Prop):Prop :=
 ∀(pins:List (Addr×Obj)) (s:Shared) (σ:St) (H:Hp) (x:V) (xs:List V) (v:Value) (us:List Value) (Q:VK),Inv X pins σ H s->RelV x v->Vals xs us->r x xs H Q ->
  wpAny (model X.prog X.w) X.A (call (.builtin id) (v::us)) (EP X pins σ Q) X.xe s
section
variable {X:Cx}{a b:Expr}{ta tb:TE}{pos:Pos}
def IxR.or{r r':R2}(h:IxR X r)(h':IxR X r'):IxR X (λx y H Q=>r x y H Q\/r' x y H Q):=by
 intro value slice pins s σ H x y v u Q I rx ry q hs
 rcases q with q|q
 ·exact h value slice pins s σ H x y v u Q I rx ry q hs
 ·exact h' value slice pins s σ H x y v u Q I rx ry q hs
def BX{r:R2}(hr:IxR X r)(ha:PE X a ta)(hb:PE X b tb)(hs:sH b):PE X (.Subscript a b pos) (tOp r ta tb):=by
 intro pins s σ H Q I h
 exact Subscript_ (La ha hb I h λv u s2 x y H2 I2 rx ry q=>hr a b pins s2 σ H2 x y v u Q I2 rx ry q (hs _ _))
def OD(K:Ê):R2:=λx y H Q=>∃p xs i v,x=.ref p/\y=.int i/\SqL K H p xs/\atI xs i=some v/\Q v H
def Oz(K:Ê):R2:=λx y H Q=>∃p xs i v,x=.ref p/\y=.int i/\SqT K H p xs/\atI xs i=some v/\Q v H
def rD:IxR X (OD X.K):=by
 intro value slice pins s σ H x y v u Q I rx ry h hs
 obtain⟨p,xs,i,z,rfl,rfl,hq,he,q⟩:=h
 cases rx
 obtain⟨t,rfl⟩:=ry
 obtain⟨its,r,pl,hz⟩:=I.list hq
 obtain⟨j,h1,h2,h3,h4,h5⟩:=yc he
 obtain⟨w,ew,rw'⟩:=r.get h2
 have hl:=r.length
 have hn:=vQ
 have fin:EP X pins σ Q w s:=⟨z,H,I,rw',q⟩
 by_cases h0:0<=i
 ·have hj:i.toNat=j:=by
   rw[seqIndex_of h0 h5] at h1
   exact Ò h1
  exact item_listR pl.isList h0 (by omega) (by rw[hj];simpa using ew) fin hs
 ·have hj:(i+(its.toArray.size:Int)).toNat=j:=by
   rw[seqIndex_neg (by omega) h4] at h1
   rw[Ë,←hl]
   exact Ò h1
  exact subscriptTail_builtinR (x:=w) pl.isList.typeIs slot_list_getitem.lookup
   (wpAny_getItem_list_neg (Q:=λr s'=>r=w/\EP X pins σ Q r s') pl.isList (by omega) (by rw[Ë] <;> omega) (by omega) (by rw[hj];simpa using ew) ⟨rfl,fin⟩) hs
def Kg:IxR X (Oz X.K):=by
 intro value slice pins s σ H x y v u Q I rx ry h hs
 obtain⟨p,xs,i,z,rfl,rfl,hq,he,q⟩:=h
 cases rx
 obtain⟨t,rfl⟩:=ry
 obtain⟨its,r,pl,hz⟩:=I.tuple hq
 obtain⟨j,h1,h2,h3,h4,h5⟩:=yc he
 obtain⟨w,ew,rw'⟩:=r.get h2
 have hl:=r.length
 have hn:=vQ
 have fin:EP X pins σ Q w s:=⟨z,H,I,rw',q⟩
 exact subscriptTail_builtinR (x:=w) pl.typeIs slot_tuple_getitem.lookup
  (getItem_tuple (j:=j) (Q:=λr s'=>r=w/\EP X pins σ Q r s') pl (by omega) (by omega) (by rw[Ë,←hl];exact h1) (by simpa using ew) ⟨rfl,fin⟩) hs
def qz(lo hi:Option Int)(n:Nat):(sliceBounds lo hi none n).1=((HT.sIx n 0 lo:Nat):Int)/\(sliceBounds lo hi none n).2.1=((HT.sIx n n hi:Nat):Int)/\(sliceBounds lo hi none n).2.2=1:=by
 refine⟨?_,?_,rfl⟩
 ·cases lo with
  |none=>simp[sliceBounds,HT.sIx]
  |some i =>
   simp only[sliceBounds,HT.sIx,Option.getD_none,show(1:Int) > 0 by decide,if_true]
   by_cases h:i<0
   ·simp only[h,if_true] <;> omega
   ·simp only[h,if_false] <;> omega
 ·cases hi with
  |none=>simp[sliceBounds,HT.sIx]
  |some i =>
   simp only[sliceBounds,HT.sIx,Option.getD_none,show(1:Int) > 0 by decide,if_true]
   by_cases h:i<0
   ·simp only[h,if_true] <;> omega
   ·simp only[h,if_false] <;> omega
def oV(its:List Value)(lo hi:Option Int):slicePick its.toArray lo hi none=((its.drop (HT.sIx its.length 0 lo)).take (HT.sIx its.length its.length hi - HT.sIx its.length 0 lo)).toArray:=by
 obtain⟨h1,h2,h3⟩:=qz lo hi its.toArray.size
 unfold slicePick
 rw[h1,h2,h3]
 simp only[sliceRange_one,pick_run,Ë] <;> rfl
def Ow(K:Ê):V->Option Int->Option Int->Hp->VK->Prop:=λx lo hi H Q=>∃a xs,x=.ref a/\SqL K H a xs/\∀p,H p=none->Q (.ref p) (upd H p (.lst (jE xs lo hi)))
def qC:SlR X (Ow X.K):=by
 intro pins s σ H x v vl vu lo hi sl Q I rx hs pl pu h
 obtain⟨a,xs,rfl,hx,q⟩:=h
 cases rx
 obtain⟨its,r,ht,hz⟩:=I.list hx
 have hlen:=r.length
 refine⟨"list",_,slot_list_getitem.lookup,ht.isList.typeIs,?_⟩
 refine wpAny_getItem_list_slice ht.isList hs pl pu .none (by simp) ?_ (by rw[Ë] <;> omega)
 rw[oV,←hlen]
 refine⟨.ref s.heap.objs.size,_,I.laid (t':=s.toks) (o:=.lst (jE xs lo hi)) (λb ob q=>Ä _ q) (Æ _) ?_,rfl,q _ (I.hok.fresh (Æ _))⟩
 exact⟨ô (lR xs lo hi) hz,_,0,(r.drop (HT.sIx xs.length 0 lo)).take (HT.sIx xs.length xs.length hi - HT.sIx xs.length 0 lo),Ô _ rfl⟩
def gR:aW X (.builtin "len") (λxs H Q=>∃p ys,xs=[.ref p]/\(SqL X.K H p ys\/SqT X.K H p ys)/\Q (.int ys.length) H):=by
 intro pins s σ H xs us Q I r h
 obtain⟨p,ys,rfl,hq,q⟩:=h
 obtain⟨u,rfl,rx⟩:=vals1 r
 cases rx
 have hn:=vQ
 rcases hq with hq|hq
 ·obtain⟨its,r',pl,hz⟩:=I.list hq
  have hlen:=r'.length
  exact Calls.call_len_list pl.isList (by simp only[Ë] <;> omega) ⟨.int ys.length,H,I.tok _,⟨s.toks+1,by rw[Ë,hlen]⟩,q⟩
 ·obtain⟨its,r',pl,hz⟩:=I.tuple hq
  have hlen:=r'.length
  exact len_tuple pl (by simp only[Ë] <;> omega) ⟨.int ys.length,H,I.tok _,⟨s.toks+1,by rw[Ë,hlen]⟩,q⟩
def rZ:aW X (.type "list") (λxs H Q=>∃p ys,xs=[.ref p]/\(SqL X.K H p ys\/SqT X.K H p ys)/\∀l,H l=none->Q (.ref l) (upd H l (.lst ys))):=by
 intro pins s σ H xs us Q I r h
 obtain⟨p,ys,rfl,hq,q⟩:=h
 obtain⟨u,rfl,rx⟩:=vals1 r
 cases rx
 have fin:∀(its:List Value),Vals ys its->ys.length<=sizeLine->∀(h':Heap) (c':Nat),(∀b o',s.heap.get? b=some o'->h'.get? b=some o') ->
   h'.get? s.heap.objs.size=some { cls:=.type "list",dict:=none,data:=.seq its.toArray c',slots:=#[] }->EP X pins σ Q (.ref s.heap.objs.size) { s with heap:=h' }:=λits r' hz h' c' kp e =>
  ⟨.ref s.heap.objs.size,_,I.laid (t':=s.toks) kp (Æ _) (show aM X.prog X.w _ h' _ (.lst ys) from⟨hz,its,c',r',e⟩),rfl,q _ (I.hok.fresh (Æ _))⟩
 rcases hq with hq|hq
 ·obtain⟨its,r',pl,hz⟩:=I.list hq
  have hlen:=r'.length
  obtain⟨o,ho,hc,n,hd⟩:=pl.isList
  exact call_list_seq p (.inl rfl) ho hc hd (λh' c' kp e=>fin its r' hz h' c' kp e) (by simp only[Ë] <;> omega)
 ·obtain⟨its,r',pl,hz⟩:=I.tuple hq
  have hlen:=r'.length
  obtain⟨o,ho,hc,n,hd⟩:=pl
  exact call_list_seq p (.inr rfl) ho hc hd (λh' c' kp e=>fin its r' hz h' c' kp e) (by simp only[Ë] <;> omega)
def pA:aW X (.type "tuple") (λxs H Q=>∃p ys,xs=[.ref p]/\((SqL X.K H p ys/\∀l,H l=none->Q (.ref l) (upd H l (.tup ys)))\/(SqT X.K H p ys/\Q (.ref p) H))):=by
 intro pins s σ H xs us Q I r h
 obtain⟨p,ys,rfl,h⟩:=h
 obtain⟨u,rfl,rx⟩:=vals1 r
 cases rx
 rcases h with ⟨hq,q⟩|⟨hq,q⟩
 ·obtain⟨its,r',pl,hz⟩:=I.list hq
  have hlen:=r'.length
  refine call_tuple_list pl.isList (λh' kp=>?_) (by simp only[Ë] <;> omega)
  have I1:Inv X pins σ H { s with heap:=h' }:=I.kept (t':=s.toks) kp
  have I2:Inv X pins σ (upd H h'.objs.size (.tup ys)) { s with heap:=h'.push { cls:=.type "tuple",data:=.seq its.toArray } } :=
   I1.laid (t':=s.toks) (λb o e=>Ä _ e) (Æ _) (show aM X.prog X.w _ _ _ (.tup ys) from⟨hz,its,r',IsTup.new _ _⟩)
  exact⟨.ref h'.objs.size,_,I2,rfl,q _ (I1.hok.fresh (Æ _))⟩
 ·obtain⟨its,r',pl,hz⟩:=I.tuple hq
  exact call_tuple_same pl ⟨.ref p,H,I,rfl,q⟩
def tyV(K:Ê)(T:String)(x:V)(H:Hp):Prop:=match x with
 |.str _=>T="str"
 |.int _=>T="int"
 |.ref p=>(T="list"/\∃xs,SqL K H p xs)\/(T="tuple"/\∃o,K.lookup p=some o/\o.cls=.type "tuple"/\o.dict=none) ∨
   (T="dict"/\((∃kvs,H p=some (.dK kvs))\/∃kvs,H p=some (.dT kvs)))\/(T="set"/\∃S n,H p=some (.set S n))
 |_=>False
def Ir{pins:List (Addr×Obj)}{σ:St}{H:Hp}{s:Shared}{T:String}{x:V}{v:Value}(I:Inv X pins σ H s)(r:RelV x v)(ty:tyV X.K T x H) :
  s.TypeIs v T/\∀a,v=.ref a->∃ob,s.heap.get? a=some ob/\ob.dict=none:=by
 cases x with
 |str z =>
  obtain⟨t,rfl⟩:=r
  cases (show T="str" from ty)
  exact⟨typeIs_str s z t,λ_ e=>nomatch e⟩
 |int i =>
  obtain⟨t,rfl⟩:=r
  cases (show T="int" from ty)
  exact⟨typeIs_int s i t,λ_ e=>nomatch e⟩
 |ref p =>
  cases r
  rcases ty with ⟨rfl,xs,hq⟩|⟨rfl,o,hk,hc,hd⟩|⟨rfl,hk⟩|⟨rfl,S,n,hk⟩
  ·obtain⟨its,_,pl,_⟩:=I.list hq
   refine⟨pl.isList.typeIs,λa e=>?_⟩
   cases e
   obtain⟨o,n,e,c,hd,_⟩:=pl
   exact⟨o,e,hd⟩
  ·refine⟨⟨o,I.kIn p o hk,hc⟩,λa e=>?_⟩
   cases e
   exact⟨o,I.kIn _ o hk,hd⟩
  ·have z:∃o,s.heap.get? p=some o/\o.ExactDict:=by
    rcases hk with ⟨kvs,hk⟩|⟨kvs,hk⟩
    ·obtain⟨_,_,_,_,o,_,_,e,ex,_⟩:=I.hok p _ hk
     exact⟨o,e,ex⟩
    ·obtain⟨_,_,_,_,o,_,_,e,ex,_⟩:=I.hok p _ hk
     exact⟨o,e,ex⟩
   obtain⟨o,e,ex⟩:=z
   refine⟨⟨o,e,ex.1⟩,λa e2=>?_⟩
   cases e2
   exact⟨o,e,ex.2.1⟩
  ·obtain⟨o,_,_,_,e,ex,_⟩:=I.hok p _ hk
   refine⟨⟨o,e,ex.1⟩,λa e2=>?_⟩
   cases e2
   exact⟨o,e,ex.2.1⟩
 |_=>exact ø ty
def tBM(K:Ê)(T:String)(r:V->List V->Hp->VK->Prop)(to:TE)(t:TA):TE:=λσ H Q=>to σ H λx H1=>tyV K T x H1/\t σ H1 λxs H2=>r x xs H2 Q
variable {o e:Expr}{es:List Expr}{to:TE}{t:TA}{name:Str}{apos cpos:Pos}{T id:String}{r:V->List V->Hp->VK->Prop}
def tu(pa:PlainAttrs T)(slot:Slot T name id)(hty:typeOf (.builtin id)=pure (.type "method_descriptor"))(hm:MtR X id r)(ho:PE X o to)(ha:PA X (e::es) t)(hbase:attributeBase o name X.env (eval o X.env)=eval o X.env:=by rfl)(hfew:((backTo cpos (starEach (e::es) X.env)).all (λx=>!x.1)&&(backToKw cpos (keywordEach [] X.env)).all (λx=>x.1.isSome)
  &&decide ((e::es).length+([]:List Keyword).length+(if ([]:List Keyword).isEmpty then 0 else 1)<30))=true:=by rfl)(hline:(apos.endLine == cpos.line)=true:=by rfl)(hs:starEach (e::es) X.env=(false,eval e X.env)::starEach es X.env:=by rfl)(hplain:(backTo cpos (starEach es X.env)).any (·.1)=false:=by rfl) :
  PE X (.Call (.Attribute o name apos) (e::es) [] cpos) (tBM X.K T r to t):=by
 intro pins s σ H Q I h
 refine wpAny_Call_method_late hbase hfew hline rfl (thn (ho pins s σ H _ I h) λv s1 ⟨x,H1,I1,r1,ty,q1⟩=>?_)
 obtain⟨h1,h2⟩:=Ir I1 r1 ty
 refine⟨T,id,pa,slot,hty,h1,h2,?_⟩
 have hA:=ha cpos pins s1 σ H1 _ I1 q1
 rw[hs] at hA ⊢
 refine Calls.callWith_builtin (by show(false || (backTo cpos (starEach es X.env)).any (·.1))=false;rw[hplain] <;> rfl) (Calls.evalArgs_plain ?_)
 exact thn hA λus s2 ⟨vs,H2,I2,r2,q2⟩=>hm pins s2 σ H2 x vs v us Q I2 r1 r2 q2
/- xs.append(e),list.index on a module's tuple .. are MtR facts of 06m -/
end
def MtM(X:Cx)(id:String)(r:V->List V->Hp->VK->Prop):Prop :=
 ∀(pins:List (Addr×Obj)) (s:Shared) (σ:St) (H:Hp) (x:V) (xs:List V) (v:Value) (us:List Value) (Q:VK),Inv X pins σ H s->RelV x v->Vals xs us->r x xs H Q ->
  wpAny (model X.prog X.w) X.A (call (.builtin id) (v::us)) (EP X pins σ Q) X.xe s
def Vals.one:∀{x:V}{us:List Value},Vals [x] us->∃u,us=[u]/\RelV x u
 |_,_,.cons r .nil=>⟨_,rfl,r⟩
def Vals.two:∀{x y:V}{us:List Value},Vals [x,y] us->∃u v,us=[u,v]/\RelV x u/\RelV y v
 |_,_,_,.cons r (.cons q .nil)=>⟨_,_,rfl,r,q⟩
def Vals.rep{xs:List V}{us:List Value}(h:Vals xs us):∀k:Nat,Vals (È k xs).flatten (È k us).flatten
 |0=>.nil
 |k+1=>by
  rw[ĉ,ĉ,Ķ,Ķ]
  exact Vals.append h (Vals.rep h k)
def foldl_rep(its:List Value):∀(k:Nat) (acc:List Value),
  List.foldl (λx1 x2=>x1++x2) acc.toArray (È k its.toArray)=(acc++(È k its).flatten).toArray
 |0,acc=>by simp
 |k+1,acc=>by
  have e:acc.toArray++its.toArray=(acc++its).toArray:=by simp
  have e2:(acc++its)++(È k its).flatten=acc++(È (k+1) its).flatten:=by
   rw[ĉ,Ķ,List.append_assoc]
  rw[←e2,←foldl_rep its k (acc++its),←e,ĉ,List.foldl_cons]
section
variable {X:Cx}{pins:List (Addr×Obj)}{σ:St}{H:Hp}{s:Shared}{l b:Addr}{xs ys zs:List V}
def Inv.JZ{its its':List Value}{n:Nat}{f:Array Value->Array Value}{t':Nat}(I:Inv X pins σ H s)(hH:H l=some (.lst xs))(e:s.heap.get? l=some { cls:=.type "list",data:=.seq its.toArray n })(hf:f its.toArray=its'.toArray)(hv:Vals ys its')(hz:ys.length<=sizeLine) :
  Inv X pins σ (upd H l (.lst ys)) { s with heap:=s.heap.update l (ò f),toks:=t' }:=by
 have q:=PySem.IsL.update e f
 rw[hf] at q
 refine I.write (x:=l) (e:=l) (by rw[hH];exact trivial) (.inl rfl) (λb' u hb hu=>(Ĝ s.heap (ò f) (é hb)).trans hu) ⟨_,q⟩ ?_
 exact⟨hz,its',_,hv,q⟩
def Inv.Nm{its:List Value}{t':Nat}(I:Inv X pins σ H s)(hv:Vals ys its)(hz:ys.length<=sizeLine) :
  Inv X pins σ (upd H s.heap.objs.size (.lst ys)) { s with heap:=s.heap.push { cls:=.type "list",data:=.seq its.toArray },toks:=t' } :=
 I.laid (λ_ _ q=>Ä _ q) (Æ _) ⟨hz,its,0,hv,Ô _ rfl⟩
def Inv.fresh(I:Inv X pins σ H s):H s.heap.objs.size=none:=I.hok.fresh (Æ _)
def Inv.vO(I:Inv X pins σ H s)(hH:H l=some (.lst xs)):xs.length<=sizeLine/\∃(its:List Value) (n:Nat),Vals xs its/\xs.length=its.length/\s.heap.get? l=some { cls:=.type "list",data:=.seq its.toArray n }:=by
 obtain⟨z,its,n,r,e⟩:=I.hok l _ hH
 exact⟨z,its,n,r,r.length,e⟩
def tO{n:Nat}(h:n<=sizeLine):ķ n=false:=by
 unfold ķ
 exact decide_eq_false (by omega)
end
section
variable {X:Cx}
def wX:V->List V->Hp->VK->Prop:=λx vs H Q=>∃l xs y,x=.ref l/\vs=[y]/\H l=some (.lst xs)/\xs.length<sizeLine/\Q .non (upd H l (.lst (xs++[y])))
def lE:MtM X "list.append" wX:=by
 intro pins s σ H x vs v us Q I rx rv h
 obtain⟨l,xs,y,rfl,rfl,hH,hz,q⟩:=h
 cases rx
 obtain⟨u,rfl,ru⟩:=rv.one
 obtain⟨z,its,n,r,hl,e⟩:=I.vO hH
 refine call_meets F.slot_list_append ⟨_,e,rfl⟩ F.entry_list_append (F.args_list_append_2 _ _) (PySem.list_append l its.toArray n u (by rw[Ë];omega)) ⟨e,?_⟩
 refine⟨.non,_,I.JZ (its':=its++[u]) hH e (by simp) (r.append (.cons ru .nil)) ?_,rfl,q⟩
 rw[Ð,í]
 omega
def FW:V->List V->Hp->VK->Prop:=λx vs H Q=>∃l b xs zs,x=.ref l/\vs=[.ref b]/\H l=some (.lst xs)/\H b=some (.lst zs)/\xs.length+zs.length<=sizeLine/\Q .non (upd H l (.lst (xs++zs)))
def Lf:MtM X "list.extend" FW:=by
 intro pins s σ H x vs v us Q I rx rv h
 obtain⟨l,b,xs,zs,rfl,rfl,hH,hB,hz,q⟩:=h
 cases rx
 obtain⟨u,rfl,ru⟩:=rv.one
 cases ru
 obtain⟨z,its,n,r,hl,e⟩:=I.vO hH
 obtain⟨z2,its2,n2,r2,hl2,e2⟩:=I.vO hB
 have hsz:its.toArray.size+its2.toArray.size<=sizeLine:=by rw[Ë,Ë];omega
 have hlong:¬(!its.toArray.isEmpty&&ķ (its.toArray.size+its2.toArray.size))=true:=by
  rw[tO hsz,Bool.and_false]
  exact Î
 refine call_meets F.slot_list_extend ⟨_,e,rfl⟩ F.entry_list_extend (F.args_list_extend_2 _ _)
  (AutoSeq1.list_extend_list_list_0 l its.toArray n b its2.toArray n2 hlong (by rw[Ë];omega) (by omega)) ⟨e,e2,?_⟩
 refine⟨.non,_,I.JZ (its':=its++its2) hH e (by simp) (r.append r2) ?_,rfl,q⟩
 rw[Ð]
 omega
def Mw:R2:=λx y H Q=>∃l b xs zs,x=.ref l/\y=.ref b/\H l=some (.lst xs)/\H b=some (.lst zs)/\xs.length+zs.length<=sizeLine/\∀p,H p=none->Q (.ref p) (upd H p (.lst (xs++zs)))
def JF:OpR X (binaryOp .Add) Mw:=by
 intro pins s σ H x y v u Q I rx ry h
 obtain⟨l,b,xs,zs,rfl,rfl,hH,hB,hz,q⟩:=h
 cases rx
 cases ry
 obtain⟨z,its,n,r,hl,e⟩:=I.vO hH
 obtain⟨z2,its2,n2,r2,hl2,e2⟩:=I.vO hB
 refine PySem.P.add_list e e2 ?_ (by rw[Ë,Ë];omega)
 have ea:its.toArray++its2.toArray=(its++its2).toArray:=by simp
 rw[ea]
 exact⟨.ref _,_,I.Nm (t':=s.toks) (r.append r2) (by rw[Ð];omega),rfl,q _ I.fresh⟩
def Mt:R2:=λx y H Q=>∃l k xs,x=.ref l/\y=.int k/\H l=some (.lst xs)/\-(2 ^ 63)<=k/\k<2 ^ 63/\xs.length * k.toNat<=sizeLine /\
 ∀p,H p=none->Q (.ref p) (upd H p (.lst (È k.toNat xs).flatten))
def len_rep{α:Type}(xs:List α)(k:Nat):(È k xs).flatten.length=k * xs.length:=by
 induction k with
 |zero=>simp
 |succ k ih=>rw[ĉ,Ķ,Ð,ih,Nat.succ_mul,Nat.add_comm]
def JB:OpR X (binaryOp .Mult) Mt:=by
 intro pins s σ H x y v u Q I rx ry h
 obtain⟨l,k,xs,rfl,rfl,hH,h1,h2,hz,q⟩:=h
 cases rx
 obtain⟨t,rfl⟩:=ry
 obtain⟨z,its,n,r,hl,e⟩:=I.vO hH
 have hlen:its.toArray.size * k.toNat<=sizeLine:=by rw[Ë,←hl];exact hz
 have hcap:¬its.toArray.size * k.toNat > (2 ^ 63 - 1) / 8:=by
  have:(sizeLine:Nat)<=(2 ^ 63 - 1) / 8:=by decide
  omega
 have hfit:¬(!Builtin.List.listFitsIndex k)=true:=by
  rw[fitsIndex_both h1 h2]
  exact Î
 have hlong:¬ķ (its.toArray.size * k.toNat)=true:=by
  rw[tO hlen]
  exact Î
 have hnew:List.foldl (λx1 x2=>x1++x2) #[] (È (if its.toArray.isEmpty=true then 0 else k.toNat) its.toArray)=(È k.toNat its).flatten.toArray:=by
  have f0:∀m:Nat,List.foldl (λx1 x2=>x1++x2) #[] (È m its.toArray)=(È m its).flatten.toArray:=λm=>by
   have:=foldl_rep its m []
   rw[List.nil_append] at this
   exact this
  rw[f0]
  cases its with
  |nil=>simp
  |cons a r'=>rw[if_neg (by simp)]
 refine wpAny_binaryOp_repeat_ref (T:="list") (U:="int") (by decide) ⟨_,e,rfl⟩ (λs'=>typeIs_int s' k t) noFill_list_mul F.fills_int_mul F.slot_int_rmul repeat_list F.slot_int_index.lookup
  (call_meets F.slot_int_rmul (typeIs_int s k t) F.entry_int_rmul (F.args_int_rmul_2 _ _) (int___rmul___int_list k t l its.toArray n)
   ⟨e,rfl,⟨_,e,rfl⟩,call_meets F.slot_list_mul ⟨_,e,rfl⟩ F.entry_list_mul (F.args_list_mul_2 _ _) (AutoListH.list___mul___list_int_3 l its.toArray n k t hfit hcap hlong) ⟨e,?_⟩⟩)
 rw[hnew]
 exact⟨.ref _,_,I.Nm (t':=s.toks) (r.rep k.toNat) (by rw[len_rep,Nat.mul_comm];exact hz),rfl,q _ I.fresh⟩
end
section
variable {prog:Program}{w:World}{A:Around}{E:Value->Shared->Prop}{s:Shared}
end
section
variable {X:Cx}
end
end L2
namespace Att
open PySem PySem.W PySem.Calls PyProof.Rows
def lU{P:Params}{h:Heap}:∀(ns:List Int) (vs:List Value),WellAll P h vs (ns.map WData.int)->IntsAre vs ns:=by
 intro ns
 induction ns with
 |nil =>
  intro vs w
  rw[List.map_nil] at w
  cases w
  exact .nil
 |cons n ns ih =>
  intro vs w
  rw[Ą] at w
  cases w with
  |cons a b =>
   cases a
   exact .cons _ _ (ih _ b)
def yw{l:OpenLaw}{n:Nat}(hn:l.most=some n){P:Params}{h:Heap}{args:List WData}{vals:List Value}(hpre:l.row.toRowW.claim.pre args=true)(hwl:WellAll P h vals args) :
  ∃a vs ns,vals=[æ a]/\args=[WData.list (ns.map WData.int)]/\h.get? a=some { cls:=.type "list",data:=.seq vs.toArray }/\IntsAre vs ns/\ns.length<=n:=by
 have hsh:WShape.hasAll [] args [.list .int]=true:=(pre_splitW hpre).1
 have hc:l.pre.holds [] { args:=args }=true:=(pre_splitW hpre).2
 obtain⟨d,r,rfl,h1,h2⟩:=hasAllW_cons hsh
 obtain rfl:=hasAllW_nil h2
 obtain⟨xs,rfl,h3⟩:=hasW_list h1
 obtain⟨ns,rfl⟩:=items_int h3
 have hlen:ns.length<=n:=by
  unfold OpenLaw.pre at hc
  have h4:(WTm.not (.lt (.lit (.int (n:Int))) (.len (.arg 0)))).holds [] { args:=[.list (ns.map .int)] }=true:=by
   have h4:=(holds_andW hc).1
   rw[hn] at h4
   exact h4
  have h5:=condW_of h4 (w_not (w_lt w_lit (w_len_list (w_arg rfl))))
  rw[Á] at h5
  refine Nat.le_of_not_lt λq=>?_
  have q':(n:Int)<((ns.length:Nat):Int):=by omega
  first
   |(rw[decide_eq_true q'] at h5;exact absurd h5 (by decide))
   |(simp at h5;omega)
 cases hwl with
 |cons w1 w2 =>
  cases w2
  cases w1 with
  |list ho hall=>exact⟨_,_,ns,rfl,rfl,ho,lU ns _ hall,hlen⟩
def yD(l:OpenLaw)(args:List WData):l.row.toRowW.claim.post args (.bool true) args=true :=
 postW_of (r:=l.row.toRowW) (X:=(true == true))
  (show WShape.has [] (.bool true) .bool=true by first|rfl|decide|simp[WShape.has,WShape.arms,WShape.armsAll])
  (show(WTm.eq .res (.lit (.bool true))).value [] { args:=args,res:=some (.bool true),after:=args }=some (.bool (true == true)) from w_eq_bool (w_res rfl) w_lit) rfl
def uV{l:OpenLaw}{n:Nat}{q:Program}{loose:List Str}{XP:(Str->Option Value)->Heap->Prop}{YP:World->Heap->Prop}{d:DefRec}(hn:l.most=some n)(hdf:d.params.defaults=[])(call:∀(w:World) (s₀ s₁:Shared) (mg mb:Str->Option Value) (fa:Addr) (o:Obj) (pm cd doc:Value) (a:Addr) (vs:List Value) (ns:List Int),
   Ground q loose [] XP w s₀ mg mb s₁.heap->YP w s₁.heap ->
   s₁.heap.get? fa=some o->o.data=.func (docDef d.name d.params d.body d.scope pm cd doc)->s₁.heap.CodeRec cd d.name->mg d.name=some (.ref fa) ->
   s₁.heap.get? a=some { cls:=.type "list",data:=.seq vs.toArray }->IntsAre vs ns->ns.length<=n->s₁.gens=#[] ->
   codeAny (model l.prog w) callerA (.call (.ref fa) ⟨[.ref a],[]⟩) (λr s'=>r=.ok (.ret (.bool true))/\OldK s₁.heap s'.heap/\s'.os=s₁.os/\AllBare s'.gens) s₁) :
  WalkO q loose XP YP l.row.toRowW d [] (λf vs=>PySem.call f vs):=by
 intro w s₀ s₁ mg mb G Y fa o pm cd doc dV kV ho hd hcd hD hmg hg args vals as hpre hlay hrd hwl hlo
 obtain rfl:dV=.none:=Dflts.none hD hdf
 obtain rfl:kV=.none:=Dflts.noKw hD
 obtain⟨a,vs,ns,rfl,rfl,hobj,hints,hlen⟩:=yw hn hpre hwl
 refine enter_call (Ŷ (call w s₀ s₁ mg mb fa o pm cd doc a vs ns G Y ho (fd_plain hd) hcd hmg hobj hints hlen hg) λr s' hq=>?_)
 obtain⟨rfl,h2,h3,h4⟩:=hq
 exact⟨.inl ⟨.bool true,.bool true,[],rfl,λ_=>rfl,.bool true,yD l _,λ_=>⟨List.Pairwise.nil,λ_ hm=>(nomatch hm)⟩⟩,h2,h3,h4⟩
section
variable {prog:Program}{w:World}{A:Around}{E:Value->Shared->Prop}{s:Shared}{K:Frag}
def ledger(h:Heap)(L d:Addr):List (Addr×Obj):=(Ø h.objs.size).filterMap λa=>if a=L\/a=d then none else (h.get? a).map λo=>(a,o)
end
end Att
namespace L2
open PySem PySem.Spec PyProof.Rows
def kh:∀{vs:List Value}{ns:List Int},IntsAre vs ns->Vals (ns.map V.int) vs
 |_,_,.nil=>.nil
 |_,_,.cons n t h=>.cons ⟨t,rfl⟩ (kh h)
def fV(s:Stmt):Arguments:=match s with
 |.FunctionDef _ a _ _ _ _ _ _ _ _=>a
 |_=>{ posonlyargs:=[],args:=[],vararg:=none,kwonlyargs:=[],kw_defaults:=[],kwarg:=none,defaults:=[] }
def bY(s:Stmt):List Stmt:=match s with
 |.FunctionDef _ _ b _ _ _ _ _ _ _=>b
 |_=>[]
def aB(s:Stmt):Scope:=match s with
 |.FunctionDef _ _ _ _ _ _ sc _ _ _=>sc
 |_=>{ kind:=.function,names:=[],isGenerator:=false,isCoroutine:=false }
abbrev CX0:CXT:=λ_ _ _ _ _ _=>False
abbrev E0:XK:=λ_ _ _=>False
def MN{X:Cx}:Passes CX0 X E0:=λ_ _ _ _ _ _ _ h=>h.elim
structure Fun(K:Ê)(x qual:Str)(st:Stmt)(f:Addr)(fd:FuncData):Prop where
 ex:∃(oc:Value) (od:Option Addr) (kV doc pm:Value) (an:Option Addr) (cdv ct:Value) (osl:Array (Option Value)),
  fd=W.fnOf x qual (fV st) (bY st) (aB st) .none kV doc pm an cdv ct/\K.lookup f=some ⟨oc,od,.func fd,osl⟩/\W.codeIn K cdv qual=true
 kp:ň K (.ref f)=true
section
variable {P:Program}{w:World}{K:Ê}{mg:Str->Option Value}{base:Heap}
def Fun.ok{x qual:Str}{st:Stmt}{f:Addr}{fd:FuncData}{N ps:List Str}{k:Nat}{sp:Sp}(F:Fun K x qual st f fd)(S:FnScope N ps (aB st))(len:∀vs H Q E,sp vs H Q E->vs.length=ps.length)(hbody:∀(cdv:Value) (A:Around) (outer:List Env) (s:Shared) (H:Hp) (vs:List V) (Q:VK) (E:XK),Room k (A.deeper (envOfC qual (aB st) s.heap.objs.size f cdv))->sp vs H Q E ->
   ∃t,PSs (rR CX0 P w K mg base N qual (aB st) f cdv A outer s H E).nox (bY st) t/\t { nx:=λ_ H'=>Q .non H',rt:=Q } (start N vs) H):FnOk P w K mg base CX0 (k+1) f fd ps sp:=by
 obtain⟨oc,od,kV,doc,pm,an,cdv,ct,osl,rfl,lk,hcd⟩:=F.ex
 refine Ej lk hcd S len λA outer s H vs Q E hr hsp=>?_
 obtain⟨t,h,q⟩:=hbody cdv A outer s H vs Q E hr hsp
 exact⟨t,h.nox,q⟩
def Fun.binds{x qual:Str}{st:Stmt}{f:Addr}{fd:FuncData}{ps:List Str}(F:Fun K x qual st f fd)(h:∀(kV doc pm:Value) (an:Option Addr) (cdv ct:Value) (us:List Value),us.length=ps.length->bindArgs (W.fnOf x qual (fV st) (bY st) (aB st) .none kV doc pm an cdv ct) ⟨us,[]⟩=pure (ps.zip us):=by intro _ _ _ _ _ _ us hl;first|(obtain⟨_,rfl⟩:=Nf.len1 us hl;rfl)|(obtain⟨_,_,rfl⟩:=Nf.len2 us hl;rfl)|(obtain⟨_,_,_,rfl⟩:=Nf.O9 us hl;rfl)):Binds K fd ps []:=by
 obtain⟨oc,od,kV,doc,pm,an,cdv,ct,osl,rfl,lk,hcd⟩:=F.ex
 exact .all (h kV doc pm an cdv ct)
def Kv{x qual:Str}{st:Stmt}{f:Addr}{oc:Value}{od an:Option Addr}{osl:Array (Option Value)}{kV doc pm cdv ct:Value}(l:K.lookup f=some ⟨oc,od,.func (W.fnOf x qual (fV st) (bY st) (aB st) .none kV doc pm an cdv ct),osl⟩)(c:W.codeIn K cdv qual=true)(k:ň K (.ref f)=true):Fun K x qual st f (W.fnOf x qual (fV st) (bY st) (aB st) .none kV doc pm an cdv ct):=⟨⟨oc,od,kV,doc,pm,an,cdv,ct,osl,rfl,l,c⟩,k⟩
end
section
variable {X:Cx}
def pv(i:Nat){x:Str}{pos:Pos}(hN:X.N[i]?=some x:=by rfl)(hv:Vis X.env.scope x:=by first|exact Ļ rfl|exact ź (Ļ rfl)|exact ź (ź rfl))(hd:(x == ("__debug__":Str))=false:=by decide)(hcd:(x == ("__classdict__":Str))=false:=by decide):PE X (.Name x pos) (mQ i):=Jq hN hv hd hcd
end
def cI{A B:Prop}(h:B):if false=true then A else B:=by
 rw[if_neg Î]
 exact h
def bw{A B:Prop}(h:A):if true=true then A else B:=by
 rw[if_pos rfl]
 exact h
def Kh{c A B:Prop}[Decidable c](h1:c->A)(h2:¬c->B):if c then A else B:=by
 by_cases h:c
 ·rw[if_pos h]
  exact h1 h
 ·rw[if_neg h]
  exact h2 h
def Same(H H':Hp):Prop:=∀b o,H b=some o->H' b=some o
def Same.refl(H:Hp):Same H H:=λ_ _ h=>h
def Same.trans{H H1 H2:Hp}(a:Same H H1)(b:Same H1 H2):Same H H2:=λc o h=>b c o (a c o h)
structure CB where
 cl:List (Str×Addr)
 C:Addr
 s:Shared
 H:Hp
 ex:List Addr
abbrev Cx.bH(X:Cx)(own M:List Str)(scope:Scope)(c:CB):Cx where
 prog:=X.prog
 w:=X.w
 K:=X.K
 mg:=X.mg
 base:=X.base
 A:=X.A
 N:=own++M
 s₀:=c.s
 H₀:=c.H
 env:=compEnvC scope c.cl c.C X.env
 outer:=X.stack
 stack:=X.stack
 ex:=c.ex
 fn:=λx=>scope.names.lookup x == some .cell
 calm:=X.calm
 pn:=[]
 sf:=X.sf
 xe:=λ_ _=>False
abbrev Cx.comp(X:Cx)(own:List Str)(scope:Scope)(c:CB):Cx:=X.bH own X.N scope c
def cX(cells:List (Str×Addr)):List (Str×NameKind)->List (Str×Addr)->List (Str×Addr)
 |[],acc=>acc
 |(n,k)::r,acc=>if k == .free then cX cells r ((n,(cells.lookup n).getD 0)::acc) else cX cells r acc
def gQ{env:Env}:∀(names:List (Str×NameKind)) (acc:List (Str×Addr)),(∀x∈names,x.2=.free->∃c,env.cells.lookup x.1=some c) ->
  (forIn names acc λ(p:Str×NameKind) (r:List (Str×Addr))=>match p with
   |(name,kind)=>if (kind == ã)=true then do let a ←cellOf env name;pure (ă ((name,a)::r)) else pure (ă r):Sem (List (Str×Addr)))=pure (cX env.cells names acc)
 |[],acc,_=>by simp[cX]
 |(n,k)::r,acc,h=>by
  rw[List.forIn_cons]
  by_cases hk:(k == ã)=true
  ·obtain⟨c,hc⟩:=h (n,k) Ì (by simpa using hk)
   have e:cellOf env n=pure c:=by unfold cellOf;rw[hc]
   have ih:=gQ (env:=env) r ((n,c)::acc) λx hx=>h x (Ï _ hx)
   show((if (k == ã)=true then do let a ←cellOf env n;pure (ă ((n,a)::acc)) else pure (ă acc)) >>= _:Sem _)=_
   rw[if_pos hk,e]
   unfold cX
   rw[if_pos hk,hc]
   exact ih
  ·have ih:=gQ (env:=env) r acc λx hx=>h x (Ï _ hx)
   show((if (k == ã)=true then do let a ←cellOf env n;pure (ă ((n,a)::acc)) else pure (ă acc)) >>= _:Sem _)=_
   rw[if_neg hk]
   unfold cX
   rw[if_neg hk]
   exact ih
def wG{scope:Scope}{env:Env}(h:∀x∈scope.names,x.2=.free->∃c,env.cells.lookup x.1=some c):closureFor scope env=pure (cX env.cells scope.names []):=by
 have e:=gQ (env:=env) scope.names [] h
 unfold closureFor
 show(forIn scope.names [] _ >>= λcs=>pure cs:Sem _)=_
 have e2:(forIn scope.names ([]:List (Str×Addr)) λ(p:Str×NameKind) (r:List (Str×Addr))=>match p with
   |(name,kind)=>if (kind == ã)=true then do let a ←cellOf env name;pure (ă ((name,a)::r)) else pure (ă r):Sem (List (Str×Addr)))=pure (cX env.cells scope.names []):=e
 rw[e2]
 rfl
def j8{cells:List (Str×Addr)}{x:Str}{c:Addr}:∀{names:List (Str×NameKind)}{acc:List (Str×Addr)},(cX cells names acc).lookup x=some c->acc.lookup x=some c\/((x,ã)∈names/\c=(cells.lookup x).getD 0)
 |[],acc,h=>.inl h
 |(n,k)::r,acc,h=>by
  unfold cX at h
  by_cases hk:(k == ã)=true
  ·rw[if_pos hk] at h
   have hk':k=.free:=by simpa using hk
   rcases j8 h with q|⟨q1,q2⟩
   ·rw[Ü] at q
    cases hx:x == n with
    |true =>
     rw[hx] at q
     have e:x=n:=by simpa using hx
     subst e hk'
     exact .inr ⟨Ì,(Ò q).symm⟩
    |false=>rw[hx] at q;exact .inl q
   ·exact .inr ⟨Ï _ q1,q2⟩
  ·rw[if_neg hk] at h
   rcases j8 h with q|⟨q1,q2⟩
   ·exact .inl q
   ·exact .inr ⟨Ï _ q1,q2⟩
def oK{cells:List (Str×Addr)}{x:Str}:∀{names:List (Str×NameKind)}{acc:List (Str×Addr)},(acc.lookup x).isSome=true->((cX cells names acc).lookup x).isSome=true
 |[],_,h=>h
 |(n,k)::r,acc,h=>by
  unfold cX
  split
  ·refine oK ?_
   rw[Ü]
   cases hx:x == n <;> simp[h]
  ·exact oK h
def jc{cells:List (Str×Addr)}{x:Str}:∀{names:List (Str×NameKind)}{acc:List (Str×Addr)},(x,ã)∈names->((cX cells names acc).lookup x).isSome=true
 |(n,k)::r,acc,h=>by
  unfold cX
  rcases É.mp h with e|h
  ·cases e
   rw[if_pos (by rfl)]
   exact oK (by simp[Ü])
  ·split
   ·exact jc h
   ·exact jc h
def gb(env:Env)(scope:Scope)(N:List Str):Bool :=
 (scope.kind == .function)&&scope.names.all λy=>match y.2 with
  |.local=>!(N.contains y.1)&&(scope.names.lookup y.1 == some .local)
  |.cell=>!(N.contains y.1)&&(scope.names.lookup y.1 == some .cell)
  |.free=>(scope.names.lookup y.1 == some .free)&&(env.kindOf y.1 == some .cell || env.kindOf y.1 == some .free)
  |_=>true
def cU{env:Env}:∀{names:List (Str×NameKind)}{x:Str}{q:NameKind},(names.map λ(n,k)=>if (k == ã&&env.scope.kind == .function&&env.kindOf n == some .cell) then (n,ï) else (n,k)).lookup x=some q ->
  ∃k,(x,k)∈names/\names.lookup x=some k/\(q=k\/(q=.cell/\k=.free))
 |[],_,_,h=>by simp at h
 |(n,k)::r,x,q,h=>by
  have ih:=@cU env r x q
  have h':Ĭ x ((if (k == ã&&env.scope.kind == .function&&env.kindOf n == some .cell)=true then (n,ï) else (n,k))::(r.map λ(n,k)=>if (k == ã&&env.scope.kind == .function&&env.kindOf n == some .cell) then (n,ï) else (n,k)))=some q:=h
  by_cases hc:(k == ã&&env.scope.kind == .function&&env.kindOf n == some .cell)=true
  ·rw[if_pos hc,Ü] at h'
   cases hx:x == n with
   |true =>
    rw[hx] at h'
    have e:x=n:=by simpa using hx
    subst e
    have hk:k=.free:=by simp at hc;exact hc.1.1
    exact⟨k,Ì,by simp[Ü],.inr ⟨(Ò h').symm,hk⟩⟩
   |false =>
    rw[hx] at h'
    obtain⟨k',h1,h2,h3⟩:=ih h'
    exact⟨k',Ï _ h1,by rw[Ü,hx];exact h2,h3⟩
  ·rw[if_neg hc,Ü] at h'
   cases hx:x == n with
   |true =>
    rw[hx] at h'
    have e:x=n:=by simpa using hx
    subst e
    exact⟨k,Ì,by simp[Ü],.inl (Ò h').symm⟩
   |false =>
    rw[hx] at h'
    obtain⟨k',h1,h2,h3⟩:=ih h'
    exact⟨k',Ï _ h1,by rw[Ü,hx];exact h2,h3⟩
def HOk.track{P:Program}{w:World}{H:Hp}{h:Heap}{a:Addr}{o:HO}(x:HOk P w H h)(hn:H a=none)(new:aM P w (upd H a o) h a o):HOk P w (upd H a o) h:=λb u e=>by
 by_cases hb:b=a
 ·subst hb;rw[aA] at e;cases e;exact new
 ·rw[ao hb] at e
  exact(x b u e).stay (λc v _ q=>q) (λc q=>by rw[ao (au q hn)];exact q) λc xs q=>by rw[ao (au q hn)];exact q
def zE{prog:Program}{w:World}{A:Around}{s:Shared}{elt target iter:Expr}{ifs:List Expr}{scope:Scope}{pos:Pos}{it acc:Value}{env:Env}{R:Result->Shared->Prop}(I:Nat->Shared->Prop)(turn:∀n s,I n s->wpAny (model prog w) A (pyNext it) (λr s₁=>match r with
   |none=>R (.ok .next) s₁
   |some v=>wpAny (model prog w) A (letOwnedTupleGo target it v) (λ_ s₀=>wpAny (model prog w) A (assign target env v) (λ_ s₂ =>
     wpAny (model prog w) A (forIn ifs true λc r=>if r=true then do let ok ←isTrue c env (eval c env);pure (ă ok) else pure (ă r)) (λok s₃ =>
      if ok=true then wpAny (model prog w) A (eval elt env) (λx s₄ =>
       wpAny (model prog w) A (call (.builtin "list.append") [acc,x]) (λ_ s₅=>∃m,m<n/\I m s₅) (λ_ _=>False) s₄) (λ_ _=>False) s₃
      else ∃m,m<n/\I m s₃) (λ_ _=>False) s₂) (λ_ _=>False) s₀) (λ_ _=>False) s₁) (λ_ _=>False) s)(n:Nat)(h:I n s):codeAny (model prog w) A (.compLoop (.ListComp elt [⟨target,iter,ifs,0⟩] scope pos) 0 it acc env) R s:=by
 refine codeAny_loop rfl I (λn s hI=>?_) n h
 show wpAny _ A ((compTurn (.ListComp elt [⟨target,iter,ifs,0⟩] scope pos) 0 it acc env).onRaise (λx=>do noteFrame x env;theTreesLotGoes x)) _ _ s
 refine wpAny_noted ?_
 rw[compTurn_list]
 refine À (wpAny_standAt (À (č (turn n s hI) (λr s₁ h₁=>?_) λ_ _ h'=>h'.elim)))
 cases r with
 |none=>exact Ç h₁
 |some v =>
  refine À (č h₁ (λ_ s₀ h₀'=>?_) λ_ _ h'=>h'.elim)
  refine À (č h₀' (λ_ s₂ h₂=>À (č h₂ (λok s₃ h₃=>?_) λ_ _ h'=>h'.elim)) λ_ _ h'=>h'.elim)
  cases ok with
  |false=>exact Ç ⟨rfl,h₃⟩
  |true =>
   exact À (À (č h₃ (λx s₄ h₄=>À (č h₄ (λ_ s₅ h₅=>Ç (Ç ⟨rfl,h₅⟩)) λ_ _ h'=>h'.elim)) λ_ _ h'=>h'.elim))
def PTs(X:Cx)(ifs:List Expr)(t:TT):Prop :=
 ∀(pins:List (Addr×Obj)) (s:Shared) (σ:St) (H:Hp) (Q:Bool->Hp->Prop),Inv X pins σ H s->t σ H Q ->
  wpAny (model X.prog X.w) X.A (forIn ifs true λc r=>if r=true then do let ok ←isTrue c X.env (eval c X.env);pure (ă ok) else pure (ă r)) (TP X pins σ Q) X.xe s
def Ga{X:Cx}:PTs X [] (λ_ H Q=>Q true H):=λ_ _ _ H _ I h=>wpAny_tests_nil ⟨H,I,h⟩
def Oe(J:It)(n:Nat)(g:CB->TG)(tt:CB->TT)(te:CB->TE)(σ:St)(Q:VK)(H:Hp):Prop:=∃W:Nat->Nat->List V->Hp->Prop,(∃m,W 0 m [] H)/\∀(c:CB) i m ys H,W i m ys H ->
 (J.stop i H/\∀p,H p=none->Q (.ref p) (upd H p (.lst ys))) ∨
 (J.go i H/\ys.length<sizeLine/\∃N:List V->Hp->Prop,(∀ys' H',N ys' H'->∃m',m'<m/\W (i+1) m' ys' H')/\∀x H',J.yld i H x H'->g c x (È n none++σ) H' λσ2 H2=>tt c σ2 H2 λb H3 =>
  if b=true then te c σ2 H3 λv H4=>N (ys++[v]) H4 else N ys H3)
def tLC(n:Nat)(wi:TI)(g:CB->TG)(tt:CB->TT)(te:CB->TE):TE:=λσ H Q=>wi σ H λJ H1=>Oe J n g tt te σ Q H1
section
variable {X:Cx}{own:List Str}{scope:Scope}{tg iter elt:Expr}{ifs:List Expr}{pos:Pos}{wi:TI}{g:CB->TG}{tt:CB->TT}{te:CB->TE}
def bf(env:Env)(scope:Scope)(N M:List Str):Bool :=
 gb env scope M&&((N.length == M.length)&&(N.zip M).all λy=>y.1 == y.2 || ((y.2 == ("":Str))&&scope.names.all λz=>!(z.1 == ("":Str))))
def uN{env:Env}{N:List Str}(h:gb env scope N=true):bf env scope N N=true:=by
 unfold bf
 rw[h,Bool.true_and,beq_self_eq_true,Bool.true_and,ć]
 rintro⟨a,b⟩ hy
 obtain⟨i,hi,e⟩:=List.mem_iff_getElem.mp hy
 rw[List.getElem_zip] at e
 cases e
 simp
variable {M:List Str}
def d7(h:bf X.env scope X.N M=true):scope.kind=.function:=by
 unfold bf gb at h
 simp only[â,beq_iff_eq] at h
 exact h.1.1
def bK(h:bf X.env scope X.N M=true):∀y∈scope.names,(y.2=.local->y.1∉M/\scope.names.lookup y.1=some .local)/\(y.2=.cell->y.1∉M/\scope.names.lookup y.1=some .cell)/\(y.2=.free->scope.names.lookup y.1=some .free/\(X.env.kindOf y.1=some .cell\/X.env.kindOf y.1=some .free)):=by
 unfold bf at h
 rw[â] at h
 have h:=h.1
 unfold gb at h
 rw[â,ć] at h
 intro y hy
 have q:=h.2 y hy
 obtain⟨n,k⟩:=y
 cases k with
 |«local»=>simp at q ⊢;exact q
 |cell=>simp at q ⊢;exact q
 |free=>simp at q ⊢;exact q
 |globalExplicit=>simp
 |globalImplicit=>simp
def aY:∀(names:List (Str×NameKind)) (n:Nat) (acc:List (Str×Addr)),cellsFrom n names acc=cellsFrom n names []++acc
 |[],_,_=>rfl
 |(nm,k)::r,n,acc=>by
  show(if (k == ï)=true then cellsFrom (n+1) r ((nm,n)::acc) else cellsFrom n r acc)=(if (k == ï)=true then cellsFrom (n+1) r [(nm,n)] else cellsFrom n r [])++acc
  split
  ·rw[aY r (n+1) ((nm,n)::acc),aY r (n+1) [(nm,n)],List.append_assoc]
   rfl
  ·exact aY r n acc
def eE:∀(names:List (Str×NameKind)) (n:Nat) (x:Str) (c:Addr),(x,c)∈cellsFrom n names []->(x,ï)∈names/\n<=c
 |[],_,_,_,h=>nomatch h
 |(nm,k)::r,n,x,c,h=>by
  have h:(x,c)∈(if (k == ï)=true then cellsFrom (n+1) r [(nm,n)] else cellsFrom n r []):=h
  split at h
  ·rename_i hk
   rw[aY] at h
   rcases è.mp h with z|z
   ·obtain⟨h1,h2⟩:=eE r (n+1) x c z
    exact⟨Ï _ h1,by omega⟩
   ·have z:(x,c)=(nm,n):=by simpa using z
    cases z
    have hk:k=.cell:=by simpa using hk
    subst hk
    exact⟨Ì,Æ _⟩
  ·obtain⟨h1,h2⟩:=eE r n x c h
   exact⟨Ï _ h1,h2⟩
def lJ:∀(names:List (Str×NameKind)) (n:Nat) (x y:Str) (c:Addr),(x,c)∈cellsFrom n names []->(y,c)∈cellsFrom n names []->x=y
 |[],_,_,_,_,h,_=>nomatch h
 |(nm,k)::r,n,x,y,c,h,h'=>by
  have h:(x,c)∈(if (k == ï)=true then cellsFrom (n+1) r [(nm,n)] else cellsFrom n r []):=h
  have h':(y,c)∈(if (k == ï)=true then cellsFrom (n+1) r [(nm,n)] else cellsFrom n r []):=h'
  by_cases hk:(k == ï)=true
  ·rw[if_pos hk,aY] at h h'
   rcases è.mp h with z|z <;> rcases è.mp h' with z'|z'
   ·exact lJ r (n+1) x y c z z'
   ·have:=(eE r (n+1) x c z).2
    have z':(y,c)=(nm,n):=by simpa using z'
    cases z'
    exact absurd this (Nat.not_succ_le_self _)
   ·have:=(eE r (n+1) y c z').2
    have z:(x,c)=(nm,n):=by simpa using z
    cases z
    exact absurd this (Nat.not_succ_le_self _)
   ·have z:(x,c)=(nm,n):=by simpa using z
    have z':(y,c)=(nm,n):=by simpa using z'
    cases z
    cases z'
    rfl
  ·rw[if_neg hk] at h h'
   exact lJ r n x y c h h'
def je:∀(names:List (Str×NameKind)) (h:Heap) (b:Addr) (o:Obj),h.get? b=some o->(pushCells h names).get? b=some o
 |[],_,_,_,e=>e
 |(nm,k)::r,h,b,o,e=>by
  show(if (k == ï)=true then pushCells (h.push { cls:=đ "cell",data:=Data.cell none }) r else pushCells h r).get? b=some o
  split
  ·exact je r _ b o (Ä _ e)
  ·exact je r h b o e
def kJ:∀(names:List (Str×NameKind)) (h:Heap) (x:Str) (c:Addr),(x,c)∈cellsFrom h.objs.size names []->(pushCells h names).IsCell c none
 |[],_,_,_,e=>nomatch e
 |(nm,k)::r,h,x,c,e=>by
  have e:(x,c)∈(if (k == ï)=true then cellsFrom (h.objs.size+1) r [(nm,h.objs.size)] else cellsFrom h.objs.size r []):=e
  show(if (k == ï)=true then pushCells (h.push { cls:=đ "cell",data:=Data.cell none }) r else pushCells h r).IsCell c none
  by_cases hk:(k == ï)=true
  ·rw[if_pos hk,aY] at e
   rw[if_pos hk]
   rcases è.mp e with z|z
   ·exact kJ r _ x c (by rw[ė];exact z)
   ·have z:(x,c)=(nm,h.objs.size):=by simpa using z
    cases z
    exact⟨_,je r _ _ _ (Ô _ rfl),rfl⟩
  ·rw[if_neg hk] at e ⊢
   exact kJ r h x c e
def vN{M:Model}{A:Around}{E:Value->Shared->Prop}{s:Shared}{scope:Scope}{globals:Addr}{closure:List (Str×Addr)}{qual:Str}{func:Option Addr}{code:Value}{around:Option Env}{builtins:Addr}{Q:Env->Shared->Prop}(h:Q (newEnv scope s.heap.objs.size globals (cellsFrom (s.heap.objs.size+1) scope.names closure) qual func code around builtins) { s with heap:=pushCells (s.heap.push { cls:=đ (if around.isSome=true then "dict" else "frame"),data:=Data.dict #[] }) scope.names }) :
  wpAny M A (newFunctionEnv scope globals closure [] qual func code around builtins) Q E s:=by
 unfold newFunctionEnv
 refine À (wpAny_alloc ?_)
 refine À (wpAny_layCells _ (λ_ _ _=>rfl) _ _ _ _ ?_)
 rw[ė]
 exact À (Ç (Ç h))
def K8{n:Nat}{names:List (Str×NameKind)}{cl:List (Str×Addr)}{x:Str}{c:Addr}(h:(cellsFrom n names cl).lookup x=some c):(x,c)∈cellsFrom n names []\/cl.lookup x=some c:=by
 rw[aY,List.lookup_append] at h
 cases e:(cellsFrom n names []).lookup x with
 |none=>rw[e] at h;exact .inr h
 |some d =>
  rw[e] at h
  cases h
  exact .inl (Ā e)
def Fi{n:Nat}{names:List (Str×NameKind)}{cl:List (Str×Addr)}{x:Str}(h:∀c,(x,c)∈cellsFrom n names []->False):(cellsFrom n names cl).lookup x=cl.lookup x:=by
 rw[aY,List.lookup_append]
 cases e:(cellsFrom n names []).lookup x with
 |none=>rfl
 |some d=>exact(h d (Ā e)).elim
def uz(h:bf X.env scope X.N M=true){n:Nat}{x:Str}(hx:(x,ã)∈scope.names):∀c,(x,c)∈cellsFrom n scope.names []->False:=λc z=>by
 have h1:=((bK h _ hx).2.2 rfl).1
 have h2:=((bK h _ (eE _ _ _ _ z).1).2.1 rfl).2
 rw[h1] at h2
 cases h2
def iZ(h:bf X.env scope X.N M=true):X.N.length=M.length:=by
 unfold bf at h
 rw[â,â] at h
 exact eq_of_beq h.2.1
def qe{i:Nat}{x:Str}{k:NameKind}(h:bf X.env scope X.N M=true)(hx:M[i]?=some x)(_:x∈M)(hn:(x,k)∈scope.names):X.N[i]?=some x:=by
 have hl:=iZ h
 unfold bf at h
 rw[â,â,ć] at h
 have hi:i<M.length:=(Ù.mp hx).1
 have hx':M[i]=x:=(Ù.mp hx).2
 have hi':i<X.N.length:=by omega
 have q:=h.2.2 (X.N[i],M[i]) (by
  refine List.mem_iff_getElem.mpr ⟨i,by rw[Č];omega,?_⟩
  rw[List.getElem_zip])
 rw[Bool.or_eq_true] at q
 rcases q with q|q
 ·have q:X.N[i]=M[i]:=eq_of_beq q
  rw[Õ hi',q,hx']
 ·rw[â,ć] at q
  have e:M[i]=("":Str):=eq_of_beq q.1
  have z:=q.2 (x,k) hn
  rw[←hx',e] at z
  simp at z
def wF{pins:List (Addr×Obj)}{σ:St}{H:Hp}{s:Shared}{fp:List Addr}{h₁:Heap}{tk:Nat}(hk:bf X.env scope X.N M=true)(I:Inv X pins σ H s)(hf:∀b∈fp,jo X pins H b)(hfo:∀b∈fp,∃o,s.heap.get? b=some o)(hns:h₁.Ns (s.heap.objs.size+1) λ_=>none)(old:∀b o,s.heap.get? b=some o->h₁.get? b=some o)(hD:h₁.get? s.heap.objs.size=some { cls:=.type "list",data:=.seq #[] 0 })(hnc:∀x c,(x,c)∈cellsFrom (s.heap.objs.size+2) scope.names []->h₁.IsCell c none) :
  Inv (X.bH own M scope ⟨cellsFrom (s.heap.objs.size+2) scope.names (cX X.env.cells scope.names []),s.heap.objs.size+1,s,H,fp⟩) [(s.heap.objs.size,{ cls:=.type "list",data:=.seq #[] 0 })] (È own.length none++σ) H { s with heap:=h₁,toks:=tk }:=by
 have hkk:=d7 hk
 have hka:=bK hk
 have hhas:∀x,(x,ã)∈scope.names->∃c,X.env.cells.lookup x=some c:=λx hx=>I.ok.has x ((hka _ hx).2.2 rfl).2
 have hcl:∀x c,(cX X.env.cells scope.names []).lookup x=some c->X.env.cells.lookup x=some c/\(x,ã)∈scope.names:=λx c e=>by
  rcases j8 e with q|⟨q1,q2⟩
  ·simp at q
  ·obtain⟨c',e'⟩:=hhas x q1
   rw[e'] at q2
   exact⟨by rw[e',q2];rfl,q1⟩
 have hcc:∀x c,(cellsFrom (s.heap.objs.size+2) scope.names (cX X.env.cells scope.names [])).lookup x=some c->(X.env.cells.lookup x=some c/\(x,ã)∈scope.names/\c<s.heap.objs.size)\/((x,c)∈cellsFrom (s.heap.objs.size+2) scope.names []/\(x,ï)∈scope.names/\s.heap.objs.size+2<=c):=λx c e=>by
  rcases K8 e with z|z
  ·exact .inr ⟨z,eE _ _ _ _ z⟩
  ·obtain⟨h1,h2⟩:=hcl x c z
   obtain⟨v,o,ho,_⟩:=I.cell x c h1
   exact .inl ⟨h1,h2,Å ho⟩
 have hvis:∀x,(relabel scope X.env).names.lookup x=some .cell\/(relabel scope X.env).names.lookup x=some .free->(x,ã)∈scope.names\/(x,ï)∈scope.names:=λx hx=>by
  have key:∀q,(relabel scope X.env).names.lookup x=some q->q=.cell\/q=.free->(x,ã)∈scope.names\/(x,ï)∈scope.names:=λq hq hq'=>by
   obtain⟨k,h1,h2,h3⟩:=cU (env:=X.env) (names:=scope.names) hq
   rcases h3 with h3|⟨_,h3⟩
   ·subst h3
    rcases hq' with z|z
    ·rw[z] at h1;exact .inr h1
    ·rw[z] at h1;exact .inl h1
   ·rw[h3] at h1;exact .inl h1
  rcases hx with hx|hx
  ·exact key _ hx (.inl rfl)
  ·exact key _ hx (.inr rfl)
 have hlt:∀b o,s.heap.get? b=some o->b<s.heap.objs.size:=λb o e=>Å e
 refine⟨⟨I.ok.mod,hkk,I.ok.glob,I.ok.blt,ő _,λx y c h1 h2=>?inj,λx hx=>?_,λx c z e=>?cab,I.ok.hd,I.ok.frames,.inl rfl,λb hb=>⟨?_,λx c e=>?exf⟩,I.bs,
   ô I.ok.bsz I.sz,λb o e hb=>?_,λb hb hs=>?_,I.stack,I.qx,λq hq=>⟨(I.ok.sof q hq).1,I.base.frzs _ _ _ (I.ok.sof q hq).2.1,(I.ok.sof q hq).2.2⟩⟩,rfl,I.bare,Un.kept old,⟨_,hns,λi x v h1 h2 h3=>?_⟩,λx c e=>?_,?_,λx c e=>?frc,λp hp=>?_,I.hok.kept old,?_⟩
 case inj =>
  rcases hcc x c h1 with ⟨a1,_,a3⟩|⟨a1,_,a3⟩ <;> rcases hcc y c h2 with ⟨b1,_,b3⟩|⟨b1,_,b3⟩
  ·exact I.ok.inj x y c a1 b1
  ·exact absurd (Ó a3 (ô (ŝ _ 2) b3)) (ú _)
  ·exact absurd (Ó b3 (ô (ŝ _ 2) a3)) (ú _)
  ·exact lJ _ _ _ _ _ a1 b1
 case cab =>
  show s.heap.objs.size<=c
  rcases hcc x c e with ⟨_,a2,_⟩|⟨_,_,a3⟩
  ·have h1:=((hka _ a2).2.2 rfl).1
   have z:(scope.names.lookup x == some ï)=true:=z
   rw[h1] at z
   exact absurd z (by decide)
  ·omega
 case exf =>
  rcases hcc x c e with ⟨a1,_,_⟩|⟨_,_,a3⟩
  ·exact(hf b hb).2.2.2.2.1 x c a1
  ·obtain⟨o,e⟩:=hfo b hb
   have:=hlt b o e
   intro z
   subst z
   exact absurd (Ó this (ô (ŝ _ 2) a3)) (ú _)
 case frc =>
  rcases hcc x c e with ⟨a1,_,_⟩|⟨_,_,a3⟩
  ·exact I.freeC x c a1
  ·exact I.hok.fresh (by omega)
 ·have hx':(relabel scope X.env).names.lookup x=some .cell\/(relabel scope X.env).names.lookup x=some .free:=hx
  refine ľ.mp (W.cellsFrom_some _ _ _ ?_)
  rcases hvis x hx' with z|z
  ·exact .inr (jc z)
  ·exact .inl ((hka _ z).2.1 rfl).2
 ·obtain⟨o,e⟩:=hfo b hb
  exact Û (Ċ (hlt b o e))
 ·have hb':b∈fp:=hb
  rcases(hf b hb').2.2.2.1 with z|z
  ·exact I.ok.noex b o e z
  ·exact absurd (Ó (Å (I.ok.bs b o e).1) z) (ú _)
 ·have hb':b∈fp:=hb
  rcases É.mp (I.mU b hs) with z|z
  ·exact(hf b hb').2.1 z
  ·exact(hf b hb').2.2.1 z
 ·have hi:own.length<=i:=by
   by_cases hi:i<own.length
   ·rw[ü (by simpa using hi),ę] at h2
    split at h2 <;> cases h2
   ·omega
  have h1':M[i - own.length]?=some x:=by
   have q:(own++M)[i]?=some x:=h1
   rwa [ê hi] at q
  have h2':σ[i - own.length]?=some (some v):=by
   rw[ê (by simpa using hi)] at h2
   simpa using h2
  have h3':Vis (relabel scope X.env) x:=h3
  have hfr:(x,ã)∈scope.names:=by
   rcases h3' with z|z
   ·obtain⟨k,q1,q2,q3⟩:=cU (env:=X.env) (names:=scope.names) z
    rcases q3 with q3|⟨q3,_⟩
    ·subst q3
     exact absurd (Ñ h1') ((hka _ q1).1 rfl).1
    ·cases q3
   ·rcases hvis x z with y|y
    ·exact y
    ·exact absurd (Ñ h1') ((hka _ y).2.1 rfl).1
  have hkx:=((hka _ hfr).2.2 rfl).2
  obtain⟨m,hm,hl⟩:=I.loc
  obtain⟨u,ru,lu⟩:=hl _ x v (qe hk h1' (Ñ h1') hfr) h2' (by rcases hkx with z|z;exact .inr (.inl z);exact .inr (.inr z))
  refine⟨u,ru,.inr ⟨?_,?_⟩⟩
  ·rcases h3' with z|z|z
   ·obtain⟨k,q1,q2,q3⟩:=cU (env:=X.env) (names:=scope.names) z
    rcases q3 with q3|⟨q3,_⟩
    ·subst q3
     exact absurd (Ñ h1') ((hka _ q1).1 rfl).1
    ·cases q3
   ·exact .inl z
   ·exact .inr z
  ·rcases lu with ⟨z,_⟩|⟨_,c,e,ic⟩
   ·rcases hkx with q|q
    ·rw[q] at z;cases z
    ·rw[q] at z;cases z
   ·obtain⟨c',e'⟩:=ľ.mp (jc (cells:=X.env.cells) (acc:=[]) hfr)
    have e2:=(hcl x c' e').1
    rw[e] at e2
    cases e2
    obtain⟨o,ho,hd⟩:=ic
    exact⟨c,(Fi (uz hk hfr)).trans e',o,old _ _ ho,hd⟩
 ·rcases hcc x c e with ⟨z,_,_⟩|⟨z,_,_⟩
  ·obtain⟨v,o,ho,hd⟩:=I.cell x c z
   exact⟨v,o,old _ _ ho,hd⟩
  ·exact⟨none,hnc x c z⟩
 ·exact I.hok.fresh (ő _)
 ·have hp':p=(s.heap.objs.size,{ cls:=.type "list",data:=.seq #[] 0 }):=by simpa using hp
  subst hp'
  refine⟨hD,I.hok.fresh (Æ _),Û (Ŝ _),λz=>?_,λv z=>nomatch z⟩
  obtain⟨_,o,ho,_⟩:=I.stack.mem z
  exact absurd (Å ho) (ú _)
 ·show(È own.length none++σ).length=(own++M).length
  rw[Ð,Ð,ğ,I.len,iZ hk]
def wD{pins pn:List (Addr×Obj)}{σ σ':St}{H H':Hp}{s s':Shared}{fp:List Addr}{cl:List (Str×Addr)}{ys:List V}{us:List Value}{n:Nat}(I:Inv X pins σ H s)(hf:∀b∈fp,jo X pins H b)(J:Inv (X.bH own M scope ⟨cl,s.heap.objs.size+1,s,H,fp⟩) pn σ' H' s')(hp:(s.heap.objs.size,({ cls:=.type "list",data:=.seq us.toArray n }:Obj))∈pn)(hv:Vals ys us)(hz:ys.length<=sizeLine) :
  Inv X pins σ (upd H' s.heap.objs.size (.lst ys)) s'/\H' s.heap.objs.size=none:=by
 obtain⟨hD,hDn,_⟩:=J.pin _ (Ý _ hp)
 refine⟨I.call' J.os ⟨λb o e n hb hx=>J.base.keep b o e n hb hx,λb o e n hb hx=>J.base.slot b o e n hb hx,λb o e n hx=>?_,λb o e hx=>J.base.there b o e hx,λb xs e=>?_,λb o u e=>?_,λb ps e=>?_⟩ ?_ J.bare ?_,hDn⟩
 ·rw[ao (Û (Å e))]
  exact J.base.free b o e n hx
 ·have q:=J.base.tups b xs e
  rw[ao (au q hDn)]
  exact q
 ·have q:=J.base.frzs b o u e
  rw[ao (au q hDn)]
  exact q
 ·obtain⟨more,q⟩:=J.base.tbls b ps e
  exact⟨more,by rw[ao (au q hDn)];exact q⟩
 ·exact J.hok.track hDn ⟨hz,us,n,hv,hD⟩
 ·intro b hb
  exact⟨(hf b hb).2.2.2.1,(hf b hb).2.1,(hf b hb).2.2.2.2.1,(hf b hb).2.2.2.2.2⟩
def oG{pins pn:List (Addr×Obj)}{σ σ':St}{H H':Hp}{s s':Shared}{fp:List Addr}{cl:List (Str×Addr)}(hk:bf X.env scope X.N M=true)(I:Inv X pins σ H s)(hf:∀b∈fp,jo X pins H b)(hcl:∀x,(x,ã)∈scope.names->∃c,cl.lookup x=some c/\X.env.cells.lookup x=some c)(J:Inv (X.bH own M scope ⟨cl,s.heap.objs.size+1,s,H,fp⟩) pn σ' H' s'):Inv (X.bH own M scope ⟨cl,s.heap.objs.size+1,s,H,fp⟩) pn (È own.length none++σ) H' s':=by
 have hka:=bK hk
 refine⟨J.ok,J.os,J.bare,J.base,?_,J.cell,J.free,J.freeC,J.pin,J.hok,?_⟩
 ·obtain⟨mC,hmC,_⟩:=J.loc
  refine⟨mC,hmC,λi x v h1 h2 h3=>?_⟩
  have hi:own.length<=i:=by
   by_cases hi:i<own.length
   ·rw[ü (by simpa using hi),ę] at h2
    split at h2 <;> cases h2
   ·omega
  have h1':M[i - own.length]?=some x:=by
   have q:(own++M)[i]?=some x:=h1
   rwa [ê hi] at q
  have h2':σ[i - own.length]?=some (some v):=by
   rw[ê (by simpa using hi)] at h2
   simpa using h2
  have h3':Vis (relabel scope X.env) x:=h3
  have nloc:¬(relabel scope X.env).names.lookup x=some .local:=λz=>by
   obtain⟨k,q1,q2,q3⟩:=cU (env:=X.env) (names:=scope.names) z
   rcases q3 with q3|⟨q3,_⟩
   ·subst q3
    exact absurd (Ñ h1') ((hka _ q1).1 rfl).1
   ·cases q3
  have hkk:(relabel scope X.env).names.lookup x=some .cell\/(relabel scope X.env).names.lookup x=some .free:=by
   rcases h3' with z|z
   ·exact absurd z nloc
   ·exact z
  have hfr:(x,ã)∈scope.names:=by
   have key:∀q,(relabel scope X.env).names.lookup x=some q->q=.cell\/q=.free->(x,ã)∈scope.names:=λq hq hq'=>by
    obtain⟨k,h1,h2,h3⟩:=cU (env:=X.env) (names:=scope.names) hq
    rcases h3 with h3|⟨_,h3⟩
    ·subst h3
     rcases hq' with z|z
     ·rw[z] at h1;exact absurd (Ñ h1') ((hka _ h1).2.1 rfl).1
     ·rw[z] at h1;exact h1
    ·rw[h3] at h1;exact h1
   rcases hkk with hx|hx
   ·exact key _ hx (.inl rfl)
   ·exact key _ hx (.inr rfl)
  have hkx:=((hka _ hfr).2.2 rfl).2
  obtain⟨m,hm,hl⟩:=I.loc
  obtain⟨u,ru,lu⟩:=hl _ x v (qe hk h1' (Ñ h1') hfr) h2' (by rcases hkx with z|z;exact .inr (.inl z);exact .inr (.inr z))
  refine⟨u,ru,.inr ⟨hkk,?_⟩⟩
  rcases lu with ⟨z,_⟩|⟨_,c,e,ic⟩
  ·rcases hkx with q|q
   ·rw[q] at z;cases z
   ·rw[q] at z;cases z
  ·obtain⟨c',e',e2⟩:=hcl x hfr
   rw[e] at e2
   cases e2
   obtain⟨o,ho,hd⟩:=ic
   obtain⟨sl,q⟩:=J.base.any ho (I.freeC x c e) λz=>(hf c z).2.2.2.2.1 x c e rfl
   exact⟨c,e',_,q,hd⟩
 ·show(È own.length none++σ).length=(own++M).length
  rw[Ð,Ð,ğ,I.len,iZ hk]
def p8{pins:List (Addr×Obj)}{σ:St}{H:Hp}{s:Shared}{it:Addr}{fp:List Addr}{tn:Nat->Heap->Prop}{J:It}{W:Nat->Nat->List V->Hp->Prop}{E:Value->Shared->Prop}{RR:Value->Addr->Result->Shared->Prop}{Cm:Cx->Prop}(hc:∀c,Cm (X.bH own M scope c))(hk:bf X.env scope X.N M=true)(hg:∀c,PG (X.bH own M scope c) tg (g c))(ht:∀c,PTs (X.bH own M scope c) ifs (tt c))(he:∀c,PE (X.bH own M scope c) elt (te c))(I:Inv X pins σ H s)(T:TurnG Cm X.prog X.w X.K tg J fp it tn)(st:tn 0 s.heap)(hf:∀b∈fp,jo X pins H b){m0:Nat}(w0:W 0 m0 [] H){D:List V->Hp->Prop}(turn:∀(c:CB) i m ys H,W i m ys H->(J.stop i H/\D ys H) ∨
   (J.go i H/\ys.length<sizeLine/\∃N:List V->Hp->Prop,(∀ys' H',N ys' H'->∃m',m'<m/\W (i+1) m' ys' H')/\∀x H',J.yld i H x H'->g c x (È own.length none++σ) H' λσ2 H2=>tt c σ2 H2 λb H3 =>
    if b=true then te c σ2 H3 λv H4=>N (ys++[v]) H4 else N ys H3))(fin:∀s' m' ys H',(s'.heap.Ns (s.heap.objs.size+1) m')->H' (s.heap.objs.size+1)=none->H' s.heap.objs.size=none->Inv X pins σ (upd H' s.heap.objs.size (.lst ys)) s'->D ys H'->RR (.ref s.heap.objs.size) (s.heap.objs.size+1) (.ok .next) s') :
  wpAny (model X.prog X.w) X.A (newList []) (λacc s₃=>wpAny (model X.prog X.w) X.A (newFunctionEnv scope X.env.globals (cX X.env.cells scope.names []) [] X.env.qual none .none (some X.env)) (λcenv s₄ =>
   codeAny (model X.prog X.w) X.A (.compStart (.ListComp elt [⟨tg,iter,ifs,0⟩] scope pos) 0 (.ref it) acc { cenv with scope:=relabel scope X.env }) (RR acc cenv.locals) s₄) E s₃) E s:=by
 have hkk:=d7 hk
 have hka:=bK hk
 refine ě (vN ?_)
 dsimp only
 have hC:(s.heap.push { cls:=.type "list",dict:=none,data:=.seq ([]:List Value).toArray }).objs.size=s.heap.objs.size+1:=ė ..
 rw[hC]
 generalize hH2:s.heap.push { cls:=.type "list",dict:=none,data:=.seq ([]:List Value).toArray }=H2 at hC ⊢
 generalize hH3:H2.push { cls:=đ (if (some X.env:Option Env).isSome=true then "dict" else "frame"),data:=Data.dict #[] }=H3
 generalize hh1:pushCells H3 scope.names=h₁
 have hC3:H3.objs.size=s.heap.objs.size+2:=by rw[←hH3,ė,hC]
 have old3:∀b o,H3.get? b=some o->h₁.get? b=some o:=λb o e=>hh1 ▸ je _ _ _ _ e
 have old2:∀b o,H2.get? b=some o->h₁.get? b=some o:=λb o e=>old3 b o (hH3 ▸ Ä _ e)
 have old:∀b o,s.heap.get? b=some o->h₁.get? b=some o:=λb o e=>old2 b o (hH2 ▸ Ä _ e)
 have hacc:h₁.get? s.heap.objs.size=some { cls:=.type "list",data:=.seq #[] 0 }:=old2 _ _ (hH2 ▸ Ô _ rfl)
 have hns:h₁.Ns (s.heap.objs.size+1) λ_=>none:=by
  have z:=Heap.Ns.new H2 (đ (if (some X.env:Option Env).isSome=true then "dict" else "frame"))
  rw[hC,hH3] at z
  exact z.keeps old3
 have hnc:∀x c,(x,c)∈cellsFrom (s.heap.objs.size+2) scope.names []->h₁.IsCell c none:=λx c e=>by
  rw[←hC3] at e
  exact hh1 ▸ kJ _ _ _ _ e
 have hfo:∀b∈fp,∃o,s.heap.get? b=some o:=λb hb=>let ⟨o,e,_⟩:=T.obj 0 _ st b hb;⟨o,e⟩
 have st₁:tn 0 h₁:=T.keep 0 _ _ st λb _ o e=>old b o e
 have I₁:=wF (own:=own) (tk:=s.toks) hk I hf hfo hns old hacc hnc
 have loop:∀s₃:Shared,s₃={ s with heap:=h₁,toks:=s.toks } ->
   codeAny (model X.prog X.w) X.A (.compLoop (.ListComp elt [⟨tg,iter,ifs,0⟩] scope pos) 0 (.ref it) (.ref s.heap.objs.size) (compEnvC scope (cellsFrom (s.heap.objs.size+2) scope.names (cX X.env.cells scope.names [])) (s.heap.objs.size+1) X.env))
    (RR (.ref s.heap.objs.size) (s.heap.objs.size+1)) s₃:=by
  rintro s₃ rfl
  have neD:∀b∈fp,b≠s.heap.objs.size:=λb hb=>by
   obtain⟨o,e⟩:=hfo b hb
   exact Û (Å e)
  have stat:∀{H':Hp}{o:Obj},(∀b∈fp,H' b=none)->∀b∈fp,jo (X.bH own M scope ⟨cellsFrom (s.heap.objs.size+2) scope.names (cX X.env.cells scope.names []),s.heap.objs.size+1,s,H,fp⟩) [(s.heap.objs.size,o)] H' b:=λ{H' o} hn b hb =>
   ⟨hn b hb,(I₁.ok.exf b hb).1,I₁.ok.exfs b hb,.inl hb,(I₁.ok.exf b hb).2,λp hp=>by
    have hp':p=(s.heap.objs.size,o):=by simpa using hp
    subst hp'
    exact é (neD b hb)⟩
  refine zE (λk s'=>∃i ys us n H',Inv (X.bH own M scope ⟨cellsFrom (s.heap.objs.size+2) scope.names (cX X.env.cells scope.names []),s.heap.objs.size+1,s,H,fp⟩) [(s.heap.objs.size,{ cls:=.type "list",data:=.seq (us:List Value).toArray n })] (È own.length none++σ) H' s' /\
    Vals ys us/\ys.length<=sizeLine/\tn i s'.heap/\(∀b∈fp,H' b=none)/\W i k ys H') ?_ m0 ⟨0,[],[],0,H,I₁,.nil,û _,st₁,λb hb=>(hf b hb).1,w0⟩
  rintro k s3 ⟨i,ys,us,n,H3,I3,hv,hz,st3,fr3,w3⟩
  rcases turn ⟨cellsFrom (s.heap.objs.size+2) scope.names (cX X.env.cells scope.names []),s.heap.objs.size+1,s,H,fp⟩ i k ys H3 w3 with ⟨stop,d⟩|⟨go,hlt,N,hN,step⟩
  ·refine thn (T.done (X.bH own M scope ⟨cellsFrom (s.heap.objs.size+2) scope.names (cX X.env.cells scope.names []),s.heap.objs.size+1,s,H,fp⟩) rfl rfl rfl (hc _) i _ s3 _ H3 _ I3 (stat fr3) st3 stop) λr s4 ⟨hr,I4⟩=>?_
   subst hr
   obtain⟨m',hm',_⟩:=I4.loc
   obtain⟨J4,hDn⟩:=wD I hf I4 (ý.mpr rfl) hv hz
   exact fin s4 m' ys H3 hm' I4.free hDn J4 d
  ·refine thn (T.item (X.bH own M scope ⟨cellsFrom (s.heap.objs.size+2) scope.names (cX X.env.cells scope.names []),s.heap.objs.size+1,s,H,fp⟩) rfl rfl rfl (hc _) i _ s3 _ H3 _ I3 (stat fr3) st3 go) λr s4 ⟨u,hr,h4⟩=>?_
   subst hr
   refine thn h4 λ_ s5 ⟨x,H5,I5,r5,y5,st5,fr5⟩=>?_
   have I5':=I5.pinned (stat fr5) (T.obj _ _ st5)
   refine thn (hg _ _ s5 _ H5 x u _ I5' r5 (step x H5 y5)) λ_ s6 ⟨σ6,H6,I6,q6⟩=>?_
   refine thn (ht _ _ s6 σ6 H6 _ I6 q6) λb s7 ⟨H7,I7,q7⟩=>?_
   -- the turn's end: the iterator's records stand,the names are forgotten
   have clH:∀x,(x,ã)∈scope.names->∃c,(cellsFrom (s.heap.objs.size+2) scope.names (cX X.env.cells scope.names [])).lookup x=some c/\X.env.cells.lookup x=some c:=λx hx=>by
    obtain⟨c,e⟩:=I.ok.has x ((hka _ hx).2.2 rfl).2
    obtain⟨c',e'⟩:=ľ.mp (jc (cells:=X.env.cells) (acc:=[]) hx)
    rcases j8 e' with q|⟨_,q⟩
    ·simp at q
    ·rw[e] at q
     exact⟨c',(Fi (uz hk hx)).trans e',by rw[e,q];rfl⟩
   have keepT:∀{H':Hp}{σ':St}{s':Shared}{pn:List (Addr×Obj)},(∀p∈iG fp s5.heap,p∈pn)->Inv (X.bH own M scope ⟨cellsFrom (s.heap.objs.size+2) scope.names (cX X.env.cells scope.names []),s.heap.objs.size+1,s,H,fp⟩) pn σ' H' s'->tn (i+1) s'.heap/\∀b∈fp,H' b=none:=λ{H' σ' s' pn} hs I' =>
    ⟨T.keep _ _ _ st5 λb hb o e=>(I'.pin (b,o) (Ý _ (hs _ (gM hb e)))).1,λb hb=>by
     obtain⟨o,e,_⟩:=T.obj _ _ st5 b hb
     exact(I'.pin (b,o) (Ý _ (hs _ (gM hb e)))).2.1⟩
   cases b with
   |false =>
    rw[if_neg Î]
    rw[if_neg Î] at q7
    obtain⟨m',hm',w7⟩:=hN _ _ q7
    obtain⟨t7,f7⟩:=keepT (λp hp=>Ý _ hp) I7
    exact⟨m',hm',i+1,ys,us,n,H7,oG hk I hf clH I7.jH,hv,hz,t7,f7,w7⟩
   |true =>
    rw[if_pos rfl]
    rw[if_pos rfl] at q7
    refine thn (he _ _ s7 σ6 H7 _ I7 q7) λu8 s8 ⟨v8,H8,I8,r8,q8⟩=>?_
    obtain⟨m',hm',w8⟩:=hN _ _ q8
    obtain⟨t8,f8⟩:=keepT (λp hp=>Ý _ hp) I8
    obtain⟨hD8,nD8,lD8,fD8,_⟩:=I8.pin (s.heap.objs.size,{ cls:=.type "list",data:=.seq us.toArray n }) (Ý _ (Ş _ (ý.mpr rfl)))
    refine append_at (hsz:=by rw[Ë,←hv.length];exact Nat.le_of_lt hlt) hD8 λh9 hs9 hD9=>?_
    have J8:Inv (X.bH own M scope ⟨cellsFrom (s.heap.objs.size+2) scope.names (cX X.env.cells scope.names []),s.heap.objs.size+1,s,H,fp⟩) (iG fp s5.heap) σ6 H8 s8:=I8.mj λp hp=>I8.pin p (Ý _ (Ý _ hp))
    have J9:Inv (X.bH own M scope ⟨cellsFrom (s.heap.objs.size+2) scope.names (cX X.env.cells scope.names []),s.heap.objs.size+1,s,H,fp⟩) (iG fp s5.heap) σ6 H8 { s8 with heap:=h9 }:=J8.turned (t':=s8.toks) (it:=s.heap.objs.size) (λb o hb e=>(hs9.2 b hb).trans e) nD8 lD8 (.inr (Æ _))
     (λx c e z=>by
      obtain⟨v,o,ho,hd⟩:=J8.cell x c e
      rw[z,hD8] at ho
      cases ho
      cases hd)
     (λp hp=>by
      have hp':p∈iG fp s5.heap:=by simpa using hp
      exact neD _ (pO hp').1)
    obtain⟨t9,f9⟩:=keepT (λp hp=>hp) J9
    have e9:h9.get? s.heap.objs.size=some { cls:=.type "list",data:=.seq (us++[u8]).toArray (n+1) }:=by
     rw[hD9,List.push_toArray]
    have J9':Inv (X.bH own M scope ⟨cellsFrom (s.heap.objs.size+2) scope.names (cX X.env.cells scope.names []),s.heap.objs.size+1,s,H,fp⟩) [(s.heap.objs.size,{ cls:=.type "list",data:=.seq (us++[u8]).toArray (n+1) })] σ6 H8 { s8 with heap:=h9 }:=J9.mj λp hp=>by
     have hp':p=(s.heap.objs.size,{ cls:=.type "list",data:=.seq (us++[u8]).toArray (n+1) }):=by simpa using hp
     subst hp'
     exact⟨e9,nD8,lD8,fD8,λv z=>nomatch z⟩
    exact⟨m',hm',i+1,ys++[v8],us++[u8],n+1,H8,oG hk I hf clH J9',hv.append (.cons r8 .nil),by rw[Ð,í];exact hlt,t9,f9,w8⟩
 exact codeAny_compStart_list (loop _ rfl) (T.self _ 0 _ _ _ st₁ (loop _ rfl))
def qd{pins:List (Addr×Obj)}{σ:St}{H:Hp}{s:Shared}(hk:bf X.env scope X.N M=true)(I:Inv X pins σ H s):closureFor scope X.env=pure (cX X.env.cells scope.names []) :=
 wG λx hx hf=>I.ok.has x.1 ((bK hk x hx).2.2 hf).2
def qb{pins:List (Addr×Obj)}{σ:St}{H:Hp}{s s':Shared}{C:Addr}{h':Heap}{m:Str->Option Value}(I:Inv X pins σ H s')(hs:X.s₀.heap.objs.size<=C)(hC:C≠X.env.locals)(hcl:∀x c,X.env.cells.lookup x=some c->c≠C)(hp:∀p∈X.pn++pins,p.1≠C)(hn:H C=none)(hb:ũ C s'.heap h'):Inv X pins σ H { s' with heap:=h' }:=I.turned (t':=s'.toks) (λb o hb' e=>(hb.2 b hb').trans e) hn hC (.inr hs) hcl hp
def Js(own M:List Str)(hc:X.calm=true)(hi:PI X tg iter wi)(hg:∀c,PG (X.bH own M scope c) tg (g c))(ht:∀c,PTs (X.bH own M scope c) ifs (tt c))(he:∀c,PE (X.bH own M scope c) elt (te c))(hk:bf X.env scope X.N M=true:=by rfl)(hs:∀x,foldedSetIterable iter X.env x=pure x:=by intro _;rfl) :
  PE X (.ListComp elt [⟨tg,iter,ifs,0⟩] scope pos) (tLC own.length wi g tt te):=by
 intro pins s σ H Q I h
 rw[eval_ListComp]
 have hka:=bK hk
 refine wpAny_comprehension_free (use:=none) rfl hs (qd hk I) (d7 hk) (λx hx hl=>((hka x hx).1 hl).2) (thn (hi pins s σ H _ I h) λv s1 h1=>thn h1 λitv s2 h2=>?_)
 obtain⟨it,fp,tn,J,H2,e,I2,T,st2,f2,W,⟨m0,w0⟩,turn⟩:=h2
 subst e
 refine p8 (RR:=λacc C=>compPost (model X.prog X.w) X.A X.xe none (EP X pins σ Q) acc C) (D:=λys H=>∀p,H p=none->Q (.ref p) (upd H p (.lst ys))) (λ_=>hc) hk hg ht he I2 T st2 f2 w0 turn ?_
 intro s' m' ys H' hns hCn hDn J' d
 have lt2:∀{b:Addr}{o:Obj},s2.heap.get? b=some o->b≠s2.heap.objs.size+1:=λe=>Û (Ċ (Å e))
 refine⟨m',hns,λh' hb=>⟨.ref s2.heap.objs.size,_,qb (m:=m') (s:=s2) J' (ô I2.sz (ő _)) (é (Û (Ċ I2.lt))) (λx c e=>?_) (λp hp=>?_) ?_ hb,rfl,d _ hDn⟩⟩
 ·obtain⟨v,o,ho,_⟩:=I2.cell x c e
  exact lt2 ho
 ·exact lt2 (I2.pin p hp).1
 ·rw[ao (ļ (Ŝ _))]
  exact hCn
def Gd{Cm:Cx->Prop}(own M:List Str){i:Nat}{y:Str}{py spos:Pos}(hc:∀c,Cm (X.bH own M scope c))(hN:X.N.Nodup)(hiN:X.N[i]?=some y)(hx:Loc X.env.scope y)(hi:PIG Cm X tg iter wi)(hg:∀c,PG (X.bH own M scope c) tg (g c))(ht:∀c,PTs (X.bH own M scope c) ifs (tt c))(he:∀c,PE (X.bH own M scope c) elt (te c))(hsw:swapsWith (.ListComp elt [⟨tg,iter,ifs,0⟩] scope pos) (some (.Name y py)) spos.line X.env=pure true:=by rfl)(hk:bf X.env scope X.N M=true:=by rfl)(hs:∀x,foldedSetIterable iter X.env x=pure x:=by intro _;rfl)(hf:X.fn y=true\/X.env.scope.names.lookup y=some .local:=by first|exact .inl rfl|exact .inr rfl|assumption) :
  PS X (.Assign [.Name y py] (.ListComp elt [⟨tg,iter,ifs,0⟩] scope pos) spos) (vh (tLC own.length wi g tt te) (jx i)):=by
 intro pins s σ H D I h
 rw[exec_Assign_Name_used _ _ _ _ hsw]
 have hka:=bK hk
 refine À (wpAny_standAt (À ?_))
 show wpAny _ X.A (do let _ ←comprehension (.ListComp elt [⟨tg,iter,ifs,0⟩] scope pos) scope X.env _ (newList []) false (eval iter X.env) (some (assign (.Name y py) X.env))) _ _ s
 refine À (č (wpAny_comprehension_free (use:=some (assign (.Name y py) X.env)) (Q:=λ_ s'=>SP X pins D .next s') rfl hs (qd hk I) (d7 hk) (λx hx hl=>((hka x hx).1 hl).2)
  (thn (hi pins s σ H _ I h) λv s1 h1=>thn h1 λitv s2 h2=>?_)) (λ_ s' hq=>Ç (Ç hq)) λ_ _ e=>e)
 obtain⟨it,fp,tn,J,H2,e,I2,T,st2,f2,W,⟨m0,w0⟩,turn⟩:=h2
 subst e
 refine p8 (RR:=λacc C=>compPost (model X.prog X.w) X.A X.xe (some (assign (.Name y py) X.env)) (λ_ s'=>SP X pins D .next s') acc C) (D:=λys H=>∀p,H p=none->jx i (.ref p) σ (upd H p (.lst ys)) D.nx) hc hk hg ht he I2 T st2 f2 w0 turn ?_
 intro s' m' ys H' hns hCn hDn J' d
 have lt2:∀{b:Addr}{o:Obj},s2.heap.get? b=some o->b≠s2.heap.objs.size+1:=λe=>Û (Ċ (Å e))
 show wpAny _ X.A (assign (.Name y py) X.env (.ref s2.heap.objs.size)) _ _ _
 refine wpAny_assign_Name (pJ (v:=.ref s2.heap.objs.size) J' (λj h=>nO hN h hiN) hiN hx rfl (λs'' J'' ⟨a,hsb,ha⟩=>?_) hf)
 have hLne:X.env.locals≠s2.heap.objs.size+1:=Û (Ċ I2.lt)
 have hCa:s2.heap.objs.size+1≠a:=by
  rcases ha with ha|ha
  ·rw[ha];exact é hLne
  ·obtain⟨v,o,ho,_⟩:=I2.cell _ _ ha
   exact é (lt2 ho)
 refine⟨m',hns.sameBut hsb hCa,λh' hb=>⟨_,_,qb (m:=m') (s:=s2) J'' (ô I2.sz (ő _)) (é hLne) (λx c e=>?_) (λp hp=>?_) ?_ hb,d _ hDn⟩⟩
 ·obtain⟨v,o,ho,_⟩:=I2.cell x c e
  exact lt2 ho
 ·exact lt2 (I2.pin p hp).1
 ·rw[ao (ļ (Ŝ _))]
  exact hCn
def Jl(own M:List Str){i:Nat}{y:Str}{py spos:Pos}(hc:X.calm=true)(hN:X.N.Nodup)(hiN:X.N[i]?=some y)(hx:Loc X.env.scope y)(hi:PI X tg iter wi)(hg:∀c,PG (X.bH own M scope c) tg (g c))(ht:∀c,PTs (X.bH own M scope c) ifs (tt c))(he:∀c,PE (X.bH own M scope c) elt (te c))(hsw:swapsWith (.ListComp elt [⟨tg,iter,ifs,0⟩] scope pos) (some (.Name y py)) spos.line X.env=pure true:=by rfl)(hk:bf X.env scope X.N M=true:=by rfl)(hs:∀x,foldedSetIterable iter X.env x=pure x:=by intro _;rfl)(hf:X.fn y=true\/X.env.scope.names.lookup y=some .local:=by first|exact .inl rfl|exact .inr rfl|assumption) :
  PS X (.Assign [.Name y py] (.ListComp elt [⟨tg,iter,ifs,0⟩] scope pos) spos) (vh (tLC own.length wi g tt te) (jx i)):=Gd own M (λ_=>hc) hN hiN hx hi hg ht he hsw hk hs hf
def MJ(own:List Str)(hc:X.calm=true)(hi:PI X tg iter wi)(hg:∀c,PG (X.comp own scope c) tg (g c))(ht:∀c,PTs (X.comp own scope c) ifs (tt c))(he:∀c,PE (X.comp own scope c) elt (te c))(hk:gb X.env scope X.N=true:=by rfl)(hs:∀x,foldedSetIterable iter X.env x=pure x:=by intro _;rfl) :
  PE X (.ListComp elt [⟨tg,iter,ifs,0⟩] scope pos) (tLC own.length wi g tt te):=Js own X.N hc hi hg ht he (uN hk) hs
def Mz(own:List Str){i:Nat}{y:Str}{py spos:Pos}(hc:X.calm=true)(hN:X.N.Nodup)(hiN:X.N[i]?=some y)(hx:Loc X.env.scope y)(hi:PI X tg iter wi)(hg:∀c,PG (X.comp own scope c) tg (g c))(ht:∀c,PTs (X.comp own scope c) ifs (tt c))(he:∀c,PE (X.comp own scope c) elt (te c))(hsw:swapsWith (.ListComp elt [⟨tg,iter,ifs,0⟩] scope pos) (some (.Name y py)) spos.line X.env=pure true:=by rfl)(hk:gb X.env scope X.N=true:=by rfl)(hs:∀x,foldedSetIterable iter X.env x=pure x:=by intro _;rfl)(hf:X.fn y=true\/X.env.scope.names.lookup y=some .local:=by first|exact .inl rfl|exact .inr rfl|assumption) :
  PS X (.Assign [.Name y py] (.ListComp elt [⟨tg,iter,ifs,0⟩] scope pos) spos) (vh (tLC own.length wi g tt te) (jx i)):=Jl own X.N hc hN hiN hx hi hg ht he hsw (uN hk) hs hf
end
section
variable {X:Cx}{tg:Expr}{K:Ê}{g:CB->TG}{tt:CB->TT}{te:CB->TE}{σ:St}{H:Hp}{Q:VK}{n:Nat}
def Pb(K:Ê)(tl:TE):TI:=λσ H R=>tl σ H λx H1=>∃a,x=.ref a/\(((∃xs,SqL K H1 a xs)/\R (Itl K a) H1)\/((∃xs,SqT K H1 a xs)/\R (Itt K a) H1))
def vG{l:Expr}{tl:TE}(hl:PE X l tl):PI X tg l (Pb X.K tl):=by
 intro pins s σ H R I h
 refine thn (hl pins s σ H _ I h) λv s1 ⟨x,H1,I1,r1,q1⟩=>?_
 obtain⟨a,e,q1⟩:=q1
 subst e
 cases r1
 rcases q1 with ⟨⟨xs,hq⟩,q⟩|⟨⟨xs,hq⟩,q⟩
 ·obtain⟨its,rv,p,hz⟩:=I1.list hq
  refine wpAny_pyIter_list p.isList ?_
  refine⟨s1.heap.objs.size,[s1.heap.objs.size],_,_,H1,rfl,I1.kept (t':=s1.toks) λb o e=>Ä _ e,yp a _,⟨_,Ô _ rfl,rfl,rfl⟩,λb hb=>?_,q⟩
  have e:b=s1.heap.objs.size:=by simpa using hb
  subst e
  exact I1.Hi (Æ _) (I1.hok.fresh (Æ _))
 ·obtain⟨its,rv,p,hz⟩:=I1.tuple hq
  refine Ŕ (show s1.heap.IsTuple a its.toArray from p) ?_
  refine⟨s1.heap.objs.size,[s1.heap.objs.size],_,_,H1,rfl,I1.kept (t':=s1.toks) λb o e=>Ä _ e,u6 a _,⟨_,Ô _ rfl,rfl,rfl⟩,λb hb=>?_,q⟩
  have e:b=s1.heap.objs.size:=by simpa using hb
  subst e
  exact I1.Hi (Æ _) (I1.hok.fresh (Æ _))
end
end L2
namespace NfSort
open PySem PySem.W PyProof.Rows
def kwp{α:Type}(n:Nat)(key:Nat->Int):KasT α->(α->Prop)->Prop
 |.ret a,Q=>Q a
 |.ask i j k,Q=>i<n/\j<n/\kwp n key (k (decide (key i<key j))) Q
def bG{α:Type}{n:Nat}{key:Nat->Int}{Q Q':α->Prop}(h:∀a,Q a->Q' a):∀{t:KasT α},kwp n key t Q->kwp n key t Q'
 |.ret a,q=>h a q
 |.ask _ _ k,q=>⟨q.1,q.2.1,bG h q.2.2⟩
def eV{α β:Type}{n:Nat}{key:Nat->Int}{f:α->KasT β}{Q:β->Prop}:∀{t:KasT α},kwp n key t (λa=>kwp n key (f a) Q)->kwp n key (t.bind f) Q
 |.ret a,q=>q
 |.ask _ _ k,q=>⟨q.1,q.2.1,eV q.2.2⟩
def rB{α:Type}{n:Nat}{key:Nat->Int}{cmp:Nat->Nat->(Bool->Shared->Prop)->Shared->Prop}{s:Shared}{G:α->Shared->Prop}(hc:∀i j C,i<n->j<n->C (decide (key i<key j)) s->cmp i j C s) :
  ∀{t:KasT α},kwp n key t (λa=>G a s)->t.kasWp cmp G s
 |.ret _,q=>q
 |.ask i j k,q=>hc i j _ q.1 q.2.1 (rB hc q.2.2)
section
variable {n:Nat}{key:Nat->Int}{p:Array Nat}
def Pm(n:Nat)(p:Array Nat):Prop:=p.Perm (Ø n).toArray
def kk(key:Nat->Int)(p:Array Nat)(i:Nat):Int:=key (p.getD i 0)
def Pm.size(h:Pm n p):p.size=n:=by
 have:=Array.Perm.size_eq h
 simpa using this
def getD_eq(p:Array Nat)(i:Nat):p.getD i 0=(p[i]?).getD 0:=by
 by_cases h:i<p.size <;> simp[Array.getD,h]
def Pm.lt(h:Pm n p){i:Nat}(hi:i<n):p.getD i 0<n:=by
 have hs:=h.size
 have hi':i<p.size:=by omega
 have hm:p[i]∈p.toList:=by
  have:=Array.getElem_mem hi'
  simpa using this
 have hp:p.toList.Perm (Ø n):=by
  have:=Array.perm_iff_toList_perm.mp h
  simpa using this
 have e:p.getD i 0=p[i]:=by simp[Array.getD,hi']
 rw[e]
 exact ċ.mp (hp.mem_iff.mp hm)
def Pm.rev(h:Pm n p)(i j:Nat):Pm n (kas_rev p i j):=Array.Perm.trans (mirror_perm _ _ _ _) h
def Pm.bub(h:Pm n p)(i j:Nat):Pm n (bubble p i j):=Array.Perm.trans (bubble_perm _ _ _) h
def rC(h:Pm n p){i j:Nat}(hj:j<=n)(t:Nat):kk key (kas_rev p i j) t=if i<=t/\t<j then kk key p (i+j - 1 - t) else kk key p t:=by
 unfold kk kas_rev
 rw[getD_eq,getElem?_mirror_all (by rw[h.size];exact hj)]
 split
 ·rw[getD_eq]
 ·rw[getD_eq]
def J6(h:Pm n p){k l:Nat}(hk:k<n)(hl:l<=k)(t:Nat):kk key (bubble p k (k - l)) t=if t=l then kk key p k else if l<t/\t<=k then kk key p (t - 1) else kk key p t:=by
 unfold kk
 rw[getD_eq,getElem?_bubble (by rw[h.size];exact hk) _ (by omega)]
 have e:k - (k - l)=l:=by omega
 rw[e]
 split
 ·rw[getD_eq]
 ·split
  ·rw[getD_eq]
  ·rw[getD_eq]
def Up(key:Nat->Int)(p:Array Nat)(m:Nat):Prop:=∀i j,i<=j->j<m->kk key p i<=kk key p j
def Dn(key:Nat->Int)(p:Array Nat)(m:Nat):Prop:=∀i j,i<=j->j<m->kk key p j<=kk key p i
def Rn(key:Nat->Int)(p:Array Nat)(m q:Nat):Prop:=q+1<=m/\∀t,m<=t+q+1->t<m->kk key p t=kk key p (m - 1)
def Up.more{a:Nat}(h:Up key p a)(h1:1<=a)(hx:kk key p (a - 1)<=kk key p a):Up key p (a+1):=λi j hij hj=>by
 by_cases hja:j<a
 ·exact h i j hij hja
 ·obtain rfl:j=a:=by omega
  by_cases hi:i=j
  ·subst hi;exact Š _
  ·exact Int.le_trans (h i (j - 1) (by omega) (by omega)) hx
def Dn.more{a:Nat}(h:Dn key p a)(h1:1<=a)(hx:kk key p a<=kk key p (a - 1)):Dn key p (a+1):=λi j hij hj=>by
 by_cases hja:j<a
 ·exact h i j hij hja
 ·obtain rfl:j=a:=by omega
  by_cases hi:i=j
  ·subst hi;exact Š _
  ·exact Int.le_trans hx (h i (j - 1) (by omega) (by omega))
def wJ(hp:Pm n p):∀(f a:Nat),1<=a->a+f<=n->Up key p a->kwp n key (kas_asc p f a) (λm=>a<=m/\m<=a+f/\Up key p m/\(m<a+f->kk key p m<kk key p (m - 1)))
 |0,a,h1,hf,hu=>⟨Æ _,Æ _,hu,λh=>absurd h (by omega)⟩
 |f+1,a,h1,hf,hu=>by
  refine⟨hp.lt (by omega),hp.lt (by omega),?_⟩
  by_cases hc:key (p.getD a 0)<key (p.getD (a - 1) 0)
  ·(rw[decide_eq_true hc];dsimp only;rw[if_pos rfl])
   exact⟨Æ _,by omega,hu,λ_=>hc⟩
  ·(rw[decide_eq_false hc];dsimp only;rw[if_neg Î])
   refine bG (λm ⟨a1,a2,a3,a4⟩=>⟨by omega,by omega,a3,λh=>a4 (by omega)⟩) (wJ hp f (a+1) (by omega) (by omega) (hu.more h1 (Int.not_lt.mp hc)))
def wV(hp:Pm n p){a q:Nat}(ha:a<=n)(hr:Rn key p a q)(t:Nat):kk key (kas_rev p (a - (q+1)) a) t=kk key p t:=by
 rw[rC hp ha]
 split
 ·rename_i h
  rw[hr.2 t (by omega) h.2]
  exact hr.2 _ (by have:=hr.1;omega) (by omega)
 ·rfl
def Dn.eq{p':Array Nat}{m:Nat}(h:Dn key p m)(e:∀t,kk key p' t=kk key p t):Dn key p' m:=λi j a b=>by rw[e,e];exact h i j a b
def xV:∀(f:Nat) (p:Array Nat) (a q:Nat),Pm n p->1<=a->a+f<=n->Dn key p a->Rn key p a q ->
  kwp n key (kas_desc f p a q) (λr=>Pm n r.1/\a<=r.2.1/\r.2.1<=a+f/\Dn key r.1 r.2.1/\Rn key r.1 r.2.1 r.2.2)
 |0,p,a,q,hp,h1,hf,hd,hr=>⟨hp,Æ _,Æ _,hd,hr⟩
 |f+1,p,a,q,hp,h1,hf,hd,hr=>by
  refine⟨hp.lt (by omega),hp.lt (by omega),?_⟩
  have fin:∀{p':Array Nat}{q':Nat},Pm n p'->Dn key p' (a+1)->Rn key p' (a+1) q'->kwp n key (kas_desc f p' (a+1) q') (λr=>Pm n r.1/\a<=r.2.1/\r.2.1<=a+(f+1)/\Dn key r.1 r.2.1/\Rn key r.1 r.2.1 r.2.2):=λx y z =>
   bG (λr ⟨a1,a2,a3,a4,a5⟩=>⟨a1,by omega,by omega,a4,a5⟩) (xV f _ (a+1) _ x (by omega) (by omega) y z)
  have rn0:∀p':Array Nat,Rn key p' (a+1) 0:=λp'=>⟨by omega,λt h1 h2=>by
   have e:t=a+1 - 1:=by omega
   rw[e]⟩
  by_cases hc:key (p.getD a 0)<key (p.getD (a - 1) 0)
  ·(rw[decide_eq_true hc];dsimp only;rw[if_pos rfl])
   have hc':kk key p a<kk key p (a - 1):=hc
   by_cases hq:q > 0
   ·rw[if_pos hq]
    have e:=wV (key:=key) hp (by omega) hr
    exact fin (hp.rev _ _) ((hd.more h1 (Int.le_of_lt hc')).eq e) (rn0 _)
   ·rw[if_neg hq]
    exact fin hp (hd.more h1 (Int.le_of_lt hc')) (rn0 _)
  ·(rw[decide_eq_false hc];dsimp only;rw[if_neg Î])
   refine⟨hp.lt (by omega),hp.lt (by omega),?_⟩
   by_cases hc2:key (p.getD (a - 1) 0)<key (p.getD a 0)
   ·(rw[decide_eq_true hc2];dsimp only;rw[if_pos rfl])
    exact⟨hp,Æ _,(by show a<=a+(f+1);omega),hd,hr⟩
   ·(rw[decide_eq_false hc2];dsimp only;rw[if_neg Î])
    have e:kk key p a=kk key p (a - 1):=Int.le_antisymm (Int.not_lt.mp hc2) (Int.not_lt.mp hc)
    refine fin hp (hd.more h1 (Int.le_of_eq e)) ⟨by have:=hr.1;omega,λt t1 t2=>?_⟩
    show _=kk key p a
    by_cases ht:t=a
    ·rw[ht]
    ·rw[e]
     exact hr.2 t (by omega) (by omega)
def sJ{a:Nat}(hp:Pm n p)(h1:1<=a)(ha:a<=n)(hd:Dn key p a):kwp n key (kas_tail3 a n p) (λr=>Pm n r.2/\1<=r.1/\r.1<=n/\Up key r.2 r.1):=by
 unfold kas_tail3
 have hu:Up key (kas_rev p 0 a) a:=λi j hij hj=>by
  rw[rC hp ha,rC hp ha,if_pos ⟨by omega,by omega⟩,if_pos ⟨by omega,hj⟩]
  exact hd _ _ (by omega) (by omega)
 refine eV (bG (λm ⟨a1,a2,a3,_⟩=>?_) (wJ (hp.rev 0 a) (n - a) a h1 (by omega) hu))
 exact⟨hp.rev 0 a,by omega,by omega,a3⟩
def lQ{a:Nat}(hp:Pm n p)(ha:a+1<=n)(hd:Dn key p (a+1)):kwp n key (kas_descPart a n p) (λr=>Pm n r.2/\1<=r.1/\r.1<=n/\Up key r.2 r.1):=by
 unfold kas_descPart
 refine eV (bG (λr ⟨a1,a2,a3,a4,a5⟩=>?_) (xV (n - (a+1)) p (a+1) 0 hp (by omega) (by omega) hd ⟨by omega,λt h1 h2=>by
  have e:t=a+1 - 1:=by omega
  rw[e]⟩))
 split
 ·exact sJ (a1.rev _ _) (by omega) (by omega) (a4.eq (wV a1 (by omega) a5))
 ·exact sJ a1 (by omega) (by omega) a4
def Fg(hp:Pm n p)(h1:1<=n):kwp n key (kas_count n p) (λr=>Pm n r.2/\1<=r.1/\r.1<=n/\Up key r.2 r.1):=by
 unfold kas_count
 have u1:Up key p 1:=λi j hij hj=>by
  have e:i=j:=by omega
  rw[e];exact Š _
 refine eV (bG (λm ⟨a1,a2,a3,a4⟩=>?_) (wJ hp (n - 1) 1 (Æ _) (by omega) u1))
 by_cases hm:m=n
 ·rw[if_pos (by simpa using hm)]
  exact⟨hp,by omega,by omega,a3⟩
 ·rw[if_neg (by simpa using hm)]
  have hlt:=a4 (by omega)
  by_cases hm1:m > 1
  ·rw[if_pos hm1]
   refine⟨hp.lt (by omega),hp.lt (by omega),?_⟩
   by_cases hc:key (p.getD 0 0)<key (p.getD (m - 1) 0)
   ·(rw[decide_eq_true hc];dsimp only;rw[if_pos rfl])
    exact⟨hp,by omega,by omega,a3⟩
   ·(rw[decide_eq_false hc];dsimp only;rw[if_neg Î])
    have hall:∀t,t<m->kk key p t=kk key p 0:=λt ht=>by
     have e1:=a3 0 t (by omega) ht
     have e2:=a3 t (m - 1) (by omega) (by omega)
     have e3:kk key p (m - 1)<=kk key p 0:=Int.not_lt.mp hc
     omega
    have e:∀t,kk key (kas_rev p 0 m) t=kk key p t:=λt=>by
     rw[rC hp (by omega)]
     split
     ·rename_i h
      rw[hall t h.2,hall _ (by omega)]
     ·rfl
    refine lQ (hp.rev 0 m) (by omega) (Dn.eq (p:=p) (Dn.more (λi j hij hj=>?_) (by omega) (Int.le_of_lt hlt)) e)
    rw[hall i (by omega),hall j hj]
    exact Š _
  ·rw[if_neg hm1]
   obtain rfl:m=1:=by omega
   refine lQ hp (by omega) (Dn.more (λi j hij hj=>?_) (by omega) (Int.le_of_lt hlt))
   have e:i=j:=by omega
   rw[e];exact Š _
def nj{k:Nat}(hp:Pm n p)(hk:k<n)(hu:Up key p k):∀(f l r:Nat),l<=r->r<=k->r<=l+f->(∀t,t<l->kk key p t<=kk key p k)->(∀t,r<=t->t<k->kk key p k<kk key p t) ->
  kwp n key (kas_place p k f l r) (λl'=>l'<=k/\(∀t,t<l'->kk key p t<=kk key p k)/\(∀t,l'<=t->t<k->kk key p k<kk key p t))
 |0,l,r,h1,h2,h3,h4,h5=>⟨by omega,h4,λt a b=>h5 t (by omega) b⟩
 |f+1,l,r,h1,h2,h3,h4,h5=>by
  unfold kas_place
  by_cases hlr:l ≥ r
  ·rw[if_pos hlr]
   exact⟨by omega,h4,λt a b=>h5 t (by omega) b⟩
  ·rw[if_neg hlr]
   have hm:(l+r) / 2<r:=by omega
   refine⟨hp.lt hk,hp.lt (by omega),?_⟩
   by_cases hc:key (p.getD k 0)<key (p.getD ((l+r) / 2) 0)
   ·(rw[decide_eq_true hc];dsimp only;rw[if_pos rfl])
    have hc':kk key p k<kk key p ((l+r) / 2):=hc
    exact nj hp hk hu f l _ (by omega) (by omega) (by omega) h4 λt a b=>Int.lt_of_lt_of_le hc' (hu _ t a b)
   ·(rw[decide_eq_false hc];dsimp only;rw[if_neg Î])
    have hc':kk key p ((l+r) / 2)<=kk key p k:=Int.not_lt.mp hc
    exact nj hp hk hu f _ r (by omega) (by omega) (by omega) (λt a=>Int.le_trans (hu t _ (by omega) (by omega)) hc') h5
def Fo:∀(f:Nat) (p:Array Nat) (k:Nat),Pm n p->k+f<=n->Up key p k->kwp n key (kas_bin f p k) (λp'=>Pm n p'/\Up key p' (k+f))
 |0,p,k,hp,hk,hu=>⟨hp,hu⟩
 |f+1,p,k,hp,hk,hu=>by
  unfold kas_bin
  refine eV (bG (λl ⟨a1,a2,a3⟩=>?_) (nj hp (by omega) hu k 0 k (û _) (Æ _) (by omega) (λt h=>absurd h (by omega)) (λt h1 h2=>absurd h1 (by omega))))
  have e:=J6 (key:=key) hp (k:=k) (by omega) a1
  have hu':Up key (bubble p k (k - l)) (k+1):=λi j hij hj=>by
   rw[e,e]
   by_cases hi:i=l
   ·rw[if_pos hi]
    by_cases hj':j=l
    ·rw[if_pos hj'];exact Š _
    ·rw[if_neg hj',if_pos ⟨by omega,by omega⟩]
     exact Int.le_of_lt (a3 _ (by omega) (by omega))
   ·rw[if_neg hi]
    by_cases hi2:l<i/\i<=k
    ·rw[if_pos hi2,if_neg (by omega),if_pos ⟨by omega,by omega⟩]
     exact hu _ _ (by omega) (by omega)
    ·rw[if_neg hi2]
     by_cases hj':j=l
     ·rw[if_pos hj']
      exact a2 i (by omega)
     ·rw[if_neg hj']
      by_cases hj2:l<j/\j<=k
      ·rw[if_pos hj2]
       exact hu _ _ (by omega) (by omega)
      ·rw[if_neg hj2]
       exact hu _ _ hij (by omega)
  refine bG (λp' ⟨b1,b2⟩=>⟨b1,?_⟩) (Fo f _ (k+1) (hp.bub _ _) (by omega) hu')
  have e2:k+(f+1)=k+1+f:=by omega
  rw[e2];exact b2
def Fz(h1:1<=n):kwp n key (kas_sort n) (λp=>Pm n p/\Up key p n):=by
 unfold kas_sort
 refine eV (bG (λr ⟨a1,a2,a3,a4⟩=>?_) (Fg (p:=(Ø n).toArray) (Array.Perm.refl _) h1))
 have e:max r.1 1=r.1:=by omega
 rw[e]
 split
 ·refine bG (λp' ⟨b1,b2⟩=>⟨b1,?_⟩) (Fo (n - r.1) r.2 r.1 a1 (by omega) a4)
  have e2:r.1+(n - r.1)=n:=by omega
  rw[e2] at b2;exact b2
 ·have e2:r.1=n:=by omega
  rw[e2] at a4
  exact⟨a1,a4⟩
end
end NfSort
namespace L2
open PySem PySem.Spec PyProof.Rows
section
variable {prog:Program}{w:World}{A:Around}{E:Value->Shared->Prop}{s:Shared}
end
section
variable {X:Cx}{pos:Pos}
def Hh(K:Ê)(n:Nat)(t:TGs):TG:=λv σ H Q=>∃a xs,v=.ref a/\SqL K H a xs/\xs.length=n/\t xs σ H Q
end
section
variable {X:Cx}
def sy:aW X (.builtin "isinstance") (λxs H Q=>∃x c t b,xs=[x,.ty c]/\TyOf X.K H x t/\Ĳ X.K t (.type c)=some b/\Q (.bl b) H):=by
 intro pins s σ H xs us Q I r h
 obtain⟨x,c,t,b,rfl,ty,e,q⟩:=h
 obtain⟨u,u2,rfl,rx,rc⟩:=vals2 r
 cases rc
 exact yU I rx ty e λtk=>⟨.bl b,H,I.tok _,rfl,q⟩
def su:aW X (.builtin "isinstance") (λxs H Q=>∃x p c1 c2 t b,xs=[x,.ref p]/\TyOf X.K H x t/\SqT X.K H p [.ty c1,.ty c2]/\W.kitAny X.K t [.type c1,.type c2]=some b/\Q (.bl b) H):=by
 intro pins s σ H xs us Q I r h
 obtain⟨x,p,c1,c2,t,b,rfl,ty,hp,e,q⟩:=h
 obtain⟨u,u2,rfl,rx,rc⟩:=vals2 r
 cases rc
 obtain⟨its,rv,⟨o,ho,hcl,n,hd⟩,hz⟩:=I.tuple hp
 obtain⟨v1,v2,rfl,r1,r2⟩:=vals2 rv
 cases r1
 cases r2
 obtain⟨oc,od,odt,osl⟩:=o
 cases hcl
 cases hd
 have fin:∀tk,EP X pins σ Q (.bool b) { s with toks:=tk }:=λtk=>⟨.bl b,H,I.tok _,rfl,q⟩
 cases ty with
 |non=>cases (show u=ð from rx);exact ŀ W.kitx_none I.kIn Ď ho e (λz=>nomatch z) fin
 |bl y=>cases (show u=ū y from rx);exact ŀ W.kitx_bool I.kIn Ď ho e (λz=>nomatch z) fin
 |int i=>obtain⟨t,q⟩:=(show ∃t,u=Ē i t from rx);cases q;exact ŀ W.kitx_int I.kIn Ď ho e (λz=>nomatch z) fin
 |str y=>obtain⟨t,q⟩:=(show ∃t,u=Value.str y t from rx);cases q;exact ŀ W.kitx_str I.kIn Ď ho e (λz=>nomatch z) fin
 |flt y=>obtain⟨t,q⟩:=(show ∃t,u=Value.float y t from rx);cases q;exact ŀ W.kitx_float I.kIn Ď ho e (λz=>nomatch z) fin
 |@lst a xs ea =>
  cases (show u=æ a from rx)
  obtain⟨_,_,n,_,h1⟩:=(show aM X.prog X.w H s.heap a (.lst xs) from I.hok a _ ea)
  exact ŀ W.kitx_list I.kIn ⟨_,h1,rfl⟩ ho e (λz=>nomatch z) fin
 |@frz a ob xs ea =>
  cases (show u=æ a from rx)
  obtain⟨_,_,_,n,_,h1⟩:=(show aM X.prog X.w H s.heap a (.frz ob (.lst xs)) from I.hok a _ ea)
  exact ŀ W.kitx_list I.kIn ⟨_,h1,rfl⟩ ho e (λz=>nomatch z) fin
 |@tup a xs ea =>
  cases (show u=æ a from rx)
  obtain⟨_,_,_,p⟩:=(show aM X.prog X.w H s.heap a (.tup xs) from I.hok a _ ea)
  obtain⟨o,h1,h2,_⟩:=p
  exact ŀ W.kitx_tuple I.kIn ⟨o,h1,h2⟩ ho e (λz=>nomatch z) fin
 |@dK a kvs ea =>
  cases (show u=æ a from rx)
  obtain⟨_,_,vs,_,p⟩:=(show aM X.prog X.w H s.heap a (.dK kvs) from I.hok a _ ea)
  obtain⟨o,es,ep,h1,h2,_⟩:=p
  exact ŀ W.kitx_dict I.kIn ⟨o,h1,h2.1⟩ ho e (λz=>nomatch z) fin
 |@dT a kvs ea =>
  cases (show u=æ a from rx)
  obtain⟨_,_,xs,_,o,es,ep,h1,h2,_⟩:=(show aM X.prog X.w H s.heap a (.dT kvs) from I.hok a _ ea)
  exact ŀ W.kitx_dict I.kIn ⟨o,h1,h2.1⟩ ho e (λz=>nomatch z) fin
 |@ins a C dx fs ea cl ha hn htk hm =>
  cases (show u=æ a from rx)
  obtain⟨mA,O,_⟩:=xH I.hok ea
  obtain⟨od,J,_⟩:=O.look
  exact ŀ (W.kitx_own (cl.get _) cl.hd ha hn htk hm) I.kIn J ho e (λz=>nomatch z) fin
def wL:∀{bs:List Bool}{us:List Value},Vals (bs.map V.bl) us->us=bs.map ū
 |[],_,h=>by cases h;rfl
 |b::bs,_,h=>by
  cases h with
  |cons r t =>
   cases r
   rw[wL t]
   rfl
def all_range(bs:List Bool):(Ø bs.length).all (λi=>bs.getD i true)=bs.all id:=by
 rw[ņ]
 simp only[ć,List.mem_range]
 constructor
 ·intro h x hx
  obtain⟨i,hi,e⟩:=List.mem_iff_getElem.mp hx
  have q:=h i hi
  simp[hi] at q
  rw[←e];exact q
 ·intro h i hi
  have q:=h bs[i] (List.getElem_mem hi)
  simpa[hi] using q
def zX(hc:X.calm=true):aW X (.builtin "all") (λxs H Q=>∃(p:Addr) (bs:List Bool),xs=[.ref p]/\SqL X.K H p (bs.map V.bl)/\Q (.bl (bs.all id)) H):=by
 intro pins s σ H xs us Q I r h
 obtain⟨p,bs,rfl,hp,q⟩:=h
 obtain⟨u,rfl,rx⟩:=vals1 r
 cases rx
 obtain⟨its,rv,pl,hz⟩:=I.list hp
 have e:=wL rv
 subst e
 have hlt:p≠s.heap.objs.size:=by obtain⟨o,ho,_⟩:=pl.isList;exact Û (Å ho)
 refine call_all_walk (wpAny_pyIter_list pl.isList ?_)
 refine⟨_,_,_,_,_,_,λi=>bs.getD i true,rfl,Walks.list (A:=X.A.in1) (I.ok.hd hc) _ p hlt _,⟨⟨_,Ô _ rfl,rfl,rfl⟩,pl.isList.push _⟩,?_,λh' tk hk=>?_⟩
 ·intro i v s Q E hP hQ
  have hP':(bs.map ū)[i]?=some v:=by simpa using hP
  rw[Þ] at hP'
  cases hb:bs[i]? with
  |none=>rw[hb] at hP';cases hP'
  |some b =>
   rw[hb] at hP'
   cases hP'
   refine ĩ ?_
   have e:bs.getD i true=b:=by rw[ë,hb];rfl
   have hQ':Q (bs.getD i true) s:=hQ
   rw[e] at hQ'
   exact hQ'
 ·have e:(Ø (bs.map ū).toArray.size).all (λi=>bs.getD i true)=bs.all id:=by
   rw[Ë,Á]
   exact all_range bs
  rw[e]
  refine⟨.bl (bs.all id),H,I.kept λb o eb=>hk b o ?_ (Ä _ eb),rfl,q⟩
  intro hm
  have:b=s.heap.objs.size:=by simpa using hm
  exact absurd (Å eb) (by rw[this];exact ú _)
def zM(hc:X.calm=true):aW X (.builtin "min") (λxs H Q=>∃p a b,xs=[.ref p]/\SqT X.K H p [.int a,.int b]/\Q (.int (if b<a then b else a)) H):=by
 intro pins s σ H xs us Q I r h
 obtain⟨p,a,b,rfl,hp,q⟩:=h
 obtain⟨u,rfl,rx⟩:=vals1 r
 cases rx
 obtain⟨its,rv,pl,hz⟩:=I.tuple hp
 obtain⟨v1,v2,rfl,⟨t1,rfl⟩,⟨t2,rfl⟩⟩:=vals2 rv
 have pl':s.heap.IsTuple p (intItems #[(a,t1),(b,t2)]):=by
  have z:s.heap.IsTuple p #[Ē a t1,Ē b t2]:=pl
  simpa[intItems] using z
 have hlt:p<s.heap.objs.size:=by obtain⟨o,ho,_⟩:=pl;exact Å ho
 refine call_min_walk (Ŕ pl' ?_)
 refine⟨_,[s.heap.objs.size,p],[s.heap.objs.size],_,_,_,_,rfl,Walks.tuple (A:=X.A.in1) (I.ok.hd hc) _ p (Û hlt) (intItems #[(a,t1),(b,t2)]),⟨⟨_,Ô _ rfl,rfl,rfl⟩,pl'.push _⟩,λc hc=>?_,by simp[intItems],
  CmpOf.ints_lt (numAt #[(a,t1),(b,t2)]) (λ_ _=>intItems_at),λv h' tk hP hk=>?_⟩
 ·show c<(s.heap.push _).objs.size
  rw[ė]
  rcases É.mp hc with rfl|hc
  ·exact Ŝ _
  ·have:c=p:=by simpa using hc
   rw[this];exact Ċ hlt
 ·have hv:v=if b<a then Ē b t2 else Ē a t1:=by
   have hP':(intItems #[(a,t1),(b,t2)])[argBest (λi j=>decide (numAt #[(a,t1),(b,t2)] i<numAt #[(a,t1),(b,t2)] j)) 1]?=some v:=by
    have hsz2:(intItems #[(a,t1),(b,t2)]).size - 1=1:=by simp[intItems]
    rw[←hsz2];exact hP
   by_cases hba:b<a
   ·have e:argBest (λi j=>decide (numAt #[(a,t1),(b,t2)] i<numAt #[(a,t1),(b,t2)] j)) 1=1:=by simp[argBest,numAt,hba]
    rw[e] at hP'
    simpa[intItems,hba] using hP'.symm
   ·have e:argBest (λi j=>decide (numAt #[(a,t1),(b,t2)] i<numAt #[(a,t1),(b,t2)] j)) 1=0:=by simp[argBest,numAt,hba]
    rw[e] at hP'
    simpa[intItems,hba] using hP'.symm
  subst hv
  refine⟨.int (if b<a then b else a),H,I.kept λb o eb=>hk b o ?_ (Ä _ eb),?_,q⟩
  ·intro hm
   have:b=s.heap.objs.size:=by simpa using hm
   exact absurd (Å eb) (by rw[this];exact ú _)
  ·by_cases hba:b<a
   ·rw[if_pos hba,if_pos hba];exact⟨_,rfl⟩
   ·rw[if_neg hba,if_neg hba];exact⟨_,rfl⟩
def zR(hc:X.calm=true):aW X (.builtin "max") (λxs H Q=>∃p a b,xs=[.ref p]/\SqT X.K H p [.int a,.int b]/\Q (.int (if b > a then b else a)) H):=by
 intro pins s σ H xs us Q I r h
 obtain⟨p,a,b,rfl,hp,q⟩:=h
 obtain⟨u,rfl,rx⟩:=vals1 r
 cases rx
 obtain⟨its,rv,pl,hz⟩:=I.tuple hp
 obtain⟨v1,v2,rfl,⟨t1,rfl⟩,⟨t2,rfl⟩⟩:=vals2 rv
 have pl':s.heap.IsTuple p (intItems #[(a,t1),(b,t2)]):=by
  have z:s.heap.IsTuple p #[Ē a t1,Ē b t2]:=pl
  simpa[intItems] using z
 have hlt:p<s.heap.objs.size:=by obtain⟨o,ho,_⟩:=pl;exact Å ho
 refine call_max_walk (Ŕ pl' ?_)
 refine⟨_,[s.heap.objs.size,p],[s.heap.objs.size],_,_,_,_,rfl,Walks.tuple (A:=X.A.in1) (I.ok.hd hc) _ p (Û hlt) (intItems #[(a,t1),(b,t2)]),⟨⟨_,Ô _ rfl,rfl,rfl⟩,pl'.push _⟩,λc hc=>?_,by simp[intItems],
  CmpOf.ints_gt (numAt #[(a,t1),(b,t2)]) (λ_ _=>intItems_at),λv h' tk hP hk=>?_⟩
 ·show c<(s.heap.push _).objs.size
  rw[ė]
  rcases É.mp hc with rfl|hc
  ·exact Ŝ _
  ·have:c=p:=by simpa using hc
   rw[this];exact Ċ hlt
 ·have hv:v=if b > a then Ē b t2 else Ē a t1:=by
   have hP':(intItems #[(a,t1),(b,t2)])[argBest (λi j=>decide (numAt #[(a,t1),(b,t2)] i > numAt #[(a,t1),(b,t2)] j)) 1]?=some v:=by
    have hsz2:(intItems #[(a,t1),(b,t2)]).size - 1=1:=by simp[intItems]
    rw[←hsz2];exact hP
   by_cases hba:b > a
   ·have e:argBest (λi j=>decide (numAt #[(a,t1),(b,t2)] i > numAt #[(a,t1),(b,t2)] j)) 1=1:=by simp[argBest,numAt,hba]
    rw[e] at hP'
    simpa[intItems,hba] using hP'.symm
   ·have e:argBest (λi j=>decide (numAt #[(a,t1),(b,t2)] i > numAt #[(a,t1),(b,t2)] j)) 1=0:=by simp[argBest,numAt,hba]
    rw[e] at hP'
    simpa[intItems,hba] using hP'.symm
  subst hv
  refine⟨.int (if b > a then b else a),H,I.kept λb o eb=>hk b o ?_ (Ä _ eb),?_,q⟩
  ·intro hm
   have:b=s.heap.objs.size:=by simpa using hm
   exact absurd (Å eb) (by rw[this];exact ú _)
  ·by_cases hba:b > a
   ·rw[if_pos hba,if_pos hba];exact⟨_,rfl⟩
   ·rw[if_neg hba,if_neg hba];exact⟨_,rfl⟩
def Kl{prog:Program}{w:World}{A:Around}{E:Value->Shared->Prop}{s:Shared}{l:Addr}{n:Nat}{x:Int}{t:Tok}{u:Value}{Q:Value->Shared->Prop}{its:List Value}(ho:s.heap.get? l=some { cls:=.type "list",data:=.seq its.toArray n })(hfit:¬(!Builtin.List.listFitsIndex x)=true)(hsz:its.toArray.size<=sizeLine)(h:Q .none { s with heap:=s.heap.update l (ò λxs=>(xs.extract 0 (if x<0 then (x+(xs.size:Int)).toNat else min x.toNat xs.size)).push u++xs.extract (if x<0 then (x+(xs.size:Int)).toNat else min x.toNat xs.size)),toks:=s.toks }) :
  wpAny (model prog w) A (call (.builtin "list.insert") [.ref l,.int x t,u]) Q E s:=by
 generalize its.toArray=ia at ho hsz
 exact call_meets PySem.F.slot_list_insert ⟨_,ho,rfl⟩ PySem.F.entry_list_insert (PySem.F.args_list_insert_3 _ _ _) (PySem.AutoSeq1.list_insert_list_int_val_1 l ia n x t u hfit hsz) ⟨ho,h⟩
def wW:V->List V->Hp->VK->Prop:=λx vs H Q=>∃l xs k y,x=.ref l/\vs=[.int (k:Nat),y]/\H l=some (.lst xs)/\k<=xs.length/\xs.length<sizeLine/\Q .non (upd H l (.lst (xs.take k++y::xs.drop k)))
def yK:MtM X "list.insert" wW:=by
 intro pins s σ H x vs v us Q I rx rv h
 obtain⟨l,xs,k,y,rfl,rfl,hH,hk,hz,q⟩:=h
 cases rx
 obtain⟨u1,u,rfl,⟨t,rfl⟩,ru⟩:=rv.two
 obtain⟨z,its,n,r,hl,e⟩:=I.vO hH
 have h24:(sizeLine:Nat)=16777216:=ì
 have hfit:¬(!Builtin.List.listFitsIndex (k:Int))=true:=by
  have q1:decide (-(2 ^ 63:Int)<=(k:Int))=true:=decide_eq_true (by omega)
  have q2:decide ((k:Int)<2 ^ 63)=true:=decide_eq_true (by omega)
  unfold Builtin.List.listFitsIndex
  rw[q1,q2]
  exact Î
 have hsz:its.toArray.size<=sizeLine:=by
  have e1:its.toArray.size=xs.length:=(Ë ..).trans hl.symm
  rw[e1]
  exact z
 have hx0:¬((k:Int)<0):=by omega
 have hxk:(k:Int).toNat=k:=Ŗ k
 generalize hx:(k:Int)=x at hfit hx0 hxk
 refine Kl (its:=its) e hfit hsz ?_
 refine⟨.non,_,I.JZ (its':=its.take k++u::its.drop k) hH e ?_ ?_ ?_,rfl,q⟩
 ·have hm:min k its.length=k:=by omega
  have e2:=W.kl_ins_eq its k u
  simp only[hx0,if_false,hxk,Ë,hm]
  exact e2
 ·exact(r.take k).append (.cons ru (r.drop k))
 ·rw[Ð,ç,Ĕ,ā]
  omega
def zJ:aW X (.type "range") (λxs H Q=>∃j,xs=[.int j]/\∀p,H p=none->Q (.ref p) (upd H p (.rng 0 j))):=by
 intro pins s σ H xs us Q I r h
 obtain⟨j,rfl,q⟩:=h
 obtain⟨u,rfl,t,rfl⟩:=vals1 r
 refine call_range_1 ?_
 exact⟨.ref s.heap.objs.size,_,I.laid (o:=.rng 0 j) (λb o e=>Ä _ e) (Æ _) ⟨_,_,_,Ô _ rfl⟩,rfl,q _ I.fresh⟩
def sW(lo hi:Int):List V:=(Ø (hi - lo).toNat).map λi=>V.int (lo+(i:Nat))
def uZ{lo:Int}:∀{n:Nat}{us:List Value},us.length=n->(∀j v,us[j]?=some v->∃t,v=Ē (lo+(j:Nat) * 1) t)->Vals ((Ø n).map λi=>V.int (lo+(i:Nat))) us:=by
 intro n us hl h
 have key:∀(us:List Value) (k:Nat),(∀j v,us[j]?=some v->∃t,v=Ē (lo+((k+j:Nat):Int)) t)->Vals ((List.range' k us.length).map λi=>V.int (lo+(i:Nat))) us:=by
  intro us
  induction us with
  |nil=>intro k _;exact .nil
  |cons u us ih =>
   intro k hk
   obtain⟨t,e⟩:=hk 0 u (by simp)
   rw[ç,List.range'_succ,Ą]
   refine .cons ⟨t,by simpa using e⟩ (ih (k+1) λj v hv=>?_)
   obtain⟨t,e⟩:=hk (j+1) v (by simpa using hv)
   exact⟨t,by rw[e];congr 2;omega⟩
 have q:=key us 0 λj v hv=>by
  obtain⟨t,e⟩:=h j v hv
  exact⟨t,by rw[e];simp⟩
 rw[hl,←List.range_eq_range'] at q
 exact q
def pB(hc:X.calm=true):aW X (.type "list") (λxs H Q=>∃p lo hi,xs=[.ref p]/\H p=some (.rng lo hi)/\(-1000<=lo/\lo<=1000/\-1000<=hi/\hi<=1000)/\∀l,H l=none->Q (.ref l) (upd H l (.lst (sW lo hi)))):=by
 intro pins s σ H xs us Q I r h
 obtain⟨p,lo,hi,rfl,hp,⟨b1,b2,b3,b4⟩,q⟩:=h
 obtain⟨u,rfl,rx⟩:=vals1 r
 cases rx
 obtain⟨t,u,v,e⟩:=I.hok p _ hp
 have hsz:Builtin.Range.rangeSize lo hi 1=(((hi - lo).toNat:Nat):Int):=by rw[rangeSize_one];split <;> omega
 refine call_list_range (I.ok.hd hc) (show IsRange s.heap p lo hi 1 t u v from e) (small_one (by omega) (by omega) (by omega) (by omega)) hsz (by omega) λh' tk acc' c' hk ho ⟨hn,hit⟩=>?_
 have hv:Vals (sW lo hi) acc'.toList:=uZ (by simpa using hn) λj w hw=>hit j w (by simpa using hw)
 refine⟨.ref s.heap.objs.size,_,I.laid (o:=.lst (sW lo hi)) hk (Æ _) ⟨?_,acc'.toList,c',hv,by simpa using ho⟩,rfl,q _ I.fresh⟩
 unfold sW
 rw[Á,ĵ,ì]
 omega
end
abbrev Tie:=Int×Int
def Pr(H:Hp)(v:V)(t:Tie):Prop:=∃p,v=.ref p/\H p=some (.tup [.int t.1,.int t.2])
abbrev Prs(H:Hp):List V->List Tie->Prop:=Paired (Pr H)
def aH(t:Tie):Int:=64 * t.1+t.2
def gj(t:Tie):Prop:=0<=t.2/\t.2<64
def code_inj{a b:Tie}(ha:gj a)(hb:gj b)(h:aH a=aH b):a=b:=by
 obtain⟨a1,a2⟩:=a
 obtain⟨b1,b2⟩:=b
 unfold gj aH at *
 simp only at *
 have e:a1=b1:=by omega
 have e2:a2=b2:=by omega
 rw[e,e2]
def jd(h:Heap)(u:Value)(t:Tie):Prop:=∃a o t1 t2 n,u=.ref a/\h.get? a=some o/\o.cls=.type "tuple"/\o.data=.seq #[.int t.1 t1,.int t.2 t2] n
def jd.keep{h h':Heap}{u:Value}{t:Tie}(x:jd h u t)(k:∀a o,h.get? a=some o->o.cls=.type "tuple"->h'.get? a=some o):jd h' u t:=by
 obtain⟨a,o,t1,t2,n,e,ho,hc,hd⟩:=x
 exact⟨a,o,t1,t2,n,e,k a o ho hc,hc,hd⟩
def MF{α β:Type}{F:α->β->Prop}{l₁:List α}{l₂:List β}(h:Paired F l₁ l₂):∀{i:Nat}{b:β},l₂[i]?=some b->∃a,l₁[i]?=some a/\F a b:=by
 induction h with
 |nil=>intro i x e;simp at e
 |cons r t ih =>
  intro i x e
  cases i with
  |zero=>simp at e;subst e;exact⟨_,rfl,r⟩
  |succ i =>
   obtain⟨c,e1,f⟩:=ih (by simpa using e)
   exact⟨c,by simpa using e1,f⟩
def Bx{α β:Type}{F:α->β->Prop}{l₁:List α}{l₂:List β}(h:Paired F l₁ l₂)(da:α)(db:β):∀(p:List Nat),(∀i∈p,i<l₂.length)->Paired F (p.map λi=>l₁.getD i da) (p.map λi=>l₂.getD i db)
 |[],_=>.nil
 |i::p,hp=>by
  have hi:i<l₂.length:=hp i Ì
  obtain⟨a,e,f⟩:=MF h (i:=i) (b:=l₂[i]) (by simp[hi])
  refine .cons ?_ (Bx h da db p λj hj=>hp j (Ï _ hj))
  have e1:l₁.getD i da=a:=by rw[ë,e];rfl
  have e2:l₂.getD i db=l₂[i]:=by simp[hi]
  show F (l₁.getD i da) (l₂.getD i db)
  rw[e1,e2]
  exact f
def Mj{α:Type}:∀us:List α,List.map (λx=>x.snd) (us.zip us)=us
 |[]=>rfl
 |u::us=>by rw[List.zip_cons_cons,Ą,Mj us]
def iR{α:Type}(l:List α)(d:α):(Ø l.length).map (λi=>l.getD i d)=l:=by
 apply List.ext_getElem
 ·simp
 ·intro i h1 h2
  simp at h1 ⊢
  simp[h1]
section
variable {X:Cx}{pins:List (Addr×Obj)}{σ:St}{H:Hp}{s:Shared}
def Inv.pairs(I:Inv X pins σ H s):∀{vs:List V}{ts:List Tie}{us:List Value},Prs H vs ts->Vals vs us->Paired (jd s.heap) us ts
 |_,_,_,.nil,r=>by cases r;exact .nil
 |_,_,_,.cons p q,r=>by
  cases r with
  |cons r rr =>
   refine .cons ?_ (I.pairs q rr)
   obtain⟨a,rfl,e⟩:=p
   cases r
   obtain⟨_,its,rv,⟨o,ho,hc,n,hd⟩⟩:=I.hok a _ e
   obtain⟨v1,v2,rfl,⟨t1,rfl⟩,⟨t2,rfl⟩⟩:=vals2 rv
   exact⟨a,o,t1,t2,n,rfl,ho,hc,hd⟩
end
section
variable {prog:Program}{w:World}{A:Around}{E:Value->Shared->Prop}{s:Shared}
def Dm{x y:Value}{a b:Tie}{Q:Bool->Shared->Prop}(hx:jd s.heap x a)(hy:jd s.heap y b)(na:gj a)(nb:gj b)(h:Q (decide (aH a<aH b)) s):wpAny (model prog w) A (keyLt' (tuples' true) x y) Q E s:=by
 obtain⟨p,o,t1,t2,n,rfl,ho,hc,hd⟩:=hx
 obtain⟨p',o',t1',t2',n',rfl,ho',hc',hd'⟩:=hy
 obtain⟨a1,a2⟩:=a
 obtain⟨b1,b2⟩:=b
 unfold gj at na nb
 simp only at na nb
 refine W.kat_lt ho hd ho' hd' ?_
 refine W.kat_cons (wpAny_eqBool_int ?_)
 by_cases e1:a1=b1
 ·subst e1
  rw[beq_self_eq_true]
  refine W.kat_yes (W.kat_cons (wpAny_eqBool_int ?_))
  by_cases e2:a2=b2
  ·subst e2
   rw[beq_self_eq_true]
   refine W.kat_yes (W.kat_nil ?_)
   have e:decide (aH (a1,a2)<aH (a1,a2))=false:=decide_eq_false (Int.lt_irrefl _)
   rw[e] at h
   exact h
  ·rw[beq_eq_false_iff_ne.mpr e2]
   refine W.kat_no (W.kat_one _ _ (lt_int ?_))
   have e:decide (aH (a1,a2)<aH (a1,b2))=decide (a2<b2):=by
    apply decide_eq_decide.mpr
    unfold aH
    omega
   rw[e] at h
   exact h
 ·rw[beq_eq_false_iff_ne.mpr e1]
  refine W.kat_no (oneLt_int ?_)
  have e:decide (aH (a1,a2)<aH (b1,b2))=decide (a1<b1):=by
   apply decide_eq_decide.mpr
   unfold aH
   simp only
   constructor
   ·intro h;omega
   ·intro h;omega
  rw[e] at h
  exact h
def DN:∀{us:List Value}{ts:List Tie},Paired (jd s.heap) us ts->∃fs,W.KatTups s.heap us fs/\fs.length=us.length/\∀v∈fs,∃i t,v=Ē i t
 |_,_,.nil=>⟨[],.nil,rfl,λ_ h=>nomatch h⟩
 |_,_,.cons p q=>by
  obtain⟨a,o,t1,t2,n,rfl,ho,hc,hd⟩:=p
  obtain⟨fs,k,hl,hv⟩:=DN q
  refine⟨_::fs,.cons ho hc hd (f:=Ē _ t1) rfl k,by simp[hl],λv hv'=>?_⟩
  rcases É.mp hv' with rfl|h
  ·exact⟨_,_,rfl⟩
  ·exact hv v h
def Li{n:Nat}{key:Nat->Int}{p:Array Nat}(hp:NfSort.Pm n p)(h1:1<=n)(hs:NfSort.Up key p n):NfSort.kwp n key (W.kas_count n p) (λr=>r.1=n/\r.2=p):=by
 unfold W.kas_count
 have go:∀(f a:Nat),1<=a->a+f=n->NfSort.kwp n key (W.kas_asc p f a) (λm=>m=n):=by
  intro f
  induction f with
  |zero=>intro a _ h;exact h
  |succ f ih =>
   intro a ha h
   refine⟨hp.lt (by omega),hp.lt (by omega),?_⟩
   have hc:¬key (p.getD a 0)<key (p.getD (a - 1) 0):=Int.not_lt.mpr (hs (a - 1) a (by omega) (by omega))
   rw[decide_eq_false hc]
   exact ih (a+1) (by omega) (by omega)
 refine NfSort.eV (NfSort.bG (λm e=>?_) (go (n - 1) 1 (Æ _) (by omega)))
 rw[if_pos (by simpa using e)]
 exact⟨e,rfl⟩
open PySem.W in
def FJ{prog:Program}{w:World}{A:Around}{E:Value->Shared->Prop}{κ:SortKind}{it:Array Keyed}{n:Nat}{Q:Unit->SortSt->Shared->Prop}{G:Array Nat->Shared->Prop}{s:Shared}(h2:2<=n)(hmr:minRun' n n 0<=n)(hG:∀p' st' s',p'.size=n->arrOf st'=p'.map (kas_item it)->failedOf st'=none->G p' s'->Q () st' s')(h:(kas_count n (ģ (Ø n))).kasWp (kas_cmp prog w A κ it) (λr s'=>r.1=n/\G r.2 s') s) :
  kasC (model prog w) A E sortRuns' Q (kas_st κ it (ģ (Ø n))) s:=by
 obtain⟨r,rfl⟩:∃r,n=r+2:=⟨n - 2,by omega⟩
 have hrs:(ģ (Ø (r+2))).size=r+2:=by simp
 rw[sortRuns'_eq]
 refine kasC_bind (kasC_get ?_)
 dsimp only
 have hsz:(arrOf (kas_st κ it (ģ (Ø (r+2))))).size=r+2:=by
  show((ģ (Ø (r+2))).map (kas_item it)).size=_
  rw[Array.size_map,hrs]
 simp only[hsz]
 refine kasC_bind (kasC_range ?_)
 show kasC _ _ _ (forIn (0::1::List.range' 2 r) _ _) _ _ _
 refine kasC_cons ?_
 dsimp only
 rw[if_neg (by omega)]
 simp only[Nat.sub_zero,Nat.zero_add]
 refine kasC_bind (kas_count_ (by omega) (by rw[hrs];exact Æ _) (λm p' s' hm1 hm2 hp hg=>?_) h)
 have hps:p'.size=r+2:=hp.trans hrs
 obtain⟨e,hg⟩:=hg
 have e':m=r+2:=e
 subst e'
 dsimp only
 rw[if_neg (by omega)]
 refine kasC_bind (kasC_get ?_)
 rw[show(pendingOf (kas_st κ it p')).back?=none from rfl]
 dsimp only
 refine kasC_bind (kasC_modify (kasC_pure ?_))
 show kasC _ _ _ (forIn (1::List.range' 2 r) _ _) _ _ _
 refine kasC_cons ?_
 dsimp only
 rw[if_pos (Æ _)]
 refine kasC_pure ?_
 dsimp only
 refine kasC_bind (kasC_range ?_)
 show kasC _ _ _ (forIn (0::1::List.range' 2 r) _ _) _ _ _
 refine kasC_cons ?_
 refine kasC_bind (kasC_get ?_)
 rw[if_pos (show(pendingOf (setPending (kas_st κ it p') ((pendingOf (kas_st κ it p')).push (0,r+2,0)))).size<=1 from Æ 1)]
 refine kasC_pure ?_
 dsimp only
 exact kasC_pure (hG p' _ _ hps rfl rfl hg)
def Srt(ts:List Tie):Prop:=ts.length<64\/ts.length=300/\∀i j,i<=j->j<ts.length->aH (ts.getD i (0,0))<=aH (ts.getD j (0,0))
def Srt.lt{ts:List Tie}:Srt ts->ts.length<512
 |.inl h=>by omega
 |.inr h=>by omega
def yu{a:Addr}{us:List Value}{ts:List Tie}{n:Nat}{P:PySem.Fin->Shared->Prop}(ho:s.heap.get? a=some (seqObj "list" us.toArray n))(hp:Paired (jd s.heap) us ts)(hn:∀t∈ts,gj t)(h64:Srt ts)(h:∀p:List Nat,p.Perm (Ø us.length)->(∀i j,i<=j->j<us.length->aH (ts.getD (p.getD i 0) (0,0))<=aH (ts.getD (p.getD j 0) (0,0))) ->
   P (.done (.ret .none)) { s with heap:=sortedHeap s.heap a us (p.map λi=>us.getD i ð).toArray }) :
  wpAny (model prog w) A (Builtin.«list.sort» ⟨[.ref a],[]⟩) P E s:=by
 have hlen:=hp.length
 have hbig:=h64.lt
 have h24:=ì
 rw[list_sort_plain]
 have ha:a<s.heap.objs.size:=Å ho
 refine À (listItems_at ho rfl ?_)
 refine À (listUpdate_at ho rfl ?_ (by rw[Ë,ì];omega) (û _))
 obtain⟨e1,ho1⟩:∃e1,(s.heap.update a (ò λ_=>(#[]:Array Value))).get? a=some (seqObj "list" #[] e1):=⟨_,get?_update_seq ho (λ_=>#[])⟩
 refine À (seqEpoch_at ho1 rfl ?_)
 refine À (wpAny_newTuple ?_ (by show us.length<=_;rw[ì];omega))
 refine À (wpAny_newList ?_ (û _))
 refine ŧ ?_
 have ho6:(((s.heap.update a (ò λ_=>(#[]:Array Value))).push (seqObj "tuple" us.toArray 0)).push (seqObj "list" #[] 0)).get? a=some (seqObj "list" #[] e1):=by
  rw[ĳ _ _ _ (by rw[size_push',Ś];exact Û (Ċ ha)),ĳ _ _ _ (by rw[Ś];exact Û ha)]
  exact ho1
 have kept:∀b o,s.heap.get? b=some o->o.cls=.type "tuple"->(((s.heap.update a (ò λ_=>(#[]:Array Value))).push (seqObj "tuple" us.toArray 0)).push (seqObj "list" #[] 0)).get? b=some o:=λb o q hc=>by
  have hlt:b<s.heap.objs.size:=Å q
  have hne:b≠a:=λz=>by
   rw[z,ho] at q
   cases q
   have z2:(đ "list")=đ "tuple":=hc
   injection z2 with z3
   exact absurd z3 (by decide)
  rw[ĳ _ _ _ (by rw[size_push',Ś];exact Û (Ċ hlt)),ĳ _ _ _ (by rw[Ś];exact Û hlt),Heap.get?_update_ne _ _ _ _ hne]
  exact q
 show wpAny (model prog w) A _ P E { s with heap:=((s.heap.update a (ò λ_=>(#[]:Array Value))).push (seqObj "tuple" us.toArray 0)).push (seqObj "list" #[] 0) }
 dsimp only
 have hsz:us.toArray.size=us.length:=by simp
 have hp6:Paired (jd (((s.heap.update a (ò λ_=>(#[]:Array Value))).push (seqObj "tuple" us.toArray 0)).push (seqObj "list" #[] 0))) us ts:=Paired.Dj hp λu t x=>x.keep kept
 by_cases h2:us.toArray.size<2
 ·rw[if_pos h2,if_pos h2]
  refine À (Ç ?_)
  rw[StateT.run_pure]
  refine À (Ç ?_)
  dsimp only
  have eout:(arrOf (SortSt.mk' general' (us.toArray.zip us.toArray) #[] 7 none)).map (·.2)=((Ø us.length).map λi=>us.getD i ð).toArray:=by
   rw[iR]
   show(us.toArray.zip us.toArray).map (·.2)=us.toArray
   apply Array.toList_inj.mp
   simp
   exact Mj us
  rw[eout]
  refine À (seqEpoch_at ho6 rfl ?_)
  refine À (listUpdate_at ho6 rfl ?_ (û _) (by rw[Ë,Á,ĵ,ì];omega))
  simp only[bne_self_eq_false,Bool.false_eq_true,if_false]
  refine Ç (h _ (Ž _) λi j hij hj=>?_)
  have:i=j:=by omega
  subst this
  exact Š _
 ·rw[if_neg h2,if_neg h2]
  have h2':2<=us.length:=by omega
  obtain⟨fs,hk,hfl,hfi⟩:=DN (s:={ s with heap:=((s.heap.update a (ò λ_=>(#[]:Array Value))).push (seqObj "tuple" us.toArray 0)).push (seqObj "list" #[] 0) }) hp6
  refine À (W.kat_kind (T:=.type "int") hk (by omega) (λv hv=>by obtain⟨i,t,rfl⟩:=hfi v hv;exact W.Looks.of_pure rfl) rfl ?_)
  have hcmp:∀i j C,i<us.length->j<us.length->C (decide (aH (ts.getD i (0,0))<aH (ts.getD j (0,0)))) { s with heap:=((s.heap.update a (ò λ_=>(#[]:Array Value))).push (seqObj "tuple" us.toArray 0)).push (seqObj "list" #[] 0) } ->
    W.kas_cmp prog w A (tuples' true) (us.toArray.zip us.toArray) i j C { s with heap:=((s.heap.update a (ò λ_=>(#[]:Array Value))).push (seqObj "tuple" us.toArray 0)).push (seqObj "list" #[] 0) }:=λi j C hi hj hC=>by
   unfold W.kas_cmp
   rw[W.kat_item rfl,W.kat_item rfl]
   have key:∀k,k<us.length->jd (((s.heap.update a (ò λ_=>(#[]:Array Value))).push (seqObj "tuple" us.toArray 0)).push (seqObj "list" #[] 0)) (us.getD k ð) (ts.getD k (0,0))/\gj (ts.getD k (0,0)):=λk hk=>by
    have hk':k<ts.length:=by omega
    have ek:ts.getD k (0,0)=ts[k]:=by simp[hk']
    obtain⟨u,eu,pu⟩:=MF hp6 (i:=k) (b:=ts[k]) (by simp[hk'])
    have eu':us.getD k ð=u:=by rw[ë,eu];rfl
    rw[ek,eu']
    exact⟨pu,hn _ (List.getElem_mem hk')⟩
   exact Dm (key i hi).1 (key j hj).1 (key i hi).2 (key j hj).2 hC
  have G:W.kasC (model prog w) A E sortRuns' (λ_ st' s'=>∃p:Array Nat,s'={ s with heap:=((s.heap.update a (ò λ_=>(#[]:Array Value))).push (seqObj "tuple" us.toArray 0)).push (seqObj "list" #[] 0) }/\arrOf st'=p.map (W.kas_item (us.toArray.zip us.toArray))/\failedOf st'=none/\NfSort.Pm us.length p/\NfSort.Up (λi=>aH (ts.getD i (0,0))) p us.length) (W.kas_st (tuples' true) (us.toArray.zip us.toArray) (ģ (Ø us.length))) { s with heap:=((s.heap.update a (ò λ_=>(#[]:Array Value))).push (seqObj "tuple" us.toArray 0)).push (seqObj "list" #[] 0) }:=by
   rcases h64 with h64|⟨h64,hs⟩
   ·exact W.kas_runs (G:=λp s'=>s'={ s with heap:=((s.heap.update a (ò λ_=>(#[]:Array Value))).push (seqObj "tuple" us.toArray 0)).push (seqObj "list" #[] 0) }/\NfSort.Pm us.length p/\NfSort.Up (λi=>aH (ts.getD i (0,0))) p us.length) h2' (by omega) (λp' st' s' a1 a2 a3 a4=>⟨p',a4.1,a2,a3,a4.2⟩)
     (NfSort.rB hcmp (NfSort.bG (λp hp=>⟨rfl,hp⟩) (NfSort.Fz (by omega))))
   ·have hu:NfSort.Up (λi=>aH (ts.getD i (0,0))) (ģ (Ø us.length)) us.length:=λi j hij hj=>by
     unfold NfSort.kk
     have eg:∀k,k<us.length->(ģ (Ø us.length)).getD k 0=k:=λk hk=>by simp[Array.getD,hk]
     rw[eg i (by omega),eg j hj]
     exact hs i j hij (by omega)
    exact FJ (G:=λp s'=>s'={ s with heap:=((s.heap.update a (ò λ_=>(#[]:Array Value))).push (seqObj "tuple" us.toArray 0)).push (seqObj "list" #[] 0) }/\NfSort.Pm us.length p/\NfSort.Up (λi=>aH (ts.getD i (0,0))) p us.length) h2' (by rw[hlen,h64];decide +kernel) (λp' st' s' a1 a2 a3 a4=>⟨p',a4.1,a2,a3,a4.2⟩)
     (NfSort.rB (G:=λr s'=>r.1=us.length/\s'={ s with heap:=((s.heap.update a (ò λ_=>(#[]:Array Value))).push (seqObj "tuple" us.toArray 0)).push (seqObj "list" #[] 0) }/\NfSort.Pm us.length r.2/\NfSort.Up (λi=>aH (ts.getD i (0,0))) r.2 us.length) hcmp (NfSort.bG (λr ⟨e1,e2⟩=>⟨e1,rfl,by rw[e2];exact⟨Array.Perm.refl _,hu⟩⟩) (Li (Array.Perm.refl _) (by omega) hu)))
  have est:SortSt.mk' (tuples' true) (us.toArray.zip us.toArray) #[] 7 none=W.kas_st (tuples' true) (us.toArray.zip us.toArray) (ģ (Ø us.length)):=by
   have e:=W.kas_range (us.toArray.zip us.toArray)
   rw[show(us.toArray.zip us.toArray).size=us.length by simp] at e
   show SortSt.mk' (tuples' true) (us.toArray.zip us.toArray) #[] 7 none=SortSt.mk' (tuples' true) ((ģ (Ø us.length)).map (W.kas_item (us.toArray.zip us.toArray))) #[] 7 none
   rw[e]
  have eT:tuples' (đ "int" != đ "tuple")=tuples' true:=rfl
  rw[eT,est]
  refine À (č G ?_ λ_ _ e=>e)
  rintro⟨⟨⟩,st'⟩ s' ⟨p,rfl,har,hf,hpm,hup⟩
  dsimp only
  have hout:=W.kat_snds (ks:=us) (vs:=us) rfl har
  rw[hout]
  have hsz2:p.size=us.length:=hpm.size
  refine À (seqEpoch_at ho6 rfl ?_)
  refine À (listUpdate_at ho6 rfl ?_ (û _) (by rw[Ë,Á,Ă,hsz2,ì];omega))
  rw[hf]
  simp only[bne_self_eq_false,Bool.false_eq_true,if_false]
  refine Ç (h p.toList ?_ λi j hij hj=>?_)
  ·have:=Array.perm_iff_toList_perm.mp hpm
   simpa using this
  ·have q:=hup i j hij hj
   unfold NfSort.kk at q
   have eg:∀k,p.toList.getD k 0=p.getD k 0:=λk=>by
    rw[NfSort.getD_eq,ë]
    simp
   rw[eg,eg]
   exact q
def oJ{l:Addr}{vs:List Value}{Q:List Value->Shared->Prop}(hl:IsTup s.heap l vs.toArray)(h:Q vs { s with heap:=(s.heap.push (seqObj "list" #[] 0)).update s.heap.objs.size (ò (·++vs.toArray)) })(hsz:vs.length<=sizeLine) :
  wpAny (model prog w) A (collect (.ref l)) Q E s:=by
 obtain⟨o,ho,hc,n,hd⟩:=id hl
 unfold collect
 refine À (wpAny_runValue (codeAny_builtin entry_proto_collect' ?_))
 show wpAny _ _ (do again (.builtin "list.__iadd__" ⟨[←newList [],.ref l],[]⟩)) _ _ s
 refine À (wpAny_newList (Ç ⟨Code.quiet_builtin _ (by decide +kernel),codeAny_builtin entry_list_iadd' ?_⟩))
 show wpAny _ _ (Builtin.List.listExtendWith (.ref s.heap.objs.size) (.ref l) (.ref s.heap.objs.size)) _ _ { s with heap:=s.heap.push (seqObj "list" #[] 0) }
 unfold Builtin.List.listExtendWith
 have ho':(s.heap.push (seqObj "list" #[] 0)).get? l=some o:=Ä _ ho
 refine À (wpAny_typeOf (T:="tuple") ⟨o,ho',hc⟩ ?_)
 have ht:(đ "tuple" == đ "tuple")=true:=by rfl
 rw[if_pos (by rw[ht];simp)]
 refine À (listItems_at ho' hd ?_)
 refine À (listItems_at (xs:=#[]) (n:=0) (Ô _ rfl) rfl ?_)
 rw[if_neg (by simp)]
 refine À (listUpdate_at (xs:=#[]) (n:=0) (Ô _ rfl) rfl ?_ (û _) (by show(#[]++vs.toArray).size<=sizeLine+1;simp only[Array.size_append,Ë,List.length_nil];omega))
 refine Ç ?_
 show wpAny (model prog w) A (do
   let o ←load s.heap.objs.size
   match o.data with
   |.seq xs _=>pure xs.toList
   |_=>unsupported "internal:collect") Q E { s with heap:=(s.heap.push (seqObj "list" #[] 0)).update s.heap.objs.size (ò (·++vs.toArray)) }
 refine À (wpAny_load (get?_update_seq (Ô _ rfl) _) ?_)
 show wpAny _ _ (pure ((#[]:Array Value)++vs.toArray).toList) Q E _
 rw[show((#[]:Array Value)++vs.toArray).toList=vs by simp]
 exact Ç h
def qy{l:Addr}{us:List Value}{ts:List Tie}{Q:Value->Shared->Prop}(hl:s.heap.IsList l us.toArray\/IsTup s.heap l us.toArray)(hp:Paired (jd s.heap) us ts)(hn:∀t∈ts,gj t)(h64:Srt ts)(h:∀p:List Nat,p.Perm (Ø us.length)->(∀i j,i<=j->j<us.length->aH (ts.getD (p.getD i 0) (0,0))<=aH (ts.getD (p.getD j 0) (0,0))) ->
   Q (.ref (s.heap.objs.size+1)) { s with heap:=sortedAll s.heap us (p.map λi=>us.getD i ð).toArray }) :
  wpAny (model prog w) A (call (.builtin "sorted") [.ref l]) Q E s:=by
 have h24:=ì
 have hlen:=hp.length
 have hbig:=h64.lt
 refine Calls.call_function_entry kind_sorted plain_sorted entry_sorted (args_sorted1 _) ?_
 unfold Builtin.«sorted»
 refine À (m:=checkCount "sorted" 1 1 _) (Ç ?_)
 have hsz:((s.heap.push (seqObj "list" #[] 0)).update s.heap.objs.size (ò (·++us.toArray))).objs.size=s.heap.objs.size+1:=by
  rw[Ś,size_push']
 have hoL:(((s.heap.push (seqObj "list" #[] 0)).update s.heap.objs.size (ò (·++us.toArray))).push (seqObj "list" us.toArray 0)).get? (s.heap.objs.size+1)=some (seqObj "list" us.toArray 0):=by
  rw[←hsz];exact Ô _ rfl
 have keep:∀b o,s.heap.get? b=some o->(((s.heap.push (seqObj "list" #[] 0)).update s.heap.objs.size (ò (·++us.toArray))).push (seqObj "list" us.toArray 0)).get? b=some o:=λb o q=>by
  have hlt:b<s.heap.objs.size:=Å q
  rw[ĳ _ _ _ (by rw[hsz];exact Û (Ċ hlt)),Heap.get?_update_ne _ _ _ _ (Û hlt),ĳ _ _ _ (Û hlt)]
  exact q
 have go:∀{Q':List Value->Shared->Prop},Q' us { s with heap:=(s.heap.push (seqObj "list" #[] 0)).update s.heap.objs.size (ò (·++us.toArray)) }->wpAny (model prog w) A.in1 (collect (.ref l)) Q' (λe s'=>E e s') s:=λ{Q'} hq=>by
  rcases hl with hl|hl
  ·exact collect_list hl hq (by omega)
  ·exact oJ hl hq (by omega)
 refine À (go ?_)
 refine À (wpAny_newList ?_ (by omega))
 show wpAny _ _ _ _ _ { s with heap:=((s.heap.push (seqObj "list" #[] 0)).update s.heap.objs.size (ò (·++us.toArray))).push (seqObj "list" us.toArray 0) }
 rw[hsz]
 refine À (ŧ (Ņ slot_list_sort ⟨_,hoL,rfl⟩ entry_list_sort (yu hoL (Paired.Dj hp λu t x=>x.keep λa o e _=>keep a o e) hn h64 λp a1 a2=>⟨_,rfl,?_⟩) (args_list_sort _)))
 exact Ç ⟨_,rfl,h p a1 a2⟩
end
section
variable {X:Cx}
def sO{ts:List Tie}{p:List Nat}(hp:p.Perm (Ø ts.length))(h:∀i j,i<=j->j<ts.length->aH (ts.getD (p.getD i 0) (0,0))<=aH (ts.getD (p.getD j 0) (0,0))) :
  (p.map λi=>ts.getD i (0,0)).Perm ts/\(p.map λi=>ts.getD i (0,0)).Pairwise (λa b=>aH a<=aH b):=by
 refine⟨?_,?_⟩
 ·have q:=hp.map λi=>ts.getD i (0,0)
  rw[iR] at q
  exact q
 ·have hl:p.length=ts.length:=by simpa using hp.length_eq
  rw[List.pairwise_iff_getElem]
  intro i j hi hj hij
  rw[Á] at hi hj
  have q:=h i j (by omega) (by omega)
  have ei:p.getD i 0=p[i]:=by simp[hi]
  have ej:p.getD j 0=p[j]:=by simp[hj]
  rw[ei,ej] at q
  simpa using q
def rW:aW X (.builtin "sorted") (λxs H Q=>∃(p:Addr) (vs:List V) (ts:List Tie),xs=[.ref p]/\(SqL X.K H p vs\/SqT X.K H p vs)/\Prs H vs ts/\(∀t∈ts,gj t)/\Srt ts /\
  ∀l ws us,H l=none->Prs H ws us->us.Perm ts->us.Pairwise (λa b=>aH a<=aH b)->Q (.ref l) (upd H l (.lst ws))):=by
 intro pins s σ H xs us Q I r h
 obtain⟨p,vs,ts,rfl,hp,hpr,hn,h64,q⟩:=h
 obtain⟨u,rfl,rx⟩:=vals1 r
 cases rx
 have h24:=ì
 have fin:∀its:List Value,Vals vs its->(s.heap.IsList p its.toArray\/IsTup s.heap p its.toArray)->wpAny (model X.prog X.w) X.A (call (.builtin "sorted") [.ref p]) (EP X pins σ Q) X.xe s:=λits rv hl=>by
  have hpv:=I.pairs hpr rv
  have hlen:=hpr.length
  have hlen2:=rv.length
  have hbig:=h64.lt
  refine qy hl hpv hn h64 λpp hpp hord=>?_
  have eits:its.length=ts.length:=by omega
  rw[eits] at hpp hord
  obtain⟨hperm,hpw⟩:=sO hpp hord
  have hlt:∀i∈pp,i<ts.length:=λi hi=>ċ.mp (hpp.mem_iff.mp hi)
  have hw:=Bx hpr V.non (0,0) pp hlt
  have hvv:Vals (pp.map λi=>vs.getD i V.non) (pp.map λi=>its.getD i ð):=Bx rv V.non ð pp λi hi=>by have:=hlt i hi;omega
  obtain⟨e,he⟩:=sortedAll_at s.heap its (pp.map λi=>its.getD i ð).toArray
  refine⟨.ref (s.heap.objs.size+1),upd H (s.heap.objs.size+1) (.lst (pp.map λi=>vs.getD i V.non)),I.laid (t':=s.toks) (λb o eb=>sortedAll_old eb) (ő _) ?_,rfl,q _ _ _ (I.hok.fresh (ő _)) hw hperm hpw⟩
  refine⟨?_,_,e,hvv,he⟩
  have hl3:pp.length=ts.length:=by simpa using hpp.length_eq
  rw[Á]
  omega
 rcases hp with hp|hp
 ·obtain⟨its,rv,pl,hz⟩:=I.list hp
  exact fin its rv (.inl pl.isList)
 ·obtain⟨its,rv,pl,hz⟩:=I.tuple hp
  exact fin its rv (.inr pl)
def pD(t:Tie):PyData:=.tuple [.int t.1,.int t.2]
inductive DatV(K:Ê)(H:Hp):V->PyData->Prop
 |lst {a:Addr}{vs:List V}{ts:List Tie}:SqL K H a vs->Prs H vs ts->DatV K H (.ref a) (.list (ts.map pD))
 |tup {a:Addr}{vs:List V}{ts:List Tie}:SqT K H a vs->Prs H vs ts->DatV K H (.ref a) (.tuple (ts.map pD))
 |web {a b:Addr}{n:Int}{vs:List V}{ts:List Tie}:SqT K H a [.int n,.ref b]->SqT K H b vs->Prs H vs ts->DatV K H (.ref a) (.tuple [.int n,.tuple (ts.map pD)])
end
end L2
namespace L2
open PySem PySem.Spec PyProof.Rows HT
section
variable {prog:Program}{w:World}{A:Around}{E:Value->Shared->Prop}{s:Shared}
end
section
variable {X:Cx}{e:Expr}{te:TE}{p1 p2 p3 pos:Pos}
end
end L2
namespace PySem
open Sem (wp)
open AutoSeq1 (wpAny_loadPart')
section
variable {prog:Program}{w:World}{A:Around}{E:Value->Shared->Prop}{s:Shared}
def dz{it l:Addr}{i:Nat}{items}{x:Value}{Q:Value->Shared->Prop}(hit:s.heap.IsTupleIter it l i)(hl:s.heap.IsTuple l items)(hx:items[i]?=some x)(hQ:∀h',h'.IsTupleIter it l (i+1)->ũ it s.heap h'->Q x { s with heap:=h' }) :
  wpAny (model prog w) A (õ (.ref it)) Q E s:=by
 obtain⟨o,ho,hc,hd⟩:=id hit
 obtain⟨ol,hol,_,nl,hdl⟩:=hl
 unfold õ
 refine À (Į (name:=á "__next__") hit.typeIs Ğ
  (Ņ Ğ hit.typeIs PyProof.Rows.entry_tupleiter_next ?_ (PyProof.Rows.args_tupleiter_next _)))
 show wpAny _ _ (field (.ref it) 0 >>= _) _ _ s
 refine À (þ ho hd (x:=.ref l) rfl ?_)
 show wpAny _ _ (if (æ l == ð)=true then _ else _) _ _ s
 rw[if_neg (show ¬((æ l == ð)=true) from Î)]
 show wpAny _ _ (field (.ref it) 1 >>= _) _ _ s
 refine À (þ ho hd (x:=.int i 0) rfl ?_)
 show wpAny _ _ (seqItems? (.ref l) >>= _) _ _ s
 refine À (ĭ hol hdl ?_)
 simp only[Ŗ,hx]
 refine À (ŷ ho hd (by simp) (Ç ⟨x,rfl,Ç (hQ _ ?_ (Heap.SameBut.update ..))⟩))
 exact⟨_,Heap.get?_update_self _ ho (ř (Ŋ hd _)),(Obj.cls_mapFields ..).trans hc,by
  rw[Ŋ hd];simp[rawInt]⟩
def gw{it l:Addr}{i:Nat}{items}{Q:Value->Shared->Prop}(hh:A.handled=none)(hit:s.heap.IsTupleIter it l i)(hl:s.heap.IsTuple l items)(hx:items[i]?=none)(hE:∀h' e,Heap.ExtBut it s.heap h'->(∃o,h'.get? e=some o/\o.cls=.type "StopIteration")->E (.ref e) { s with heap:=h' }) :
  wpAny (model prog w) A (õ (.ref it)) Q E s:=by
 obtain⟨o,ho,hc,hd⟩:=id hit
 obtain⟨ol,hol,_,nl,hdl⟩:=hl
 unfold õ
 refine À (Į (name:=á "__next__") hit.typeIs Ğ
  (Ņ Ğ hit.typeIs PyProof.Rows.entry_tupleiter_next ?_ (PyProof.Rows.args_tupleiter_next _)))
 show wpAny _ _ (field (.ref it) 0 >>= _) _ _ s
 refine À (þ ho hd (x:=.ref l) rfl ?_)
 show wpAny _ _ (if (æ l == ð)=true then _ else _) _ _ s
 rw[if_neg (show ¬((æ l == ð)=true) from Î)]
 show wpAny _ _ (field (.ref it) 1 >>= _) _ _ s
 refine À (þ ho hd (x:=.int i 0) rfl ?_)
 show wpAny _ _ (seqItems? (.ref l) >>= _) _ _ s
 refine À (ĭ hol hdl ?_)
 simp only[Ŗ,hx]
 refine À (wpAny_rule (À (ŷ ho hd (by simp) ?_)))
 show wpAny _ _ (newExc (.type "StopIteration") [] >>= _) _ _ _
 refine À ?_
 simp only[newExc,newTuple]
 refine À (ě ?_ (by size_fits))
 refine À (m:=firstArgMember _ _) (wpAny_of_eq (a:=ð) (by first|rfl|(simp only[firstArgMember];rfl)) ?_)
 refine ě ?_ (by size_fits)
 simp only[raiseNew]
 refine À (wpAny_handled ?_)
 first|rw[show A.in1.handled=none from hh]|rw[hh]
 refine À (Ç (wpAny_throw ?_))
 exact hE _ _ (((Heap.SameBut.update ..).extBut.push _).push _) ⟨_,Ô _ rfl,rfl⟩
end
end PySem
namespace L2
open PySem PySem.Spec PyProof.Rows
section
variable {κ:Type} [DecidableEq κ]
def iy(kvs:List (κ×V))(k:κ):Option V:=(kvs.find? λkv=>decide (kv.1=k)).map (·.2)
def putK(kvs:List (κ×V))(k:κ)(v:V):List (κ×V) :=
 if (kvs.any λkv=>decide (kv.1=k))=true then kvs.map (λkv=>if kv.1=k then (kv.1,v) else kv) else kvs++[(k,v)]
def mL{p:κ×V}{r:List (κ×V)}{k:κ}(e:p.1=k):iy (p::r) k=some p.2:=by simp[iy,Ģ,e]
def mO{p:κ×V}{r:List (κ×V)}{k:κ}(e:¬p.1=k):iy (p::r) k=iy r k:=by simp[iy,Ģ,e]
def jG(k:κ):∀kvs:List (κ×V),(kvs.any λkv=>decide (kv.1=k))=(iy kvs k).isSome
 |[]=>rfl
 |p::r=>by
  rw[List.any_cons]
  by_cases e:p.1=k
  ·simp only[mL e,decide_eq_true e,Bool.true_or,Option.isSome_some]
  ·rw[mO e,decide_eq_false e,Bool.false_or];exact jG k r
def iU(kvs:List (κ×V))(k:κ)(v:V):(putK kvs k v).length<=kvs.length+1:=by
 unfold putK
 split
 ·rw[Á];omega
 ·rw[Ð,ç,List.length_nil];omega
def oO.yV{o:Option V}{u:Option Value}(r:oO o u):o.isSome=u.isSome:=by
 cases o with
 |none=>cases u with
  |none=>rfl
  |some _=>exact(show False from r).elim
 |some _=>cases u with
  |none=>exact(show False from r).elim
  |some _=>rfl
def KV.val{kvs:List (κ×V)}{vs:List (κ×Value)}(r:KV kvs vs)(k:κ):oO (iy kvs k) (valueAt vs k):=by
 unfold KV at r
 induction r with
 |nil=>exact Ď
 |@cons p q ps qs h t ih =>
  obtain⟨h1,h2⟩:=h
  by_cases e:p.1=k
  ·have e':q.1=k:=h1.symm.trans e
   have b:valueAt (q::qs) k=some q.2:=by simp[valueAt,Ģ,e']
   rw[mL e,b];exact h2
  ·have e':¬q.1=k:=λz=>e (h1.trans z)
   have b:valueAt (q::qs) k=valueAt qs k:=by simp[valueAt,Ģ,e']
   rw[mO e,b];exact ih
def KV.any{kvs:List (κ×V)}{vs:List (κ×Value)}(r:KV kvs vs)(k:κ):(kvs.any λkv=>decide (kv.1=k))=vs.any λkv=>decide (kv.1=k):=by
 unfold KV at r
 induction r with
 |nil=>rfl
 |cons h t ih=>rw[List.any_cons,List.any_cons,ih,h.1]
def KV.repl{kvs:List (κ×V)}{vs:List (κ×Value)}(r:KV kvs vs)(k:κ){y:V}{u:Value}(ry:RelV y u) :
  KV (kvs.map λkv=>if kv.1=k then (kv.1,y) else kv) (vs.map λkv=>if kv.1=k then (kv.1,u) else kv):=by
 unfold KV at r ⊢
 induction r with
 |nil=>exact .nil
 |@cons p q ps qs h t ih =>
  rw[Ą,Ą]
  refine .cons ?_ ih
  obtain⟨h1,h2⟩:=h
  by_cases e:p.1=k
  ·rw[if_pos e,if_pos (h1.symm.trans e)];exact⟨h1,ry⟩
  ·rw[if_neg e,if_neg (λz=>e (h1.trans z))];exact⟨h1,h2⟩
def KV.put{kvs:List (κ×V)}{vs:List (κ×Value)}(r:KV kvs vs)(k:κ){y:V}{u:Value}(ry:RelV y u):KV (putK kvs k y) (stored vs k u):=by
 unfold putK stored
 rw[r.any k]
 by_cases e:(vs.any λkv=>decide (kv.1=k))=true
 ·rw[if_pos e,if_pos e];exact r.repl k ry
 ·rw[if_neg e,if_neg e];exact Paired.snoc r ⟨rfl,ry⟩
def KV.length{kvs:List (κ×V)}{vs:List (κ×Value)}(r:KV kvs vs):kvs.length=vs.length:=Paired.length r
end
def xG{P:Program}{w:World}{k:Key}{u:Value}(r:RelV (kV k) u):(bF P w).is k u=true:=by
 cases k with
 |inl i=>obtain⟨t,e⟩:=(show ∃t,u=Ē i t from r);subst e;exact tY P w i t
 |inr x=>obtain⟨t,e⟩:=(show ∃t,u=Value.str x t from r);subst e;exact tX P w x t
def pW{P:Program}{w:World}:∀{ks:List Key}{us:List Value},Vals (ks.map kV) us->ItemsAre (bF P w) ks us
 |[],_,r=>by rw[List.map_nil] at r;cases r;exact .nil
 |k::ks,_,r=>by
  rw[Ą] at r
  cases r with
  |cons h t=>exact .cons (xG h) (pW t)
abbrev KT(H:Hp):List (List Key×V)->List (List Key×Addr×Value)->Prop:=Paired λp q=>p.1=q.1/\H q.2.1=some (.tup (p.1.map kV))/\RelV p.2 q.2.2
def KT.val{H:Hp}{kvs:List (List Key×V)}{xs:List (List Key×Addr×Value)}(r:KT H kvs xs)(k:List Key):oO (iy kvs k) ((atKey xs k).map (·.2)):=by
 induction r with
 |nil=>exact Ď
 |@cons p q ps qs h t ih =>
  obtain⟨h1,_,h2⟩:=h
  by_cases e:p.1=k
  ·have e':q.1=k:=h1.symm.trans e
   have b:atKey (q::qs) k=some q.2:=by simp[atKey,Ģ,e']
   rw[mL e,b];exact h2
  ·have e':¬q.1=k:=λz=>e (h1.trans z)
   have b:atKey (q::qs) k=atKey qs k:=by simp[atKey,Ģ,e']
   rw[mO e,b];exact ih
def KT.repl{H:Hp}{kvs:List (List Key×V)}{xs:List (List Key×Addr×Value)}(r:KT H kvs xs)(k:List Key){y:V}{u:Value}(ry:RelV y u) :
  KT H (kvs.map λkv=>if kv.1=k then (kv.1,y) else kv) (xs.map (putAt k u)):=by
 induction r with
 |nil=>exact .nil
 |@cons p q ps qs h t ih =>
  rw[Ą,Ą]
  refine .cons ?_ ih
  obtain⟨h1,h2,h3⟩:=h
  unfold putAt
  by_cases e:p.1=k
  ·rw[if_pos e,if_pos (h1.symm.trans e)];exact⟨h1,h2,ry⟩
  ·rw[if_neg e,if_neg (λz=>e (h1.trans z))];exact⟨h1,h2,h3⟩
def KT.put{H:Hp}{kvs:List (List Key×V)}{xs:List (List Key×Addr×Value)}(r:KT H kvs xs)(k:List Key){b:Addr}{y:V}{u:Value}(hb:H b=some (.tup (k.map kV)))(ry:RelV y u) :
  KT H (putK kvs k y) (storedH xs k b u):=by
 have e:(kvs.any λkv=>decide (kv.1=k))=(atKey xs k).isSome:=by
  rw[jG,(r.val k).yV,Option.isSome_map]
 unfold putK storedH
 rw[e]
 by_cases q:(atKey xs k).isSome=true
 ·rw[if_pos q,if_pos q];exact r.repl k ry
 ·rw[if_neg q,if_neg q];exact Paired.snoc r ⟨rfl,hb,ry⟩
def KT.keeps{H H':Hp}{kvs:List (List Key×V)}{xs:List (List Key×Addr×Value)}(r:KT H kvs xs)(ht:∀b ys,H b=some (.tup ys)->H' b=some (.tup ys)):KT H' kvs xs :=
 Paired.Dj r λ_ _ z=>⟨z.1,ht _ _ z.2.1,z.2.2⟩
section
variable {P:Program}{w:World}{H:Hp}{h:Heap}{a:Addr}
def HB{u:HO}(ok:HOk P w H h)(e:Rd H a u):aM P w H h a u:=e.ok ok
def Et{kvs:List (Key×V)}(ok:HOk P w H h)(e:Rd H a (.dK kvs)):kvs.length<=sizeLine/\(a == sysModules)=false/\∃vs,KV kvs vs/\h.DictOf (bF P w) a vs :=
 show aM P w H h a (.dK kvs) from HB ok e
def Eu{kvs:List (Key×V)}(ok:HOk P w H h)(e:H a=some (.dK kvs)):kvs.length<=sizeLine/\(a == sysModules)=false/\∃vs,KV kvs vs/\h.DictOf (bF P w) a vs:=Et ok (.inl e)
def vW{ks:List Key}(ok:HOk P w H h)(e:H a=some (.tup (ks.map kV))):(tupleKind (bF P w)).is h ks a:=by
 obtain⟨_,its,r,o,h1,h2,n,h3⟩:=(show aM P w H h a (.tup (ks.map kV)) from ok a _ e)
 exact⟨o,its.toArray,n,h1,h2,h3,by simpa using pW r⟩
def Es{kvs:List (List Key×V)}(ok:HOk P w H h)(e:Rd H a (.dT kvs)):kvs.length<=sizeLine/\(a == sysModules)=false /\
  ∃xs,KT H kvs xs/\h.DictOfH (tupleKind (bF P w)) a xs:=by
 obtain⟨z,y,xs,r,o,es,ep,h1,h2,h3,h4,h5⟩:=(show aM P w H h a (.dT kvs) from HB ok e)
 refine⟨z,y,xs,r,o,es,ep,h1,h2,h3,h4,λx hx=>?_,h5⟩
 have all:∀{l:List (List Key×V)}{m:List (List Key×Addr×Value)},KT H l m->∀x∈m,(tupleKind (bF P w)).is h x.1 x.2.1:=by
  intro l m q
  induction q with
  |nil=>intro x hx;exact nomatch hx
  |@cons p q ps qs hq t ih =>
   intro x hx
   rcases É.mp hx with e|hx
   ·subst e
    exact vW ok (by rw[←hq.1];exact hq.2.1)
   ·exact ih x hx
 exact all r x hx
def NZ{kvs:List (List Key×V)}(ok:HOk P w H h)(e:H a=some (.dT kvs)):kvs.length<=sizeLine/\(a == sysModules)=false /\
  ∃xs,KT H kvs xs/\h.DictOfH (tupleKind (bF P w)) a xs:=Es ok (.inl e)
end
def oU(H:Hp)(a:Addr)(y:V)(r:Option V):Prop :=
 (∃kvs k,Rd H a (.dK kvs)/\y=kV k/\r=iy kvs k)\/∃kvs k b,Rd H a (.dT kvs)/\y=.ref b/\H b=some (.tup (k.map kV))/\r=iy kvs k
def uY(H:Hp)(a:Addr)(y v:V)(H':Hp):Prop :=
 (∃kvs k,H a=some (.dK kvs)/\y=kV k/\kvs.length<sizeLine/\H'=upd H a (.dK (putK kvs k v))) ∨
 ∃kvs k b,H a=some (.dT kvs)/\y=.ref b/\H b=some (.tup (k.map kV))/\kvs.length<sizeLine/\H'=upd H a (.dT (putK kvs k v))
def oU.k{H:Hp}{a:Addr}{kvs:List (Key×V)}{k:Key}(e:H a=some (.dK kvs)):oU H a (kV k) (iy kvs k):=.inl ⟨kvs,k,.inl e,rfl,rfl⟩
def uY.k{H:Hp}{a:Addr}{kvs:List (Key×V)}{k:Key}{v:V}(e:H a=some (.dK kvs))(hl:kvs.length<sizeLine):uY H a (kV k) v (upd H a (.dK (putK kvs k v))):=.inl ⟨kvs,k,e,rfl,hl,rfl⟩
section
variable {X:Cx}{pins:List (Addr×Obj)}{σ:St}{H:Hp}{s:Shared}{a:Addr}{y v:V}{u r:Value}{o:Option V}{A:Around}{E:Value->Shared->Prop}
def Inv.big(I:Inv X pins σ H s):sysModules<s.heap.objs.size:=by
 have h:mainGlobals<s.heap.objs.size:=(I.mod.glob.keeps I.bk).lt
 exact Nat.lt_trans (by decide) h
def zA{Q:Value->Shared->Prop}(hu:A.units+1<cLine)(I:Inv X pins σ H s)(g:oU H a y (some v))(ry:RelV y u)(h:∀w' s',Inv X pins σ H s'->RelV v w'->Q w' s') :
  wpAny (model X.prog X.w) A (getItem (.ref a) u) Q E s:=by
 rcases g with ⟨kvs,k,e,ey,l⟩|⟨kvs,k,b,e,ey,eb,l⟩
 ·subst ey
  obtain⟨z,hd,vs,rel,dd⟩:=Et I.hok e
  obtain⟨w',hw,rw'⟩:=oO.some_of (v:=v) (o:=valueAt vs k) (by rw[l];exact rel.val k)
  exact wpAny_getItem_of (xG ry) dd.mapOf hw (h w' _ (I.tok _) rw')
 ·subst ey
  cases (show u=æ b from ry)
  obtain⟨z,hd,xs,rel,dd⟩:=Es I.hok e
  obtain⟨w',hw,rw'⟩:=oO.some_of (v:=v) (o:=(atKey xs k).map (·.2)) (by rw[l];exact rel.val k)
  obtain⟨p,hp,hp2⟩:=Ő.mp hw
  refine wpAny_getItem_heap (tupleKind_room_in1 hu) (vW I.hok eb) dd hp ?_
  rw[hp2]
  exact h w' _ (I.tok _) rw'
def rP{h':Heap}{t':Nat}{ob:HO}(I:Inv X pins σ H s)(mu:Mut (H a))(hs:ũ a s.heap h')(he:∃q,h'.get? a=some q)(new:aM X.prog X.w (upd H a ob) h' a ob) :
  Inv X pins σ (upd H a ob) { s with heap:=h',toks:=t' } :=
 I.write (x:=a) (e:=a) mu (.inl rfl) (λb q hb z=>(hs.2 b hb).trans z) he new
def Ew{P:Program}{w:World}{H':Hp}{h':Heap}{kvs:List (Key×V)}{vs:List (Key×Value)}(z:kvs.length<=sizeLine)(hd:(a == sysModules)=false)(rel:KV kvs vs)(dd:h'.DictOf (bF P w) a vs) :
  aM P w H' h' a (.dK kvs):=⟨z,hd,vs,rel,dd⟩
def zy{H':Hp}{Q:Unit->Shared->Prop}(hu:A.units+1<cLine)(I:Inv X pins σ H s)(g:uY H a y v H')(ry:RelV y u)(rv:RelV v r)(h:∀s',Inv X pins σ H' s'->Q () s') :
  wpAny (model X.prog X.w) A (setItem (.ref a) u r) Q E s:=by
 rcases g with ⟨kvs,k,e,ey,l,eH⟩|⟨kvs,k,b,e,ey,eb,l,eH⟩
 ·subst ey eH
  obtain⟨z,hd,vs,rel,dd⟩:=Eu I.hok e
  have hz:vs.length<=sizeLine:=by rw[←rel.length];exact z
  have hl:(putK kvs k v).length<=sizeLine:=by have:=iU kvs k v;omega
  refine wpAny_setItem_pairs (hsz:=hz) (xG ry) dd λh' dd' hs=>h _ ?_
  have he:∃q,h'.get? a=some q:=let ⟨q,_,_,hq,_⟩:=dd';⟨q,hq⟩
  exact rP I (by rw[e];exact Ď) hs he (Ew hl hd (rel.put k rv) dd')
 ·subst ey eH
  cases (show u=æ b from ry)
  obtain⟨z,hd,xs,rel,dd⟩:=NZ I.hok e
  have hz:xs.length<=sizeLine:=by rw[←Paired.length rel];exact z
  have hl:(putK kvs k v).length<=sizeLine:=by have:=iU kvs k v;omega
  refine wpAny_setItem_heap (hsz:=hz) (tupleKind_room_in1 hu) (vW I.hok eb) dd λh' dd' hs=>h _ ?_
  obtain⟨q,es,ep,hq,h2,h3,h4,_,h5⟩:=dd'
  refine rP I (by rw[e];exact Ď) hs ⟨q,hq⟩ ⟨hl,hd,_,(rel.put k eb rv).keeps λc ys ec=>?_,q,es,ep,hq,h2,h3,h4,h5⟩
  rw[ao (Nj ec e (λz=>nomatch z))]
  exact ec
end
section
variable {X:Cx}{pins:List (Addr×Obj)}{σ:St}{H:Hp}{s:Shared}{a:Addr}{kvs:List (Key×V)}{k:Key}{u:Value}{A:Around}{E:Value->Shared->Prop}
end
def Od(i:Expr):Prop:=∀ov iv,subscripted i false ov iv=operate [ov,iv] (getItem ov iv)
def Fx{prog:Program}{w:World}{A:Around}{E:Value->Shared->Prop}{s:Shared}{env:Env}{value slice:Expr}{pos:Pos}{T id:String}{Q:Value->Shared->Prop}(hl:typeLookup (.type T) "__getitem__"=pure (some (.builtin id)))(hs:Od slice)(h:wpAny (model prog w) A (eval value env) (λo s₁=>wpAny (model prog w) A (eval slice env) (λi s₂=>s₂.TypeIs o T/\wpAny (model prog w) A (getItem o i) Q E s₂) E s₁) E s) :
  wpAny (model prog w) A (eval (.Subscript value slice pos) env) Q E s:=by
 refine Subscript_ (č h (λo s₁ h₁=>č h₁ (λi s₂ h₂=>?_) λ_ _ x=>x) λ_ _ x=>x)
 obtain⟨hT,h₂⟩:=h₂
 unfold subscriptTail
 refine À ?_
 rw[getitemInPython_of_ne hT.not_modules]
 refine À (wpAny_specialOf hT hl ?_)
 have fin:wpAny (model prog w) A (subscripted slice false o i) (λr s₃=>wpAny (model prog w) A (letTemporaryGo value o r >>= λ_=>pure r) Q E s₃) E s₂:=by
  rw[hs o i]
  exact wpAny_operating (č h₂ (λr s₃ h₃=>À (wpAny_letTemporaryGo (Ç h₃))) λ_ _ x=>x)
 first
  |exact Ç (À fin)
  |exact À (Ç (À fin))
  |exact À fin
def uJ{X:Cx}{pins:List (Addr×Obj)}{σ:St}{H:Hp}{s:Shared}{a:Addr}{y:V}{o:Option V}(I:Inv X pins σ H s)(g:oU H a y o):s.TypeIs (.ref a) "dict":=by
 rcases g with ⟨kvs,k,e,_,_⟩|⟨kvs,k,b,e,_,_,_⟩
 ·obtain⟨_,_,vs,_,dd⟩:=Et I.hok e
  exact dd.typeIs
 ·obtain⟨_,_,xs,_,dd⟩:=Es I.hok e
  exact dd.typeIs
def Ma(td ty:TE):TE:=λσ H Q=>td σ H λx H1=>ty σ H1 λy H2=>∃a v,x=.ref a/\oU H2 a y (some v)/\Q v H2
def Mr(td ty tv:TE):TS:=λD σ H=>tv σ H λv H1=>td σ H1 λx H2=>ty σ H2 λy H3=>∃a H4,x=.ref a/\uY H3 a y v H4/\D.nx σ H4
section
variable {X:Cx}{o i e value:Expr}{pos pos' tpos:Pos}{td ty tv:TE}
def fH(hu:X.A.units+1<cLine)(ho:PE X o td)(hi:PE X i ty)(hs:Od i):PE X (.Subscript o i pos) (Ma td ty):=by
 intro pins s σ H Q I h
 refine Fx PySem.F.slot_dict_getitem.lookup hs (thn (ho pins s σ H _ I h) λu s1 ⟨x,H1,I1,rx,q1⟩=>thn (hi pins s1 σ H1 _ I1 q1) λiv s2 ⟨y,H2,I2,ry,a,v,ex,g,q2⟩=>?_)
 subst ex
 obtain rfl:u=æ a:=rx
 exact⟨uJ I2 g,zA hu I2 g ry λw' s3 I3 rw'=>⟨v,H2,I3,rw',q2⟩⟩
def qI(hu:X.A.units+1<cLine)(ho:PE X o td)(hi:PE X i ty)(hv:PE X value tv)(hs:swapsWith value (some (.Subscript o i pos')) pos.line X.env=pure false) :
  PS X (.Assign [.Subscript o i pos'] value pos) (Mr td ty tv):=by
 intro pins s σ H D I h
 refine wpAny_Assign_Subscript (thn (hv pins s σ H _ I h) λr s1 ⟨v,H1,I1,rv,q1⟩=>thn (ho pins s1 σ H1 _ I1 q1) λu s2 ⟨x,H2,I2,rx,q2⟩=>thn (hi pins s2 σ H2 _ I2 q2) λiv s3 ⟨y,H3,I3,ry,a,H4,ex,g,q3⟩=>?_) hs
 subst ex
 obtain rfl:u=æ a:=rx
 exact zy hu I3 g ry rv λs4 I4=>⟨σ,H4,I4,q3⟩
end
def uI{P:Program}{w:World}{H:Hp}(h:Heap)(hb:sysModules<h.objs.size):aM P w H (h.push { cls:=.type "dict",data:=.dict #[] }) h.objs.size (.dK []) :=
 ⟨û _,beq_eq_false_iff_ne.mpr (é (Û hb)),[],.nil,Heap.DictOf.new h⟩
def I9:TE:=λ_ H Q=>∀p,H p=none->Q (.ref p) (upd H p (.dK []))
section
variable {X:Cx}{pos:Pos}
def BZ:PE X (.Dict [] [] pos) I9:=λpins s σ H Q I h =>
 wpAny_Dict_empty ⟨.ref s.heap.objs.size,_,I.laid (a:=s.heap.objs.size) (o:=.dK []) (t':=s.toks) (λ_ _ q=>Ä _ q) (Æ _) (uI s.heap I.big),rfl,h _ (I.hok.fresh (Æ _))⟩
end
def vf:List (TE×TE)->St->Hp->(List (V×V)->Hp->Prop)->Prop
 |[],_,H,Q=>Q [] H
 |(tk,tv)::r,σ,H,Q=>tk σ H λx H1=>tv σ H1 λy H2=>vf r σ H2 λps H3=>Q ((x,y)::ps) H3
abbrev VV:List (V×V)->List (Value×Value)->Prop:=Paired λp q=>RelV p.1 q.1/\RelV p.2 q.2
def PPs(X:Cx)(pos:Pos)(keys:List (Option Expr))(values:List Expr)(trs:List (TE×TE)):Prop :=
 ∀(pins:List (Addr×Obj)) (s:Shared) (σ:St) (H:Hp) (Q:List (V×V)->Hp->Prop),Inv X pins σ H s->vf trs σ H Q ->
  wpAny (model X.prog X.w) X.A (evalPairs (pairTrees keys values X.env pos)) (λvs s'=>∃ps H',Inv X pins σ H' s'/\VV ps vs/\Q ps H') X.xe s
def Ge{X:Cx}{pos:Pos}:PPs X pos [] [] []:=λpins s σ H Q I h=>pairTrees_nil_walk ⟨[],H,I,.nil,h⟩
def mZ{X:Cx}{pos:Pos}{k v:Expr}{ks:List (Option Expr)}{vs:List Expr}{tk tv:TE}{trs:List (TE×TE)}(hk:PE X k tk)(hv:PE X v tv)(hr:PPs X pos ks vs trs) :
  PPs X pos (some k::ks) (v::vs) ((tk,tv)::trs):=λpins s σ H Q I h =>
 pairTrees_cons_walk (thn (hk pins s σ H _ I h) λu s1 ⟨x,H1,I1,rx,q1⟩=>thn (hv pins s1 σ H1 _ I1 q1) λw2 s2 ⟨y,H2,I2,ry,q2⟩ =>
  thn (hr pins s2 σ H2 _ I2 q2) λws s3 ⟨ps,H3,I3,rel,q3⟩=>⟨(x,y)::ps,H3,I3,.cons ⟨rx,ry⟩ rel,q3⟩)
def jA(kvs more:List (Key×V)):List (Key×V):=more.foldl (λacc kv=>putK acc kv.1 kv.2) kvs
def KV.merge:∀{more:List (Key×V)}{rs:List (Key×Value)}{kvs:List (Key×V)}{vs:List (Key×Value)},KV more rs->KV kvs vs->KV (jA kvs more) (merged vs rs):=by
 intro more rs kvs vs r
 unfold KV at r
 induction r generalizing kvs vs with
 |nil=>intro q;exact q
 |@cons p q ps qs h t ih =>
  intro r0
  have e:KV (putK kvs p.1 p.2) (stored vs q.1 q.2):=by
   have:=r0.put p.1 h.2
   rw[←h.1];exact this
  exact ih e
def jw:∀(more kvs:List (Key×V)),(jA kvs more).length<=kvs.length+more.length
 |[],kvs=>by show kvs.length<=kvs.length+0;omega
 |p::r,kvs=>by
  have h1:=jw r (putK kvs p.1 p.2)
  have h2:=iU kvs p.1 p.2
  show(jA (putK kvs p.1 p.2) r).length<=_
  rw[ç];omega
def oM{P:Program}{w:World}:∀{kvs:List (Key×V)}{ws:List (Value×Value)},VV (kvs.map λkv=>(kV kv.1,kv.2)) ws->∃rs,Carries (bF P w) ws rs/\KV kvs rs
 |[],_,r=>by rw[List.map_nil] at r;cases r;exact⟨[],Ď,.nil⟩
 |p::kvs,_,r=>by
  rw[Ą] at r
  cases r with
  |@cons a b as bs h t =>
   obtain⟨rs,c,q⟩:=oM (P:=P) (w:=w) t
   obtain⟨b1,b2⟩:=b
   exact⟨(p.1,b2)::rs,⟨xG h.1,rfl,c⟩,.cons ⟨rfl,h.2⟩ q⟩
def LR(trs:List (TE×TE)):TE:=λσ H Q=>∀p,H p=none->vf trs σ (upd H p (.dK [])) λps H2=>H2 p=some (.dK [])/\∃kvs:List (Key×V),ps=kvs.map (λkv=>(kV kv.1,kv.2))/\kvs.length<=15/\Q (.ref p) (upd H2 p (.dK (jA [] kvs)))
def Gi{X:Cx}{pos:Pos}{keys:List (Option Expr)}{values:List Expr}{trs:List (TE×TE)}(h:PPs X pos keys values trs)(hall:keys.all (·.isSome)=true)(hl:keys.length=values.length)(h0:keys≠[])(h15:keys.length<=15):PE X (.Dict keys values pos) (LR trs):=by
 intro pins s σ H Q I q
 have hn:=I.hok.fresh (Æ s.heap.objs.size)
 have I1:=I.laid (a:=s.heap.objs.size) (o:=.dK []) (h':=s.heap.push { cls:=.type "dict",data:=.dict #[] }) (t':=s.toks) (λ_ _ q=>Ä _ q) (Æ _) (uI s.heap I.big)
 refine wpAny_Dict_walk (knd:=bF X.prog X.w) hall hl h0 h15 (thn (h pins _ σ _ _ I1 (q _ hn)) λws s2 ⟨ps,H2,I2,rel,e,kvs,ep,lk,q2⟩=>?_)
 subst ep
 obtain⟨rs,c,rk⟩:=oM (P:=X.prog) (w:=X.w) rel
 obtain⟨z,hd,vs0,r0,dd⟩:=Eu I2.hok e
 cases r0
 refine⟨rs,c,dd,λh' dd' hs=>⟨.ref s.heap.objs.size,_,?_,rfl,q2⟩⟩
 have hz:(jA [] kvs).length<=sizeLine:=by
  have h1:=jw kvs []
  rw[List.length_nil] at h1
  rw[ì];omega
 have he:∃q,h'.get? s.heap.objs.size=some q:=let ⟨q,_,_,hq,_⟩:=dd';⟨q,hq⟩
 exact rP I2 (by rw[e];exact Ď) hs he (Ew hz hd (rk.merge .nil) dd')
structure M1(X:Cx)(o:Expr)(m:Str)(apos:Pos)(e:Expr)(cpos:Pos):Prop where
 base:attributeBase o m X.env (eval o X.env)=eval o X.env
 few:((backTo cpos (starEach [e] X.env)).all (λx=>!x.1)&&(backToKw cpos (keywordEach [] X.env)).all (λx=>x.1.isSome)
 &&decide (([e]:List Expr).length+([]:List Keyword).length+(if ([]:List Keyword).isEmpty then 0 else 1)<30))=true
 line:(apos.endLine == cpos.line)=true
 trees:backTo cpos (starEach [e] X.env)=[(false,eval e X.env)]
structure M2(X:Cx)(o:Expr)(m:Str)(apos:Pos)(e f:Expr)(cpos:Pos):Prop where
 base:attributeBase o m X.env (eval o X.env)=eval o X.env
 few:((backTo cpos (starEach [e,f] X.env)).all (λx=>!x.1)&&(backToKw cpos (keywordEach [] X.env)).all (λx=>x.1.isSome)
 &&decide (([e,f]:List Expr).length+([]:List Keyword).length+(if ([]:List Keyword).isEmpty then 0 else 1)<30))=true
 line:(apos.endLine == cpos.line)=true
 trees:backTo cpos (starEach [e,f] X.env)=[(false,eval e X.env),(false,eval f X.env)]
section
variable {X:Cx}{pins:List (Addr×Obj)}{σ:St}{H:Hp}{s:Shared}{a:Addr}{y d:V}{u r:Value}{o:Option V}{A:Around}{E:Value->Shared->Prop}
end
section
variable {X:Cx}{o e f:Expr}{apos cpos:Pos}{td ty tx:TE}
end
section
variable {X:Cx}{pins:List (Addr×Obj)}{σ:St}{H:Hp}{s:Shared}{a:Addr}{kvs:List (Key×V)}{A:Around}{E:Value->Shared->Prop}
end
section
variable {X:Cx}{pins:List (Addr×Obj)}{σ:St}{H:Hp}{s:Shared}{a:Addr}{y:V}{u:Value}{A:Around}{E:Value->Shared->Prop}
end
section
variable {prog:Program}{w:World}{A:Around}{E:Value->Shared->Prop}{s:Shared}
end
section
variable {X:Cx}
def rY:aW X (.builtin "sorted") (λxs H Q=>∃(p:Addr) (ns:List Int),xs=[.ref p]/\SqL X.K H p (ns.map V.int)/\ns.length<64 /\
  ∀(l:Addr) (out:List Int),H l=none->out.Perm ns->out.Pairwise (·<=·)->Q (.ref l) (upd H l (.lst (out.map V.int)))):=by
 intro pins s σ H xs us Q I r h
 obtain⟨p,ns,rfl,hp,h64,q⟩:=h
 obtain⟨u,rfl,rx⟩:=vals1 r
 cases rx
 obtain⟨its,rv,pl,hz⟩:=I.list hp
 have hI:IntsAre its ns:=intsAre_of rv
 have hl:=rv.length
 rw[Á] at hl
 refine sorted_ints (vs:=its) (ns:=ns) pl.isList hI (by omega) λout ns' a1 a2 a3=>?_
 obtain⟨e,he⟩:=sortedAll_at s.heap its out
 have hv:=kh a1
 have hlo:=hv.length
 rw[Á] at hlo
 have hpl:=a2.length_eq
 have h24:=ì
 refine⟨.ref (s.heap.objs.size+1),upd H (s.heap.objs.size+1) (.lst (ns'.map V.int)),I.laid (t':=s.toks) (λb o eb=>sortedAll_old eb) (ő _) ⟨?_,out.toList,e,hv,by simpa using he⟩,rfl,q _ _ (I.hok.fresh (ő _)) a2 a3⟩
 rw[Á]
 omega
end
section
variable {X:Cx}
def iD(l:List Int):PyData:=.list (l.map Â)
def vU:∀l:List Int,Ĉ (l.map Â)=true
 |[]=>rfl
 |t::ts=>by
  show(PyData.canLay0 (Â t)&&Ĉ (ts.map Â))=true
  rw[vU ts]
  rfl
def oE:∀l:List Int,ö (l.map Â)=0
 |[]=>rfl
 |t::ts=>by
  show max (PyData.depth (Â t)) (ö (ts.map Â))=0
  rw[oE ts]
  rfl
def Er:∀ts us:List Int,PyData.eqvAll (ts.map Â) (us.map Â)=decide (ts=us)
 |[],[]=>rfl
 |[],_::_=>rfl
 |_::_,[]=>rfl
 |t::ts,u::us=>by
  show((t == u)&&PyData.eqvAll (ts.map Â) (us.map Â))=_
  rw[Er ts us,ņ]
  simp
def Dy:∀ls:List (List Int),Ĉ (ls.map iD)=true
 |[]=>rfl
 |t::ts=>by
  show(Ĉ (t.map Â)&&Ĉ (ts.map iD))=true
  rw[Dy ts,vU]
  rfl
def uK:∀ls:List (List Int),ö (ls.map iD)<=1
 |[]=>û _
 |t::ts=>by
  show max (ö (t.map Â)+1) (ö (ts.map iD))<=1
  have h1:=uK ts
  rw[oE]
  omega
def jy{h:Heap}:∀{l:List Int}{us:List Value},Vals (l.map V.int) us->∃as,ReadsAll h us (l.map Â) as
 |[],_,r=>by cases r;exact⟨[],.nil⟩
 |x::l,_,r=>by
  cases r with
  |cons a b =>
   obtain⟨t,rfl⟩:=a
   obtain⟨as,q⟩:=jy b
   exact⟨_,.cons (.int _ _) q⟩
inductive DatL(K:Ê)(H:Hp):V->PyData->Prop
 |flt {a:Addr}{l:List Int}:SqL K H a (l.map V.int)->DatL K H (.ref a) (iD l)
 |lists {a:Addr}{as:List Addr}{ls:List (List Int)}:SqL K H a (as.map V.ref)->Paired (λ(a:Addr) (l:List Int)=>SqL K H a (l.map V.int)) as ls->DatL K H (.ref a) (.list (ls.map iD))
def Inv.Bo{pins:List (Addr×Obj)}{σ:St}{H:Hp}{s:Shared}(I:Inv X pins σ H s):∀{as:List Addr}{ls:List (List Int)}{us:List Value},Paired (λ(a:Addr) (l:List Int)=>SqL X.K H a (l.map V.int)) as ls->Vals (as.map V.ref) us->∃bs,ReadsAll s.heap us (ls.map iD) bs
 |_,_,_,.nil,r=>by cases r;exact⟨[],.nil⟩
 |_,_,_,.cons p q,r=>by
  cases r with
  |cons a b =>
   cases a
   obtain⟨its,rv,pl,hz⟩:=I.list p
   obtain⟨as1,r1⟩:=jy (h:=s.heap) rv
   obtain⟨o,ho,hc,n,hd⟩:=pl.isList
   obtain⟨as2,r2⟩:=I.Bo q b
   exact⟨_,.cons (.list ho hc hd (by simpa using r1)) r2⟩
def DatL.reads{pins:List (Addr×Obj)}{σ:St}{H:Hp}{s:Shared}{x:V}{u:Value}{d:PyData}(I:Inv X pins σ H s)(h:DatL X.K H x d)(r:RelV x u):(∃as,Reads s.heap u d as)/\d.canLay0=true/\d.depth<=3:=by
 cases h with
 |@flt a l hs =>
  cases r
  obtain⟨its,rv,pl,hz⟩:=I.list hs
  obtain⟨as,ra⟩:=jy (h:=s.heap) rv
  obtain⟨o,ho,hc,n,hd⟩:=pl.isList
  refine⟨⟨_,.list ho hc hd (by simpa using ra)⟩,vU _,?_⟩
  show ö _+1<=3
  rw[oE]
  omega
 |@lists a as ls hs hp =>
  cases r
  obtain⟨its,rv,pl,hz⟩:=I.list hs
  obtain⟨bs,ra⟩:=I.Bo hp rv
  obtain⟨o,ho,hc,n,hd⟩:=pl.isList
  refine⟨⟨_,.list ho hc hd (by simpa using ra)⟩,Dy _,?_⟩
  show ö _+1<=3
  have:=uK ls
  omega
def Mu(K:Ê)(neg:Bool):R2:=λx y H Q=>∃d e b,DatL K H x d/\DatL K H y e/\Ũ d e=b/\Q (.bl (if neg then !b else b)) H
def O4(hu:X.A.units+64<cLine):OpR X (compareOp .Eq) (Mu X.K false):=by
 intro pins s σ H x y v u Q I rx ry h
 obtain⟨d,e,b,hd,he,hb,q⟩:=h
 obtain⟨⟨as,ra⟩,la,da⟩:=hd.reads I rx
 obtain⟨⟨bs,rb⟩,lb,db⟩:=he.reads I ry
 exact SeqAt.compareEq_reads ra rb la lb (by omega) (hb ▸ ⟨.bl b,H,I,rfl,q⟩)
def JC(hu:X.A.units+64<cLine):OpR X (compareOp .NotEq) (Mu X.K true):=by
 intro pins s σ H x y v u Q I rx ry h
 obtain⟨d,e,b,hd,he,hb,q⟩:=h
 obtain⟨⟨as,ra⟩,la,da⟩:=hd.reads I rx
 obtain⟨⟨bs,rb⟩,lb,db⟩:=he.reads I ry
 exact SeqAt.compareNe_reads ra rb la lb (by omega) (hb ▸ ⟨.bl (!b),H,I,rfl,q⟩)
def uG(ts us:List Int):Ũ (iD ts) (iD us)=decide (ts=us):=Er ts us
end
end L2
namespace PySem
open PyProof.Rows
def lK(h:Heap)(e:Addr):Prop:=∃oe vs,h.get? e=some oe/\oe.data=.fields vs/\vs[2]?=some .none
section
variable {M:Model}{A:Around}{E:Value->Shared->Prop}{s:Shared}{base:Heap}{env:Env}{outer:List Env}{L e:Addr}{Q:Unit->Shared->Prop}
def lK.other{h:Heap}{T:Addr}{f:Obj->Obj}(x:lK h e)(ne:T≠e):lK (h.update T f) e:=by
 obtain⟨oe,vs,a,b,c⟩:=x
 exact⟨oe,vs,(Ĝ _ _ ne).trans a,b,c⟩
def tW{oe:Obj}{vs:Array Value}{hd a0:Value}{hn:Bool}(fr:A.frames=some (env::outer))(fl:s.heap.FunFrames base (env::outer))(ef:env.frame=some L)(ge:s.heap.get? e=some oe)(kb:base.StaysIn s.heap)(bn:base.get? e=none)(da:oe.data=.fields vs)(sz:1<vs.size)(v0:vs[0]?=some a0)(v2:vs[2]?=some .none)(q:∀g,Heap.NotedW base (env::outer) e oe.cls a0 (rawInt L) s.heap g->lK g e->Q () { s with heap:=g }) :
  wpAny M A (do let a ←frameOf env;let pl ←entryPlaceOf L hn;let b ←EntryCells.newEntry hd a .none (rawInt L) .none pl;setField (.ref e) 1 b) Q E s:=by
 have ne:e∉(env::outer).filterMap (·.frame):=λz=>by
  obtain⟨_,o,eo,nf⟩:=fl.mem z
  rw[ge] at eo
  cases eo
  exact nf vs da
 refine À (wpAny_frameOf_fun fr fl ef λg1 s1=>À (wpAny_entryPlaceOf λpl hp=>?_))
 unfold EntryCells.newEntry newFields
 refine À (ě ?_ (hp.sizeOk5 _ _ _ _ _))
 generalize eT:({ cls:=.type "traceback",dict:=none,data:=.fields ([hd,.ref L,.none,rawInt L,.none]++(if pl.isEmpty then È 6 ð else pl)).toArray }:Obj)=oT
 have dT:oT.data=.fields ([hd,.ref L,.none,rawInt L,.none]++(if pl.isEmpty then È 6 ð else pl)).toArray:=by rw[←eT]
 have g1e:g1.get? e=some oe:=(s1.2.1 e ne).trans ge
 have kb1:base.StaysIn g1:=λb o eb=>(s1.2.1 b λz=>by rw[(fl.mem z).1] at eb;cases eb).trans (kb b o eb)
 have g2e:(g1.push oT).get? e=some oe:=Ä _ g1e
 refine ŷ g2e da sz ?_
 have nT:g1.objs.size≠e:=ļ (Å g1e)
 have d3:=Ŋ da (·.setIfInBounds 1 (æ g1.objs.size))
 have e3:=Heap.get?_update_self (Ź (·.setIfInBounds 1 (æ g1.objs.size))) g2e (ř d3)
 have nfT:oT.isFreed=false:=ř dT
 have gT:((g1.push oT).update e (Ź (·.setIfInBounds 1 (æ g1.objs.size)))).get? g1.objs.size=some oT:=(Ĝ _ _ (é nT)).trans (Ô _ nfT)
 have keep:∀b o,b≠e->g1.get? b=some o->((g1.push oT).update e (Ź (·.setIfInBounds 1 (æ g1.objs.size)))).get? b=some o:=λb o nb eb=>(Ĝ _ _ (é nb)).trans (Ä _ eb)
 have rec0:∀b o,s.heap.get? b=some o->(∀vs,o.data≠.fields vs)->b≠e:=λb o eb nf z=>by
  rw[z,ge] at eb
  cases eb
  exact nf vs da
 refine q _ ⟨λb o eb=>keep b o (λz=>by rw[z,bn] at eb;cases eb) (kb1 b o eb),fl.of_keeps λb o eb nf=>?_,⟨_,_,g1.objs.size,oT,_,e3,⟨Obj.cls_mapFields _ _,?_⟩,d3,?_,kb1.fresh,nT,gT,dT,?_⟩,λb o eb nf=>?_⟩ ⟨_,_,e3,d3,?_⟩
 ·obtain⟨sl,z⟩:=s1.2.2 b o eb
  exact⟨_,keep b _ (rec0 b o eb nf) z,rfl⟩
 ·rw[Array.getElem?_setIfInBounds_ne (by decide)]
  exact v0
 ·simp[sz]
 ·first|(simp;done)|(rcases hp with rfl|⟨_,_,_,_,_,_,_,rfl⟩ <;> simp)
 ·obtain⟨sl,z⟩:=s1.2.2 b o eb
  exact⟨sl,keep b _ (rec0 b o eb nf) z⟩
 ·rw[Array.getElem?_setIfInBounds_ne (by decide)]
  exact v2
def Dg{oe:Obj}{vs:Array Value}{a0:Value}(fr:A.frames=some (env::outer))(fl:s.heap.FunFrames base (env::outer))(ef:env.frame=some L)(ge:s.heap.get? e=some oe)(kb:base.StaysIn s.heap)(bn:base.get? e=none)(da:oe.data=.fields vs)(v1:vs[1]?=some .none)(v0:vs[0]?=some a0)(v2:vs[2]?=some .none)(q:∀g,Heap.NotedW base (env::outer) e oe.cls a0 (rawInt L) s.heap g->lK g e->Q () { s with heap:=g }):wpAny M A (noteFrame (.ref e) env) Q E s:=by
 unfold noteFrame
 simp only[ef]
 refine À (þ ge da v1 ?_)
 rw[if_neg (by decide)]
 exact tW fr fl ef ge kb bn da (Ĺ.mp v1).1 v0 v2 q
def GJ{cls a0:Value}(fr:A.frames=some (env::outer))(fl:s.heap.FunFrames base (env::outer))(ef:env.frame=some L)(tr:s.heap.TracedW base e cls a0)(nc:lK s.heap e)(kb:base.StaysIn s.heap)(bn:base.get? e=none)(q:∀g,Heap.NotedW base (env::outer) e cls a0 (rawInt L) s.heap g->lK g e->Q () { s with heap:=g }):wpAny M A (noteFrame (.ref e) env) Q E s:=by
 obtain⟨oe,vs,T,oT,ts,ge,⟨rfl,v0⟩,da,v1,bT,nT,gT,dT,t3⟩:=tr
 obtain⟨oe',vs',ge',da',v2⟩:=nc
 rw[ge] at ge'
 cases ge'
 rw[da] at da'
 cases da'
 unfold noteFrame
 simp only[ef]
 refine À (þ ge da v1 ?_)
 rw[if_pos (show(æ T != ð)=true by simp)]
 refine À (þ gT dT t3 ?_)
 rw[if_neg (show ¬((ð == rawInt L)=true) by simp[rawInt])]
 refine À (ŷ gT dT (Ĺ.mp t3).1 ?_)
 have oth:∀b,b≠T->(s.heap.update T (Ź (·.setIfInBounds 3 ð))).get? b=s.heap.get? b:=λb nb=>Ĝ _ _ (é nb)
 have rec0:∀b o,s.heap.get? b=some o->(∀vs,o.data≠.fields vs)->b≠T:=λb o eb nf z=>by
  rw[z,gT] at eb
  cases eb
  exact nf ts dT
 refine tW fr (fl.of_keeps λb o eb nf=>⟨o,(oth b (rec0 b o eb nf)).trans eb,rfl⟩) ef ((oth e (é nT)).trans ge) (λb o eb=>(oth b λz=>by rw[z,bT] at eb;cases eb).trans (kb b o eb)) bn da (Ĺ.mp v1).1 v0 v2 λg ⟨x1,x2,x3,x4⟩ y=>?_
 exact q g ⟨x1,x2,x3,λb o eb nf=>x4 b o ((oth b (rec0 b o eb nf)).trans eb) nf⟩ y
def pP{l:List Env}{cls a0 fl:Value}(kb:base.StaysIn s.heap)(hl:s.heap.FunFrames base l)(tr:s.heap.TracedAtW base e cls a0 fl)(nc:lK s.heap e)(q:∀g,base.StaysIn g->g.FunFrames base l->g.TracedW base e cls a0->(∀b o,s.heap.get? b=some o->(∀vs,o.data≠.fields vs)->g.get? b=some o)->lK g e->Q () { s with heap:=g }):wpAny M A (setFlight (.ref e) none) Q E s:=by
 obtain⟨oe,vs,T,oT,ts,ge,hc,da,v1,bT,nT,gT,dT,t3⟩:=tr
 have sz:3<ts.size:=(Ĺ.mp t3).1
 have oth:∀b,b≠T->(s.heap.update T (Ź (·.setIfInBounds 3 ((none:Option Addr).elim ð λf=>rawInt f)))).get? b=s.heap.get? b:=λb nb=>Ĝ _ _ (é nb)
 have rec0:∀b o,s.heap.get? b=some o->(∀vs,o.data≠.fields vs)->b≠T:=λb o eb nf z=>by
  rw[z,gT] at eb
  cases eb
  exact nf ts dT
 unfold setFlight
 refine À (þ ge da v1 ?_)
 rw[if_pos (show(æ T != ð)=true by simp)]
 refine ŷ gT dT sz (q _ (λb o eb=>(oth b λz=>by rw[z,bT] at eb;cases eb).trans (kb b o eb)) (hl.of_keeps λb o eb nf=>⟨o,(oth b (rec0 b o eb nf)).trans eb,rfl⟩) ?_ (λb o eb nf=>(oth b (rec0 b o eb nf)).trans eb) (nc.other nT))
 exact⟨oe,vs,T,_,_,(oth e (é nT)).trans ge,hc,da,v1,bT,nT,Heap.get?_update_self _ gT (ř (Ŋ dT _)),Ŋ dT _,by simp[sz]⟩
def yJ{oe:Obj}{vs:Array Value}{a0:Value}(fr:A.frames=some (env::outer))(fl:s.heap.FunFrames base (env::outer))(ef:env.frame=some L)(ge:s.heap.get? e=some oe)(kb:base.StaysIn s.heap)(bn:base.get? e=none)(da:oe.data=.fields vs)(v1:vs[1]?=some .none)(v0:vs[0]?=some a0)(v2:vs[2]?=some .none)(q:∀g,Heap.LeftW base (env::outer) e oe.cls a0 s.heap g->lK g e->Q () { s with heap:=g }):wpAny M A (leaving env (.ref e)) Q E s:=by
 unfold leaving
 refine À (Dg fr fl ef ge kb bn da v1 v0 v2 λg ⟨x1,x2,x3,x4⟩ y=>pP x1 x2 x3 y λg2 y1 y2 y3 y4 y5=>q g2 ⟨y1,y2,y3,λb o eb nf=>?_⟩ y5)
 obtain⟨sl,z⟩:=x4 b o eb nf
 exact⟨sl,y4 b _ z nf⟩
def Dh{cls a0:Value}(fr:A.frames=some (env::outer))(fl:s.heap.FunFrames base (env::outer))(ef:env.frame=some L)(tr:s.heap.TracedW base e cls a0)(nc:lK s.heap e)(kb:base.StaysIn s.heap)(bn:base.get? e=none)(q:∀g,Heap.LeftW base (env::outer) e cls a0 s.heap g->lK g e->Q () { s with heap:=g }):wpAny M A (leaving env (.ref e)) Q E s:=by
 unfold leaving
 refine À (GJ fr fl ef tr nc kb bn λg ⟨x1,x2,x3,x4⟩ y=>pP x1 x2 x3 y λg2 y1 y2 y3 y4 y5=>q g2 ⟨y1,y2,y3,λb o eb nf=>?_⟩ y5)
 obtain⟨sl,z⟩:=x4 b o eb nf
 exact⟨sl,y4 b _ z nf⟩
end
end PySem
namespace L2
open PySem PySem.Spec PyProof.Rows
def Pq(base:Heap)(l:List Env)(e:Addr)(cls a0:Value)(h:Heap):Prop:=base.StaysIn h/\base.get? e=none/\h.FunFrames base l/\h.TracedW base e cls a0/\lK h e
def CX1(P:Program)(w:World):CXT:=λouter H s E e s'=>∃(a:Addr) (cls a0:Value) (H1:Hp) (hb:Heap),e=.ref a/\s'.os=s.os/\AllBare s'.gens/\Un (frs outer) [] H H1 s.heap s'.heap/\HOk P w H1 hb/\Pq hb outer a cls a0 s'.heap /\
 (∀b o,s.heap.get? b=some o->H b=none->b∉frs outer->hb.get? b=some o)/\(∀b o,s.heap.get? b=some o->b∉frs outer->∃o',hb.get? b=some o')/\E cls none H1
structure Lets(X:Cx)(E:XK):Prop where
 xe:∀e s',wpAny (model X.prog X.w) X.A (leaving X.env e) (λ_ s''=>CX1 X.prog X.w X.outer X.H₀ X.s₀ E e s'') (λe' s''=>CX1 X.prog X.w X.outer X.H₀ X.s₀ E e' s'') s'->X.xe e s'
 stk:X.stack=X.env::X.outer
 fr:X.env.frame=some X.env.locals
 ex:X.ex=[]
def wM{fs:List Addr}{H H1:Hp}{h h1 h2 hb:Heap}(u:Un fs [] H H1 h h1)(k1:∀b o,h.get? b=some o->H b=none->b∉fs->hb.get? b=some o)(k4:∀b o,h.get? b=some o->b∉fs->∃o',hb.get? b=some o')(st:hb.StaysIn h2)(fr:∀b∈fs,∃o,h1.get? b=some o/\∀vs,o.data≠.fields vs)(up:∀b o,h1.get? b=some o->(∀vs,o.data≠.fields vs)->∃sl,h2.get? b=some { o with slots:=sl }):Un fs [] H H1 h h2 where
 keep:=λb o e n hb' _=>st b o (k1 b o e n hb')
 slot:=λb o e n hb' hx=>by
  obtain⟨sl,e1⟩:=u.slot b o e n hb' hx
  obtain⟨o1,e2,nf⟩:=fr b hb'
  rw[e1] at e2
  cases e2
  obtain⟨sl2,e3⟩:=up b _ e1 nf
  exact⟨sl2,e3⟩
 free:=u.free
 there:=λb o e hx=>by
  by_cases hb':b∈fs
  ·obtain⟨o1,e2,nf⟩:=fr b hb'
   obtain⟨sl2,e3⟩:=up b _ e2 nf
   exact⟨_,e3⟩
  ·obtain⟨o',e'⟩:=k4 b o e hb'
   exact⟨o',st b o' e'⟩
 tups:=u.tups
 frzs:=u.frzs
 tbls:=u.tbls
def ux{h h' base hb:Heap}(k:∀b o,h.get? b=some o->h'.get? b=some o):∀{l:List Env},h.FunFrames base l->(∀b∈frs l,hb.get? b=none)->h'.FunFrames hb l
 |[],_,_=>trivial
 |env::r,hl,hn=>by
  obtain⟨hk,⟨L,o,hf,hn',ho,hd⟩,hr⟩:=hl
  have hL:L∈frs (env::r):=by unfold frs;rw[ď,hf];exact Ì
  exact⟨hk,⟨L,o,hf,hn L hL,k _ _ ho,hd⟩,ux k hr λb hb'=>hn b (by
   unfold frs;rw[ď,hf];exact Ï _ hb')⟩
def pZ{h hb:Heap}{env:Env}{l:List Env}(x:h.FunFrames hb (env::l)):h.FunFrames hb l:=x.2.2
section
variable {X:Cx}{pins:List (Addr×Obj)}{σ:St}{H H1:Hp}{s:Shared}{E:XK}
def Inv.tL(L:Lets X E)(I:Inv X pins σ H s){b:Addr}{o:Obj}(e:X.s₀.heap.get? b=some o)(h:b∉frs X.outer):b∉frs X.stack:=λz=>by
 rcases É.mp (I.mU b z) with z|z
 ·have h1:=Å e
  have h2:=I.ok.above
  rw[z] at h1
  exact absurd (Ó h1 h2) (ú _)
 ·exact h z
def xq{h1 h2 hb:Heap}(L:Lets X E)(I:Inv X pins σ H s)(un:Un (frs X.stack) [] H H1 s.heap h1)(k1:∀b o,s.heap.get? b=some o->H b=none->b∉frs X.stack->hb.get? b=some o)(k4:∀b o,s.heap.get? b=some o->b∉frs X.stack->∃o',hb.get? b=some o')(f1:h1.FunFrames hb X.stack)(st:hb.StaysIn h2)(up:∀b o,h1.get? b=some o->(∀vs,o.data≠.fields vs)->∃sl,h2.get? b=some { o with slots:=sl }) :
  Un (frs X.outer) [] X.H₀ H1 X.s₀.heap h2/\(∀b o,X.s₀.heap.get? b=some o->X.H₀ b=none->b∉frs X.outer->hb.get? b=some o)/\(∀b o,X.s₀.heap.get? b=some o->b∉frs X.outer->∃o',hb.get? b=some o'):=by
 have nx:∀b:Addr,b∉X.ex:=λb=>by rw[L.ex];simp
 have sub:∀b∈frs X.outer,b∈frs X.stack:=λb hb'=>by
  rw[L.stk]
  unfold frs
  rw[ď,L.fr]
  exact Ï _ hb'
 have K1:∀b o,X.s₀.heap.get? b=some o->X.H₀ b=none->b∉frs X.outer->hb.get? b=some o:=λb o e n hb' =>
  k1 b o (I.base.keep b o e n hb' (nx b)) (I.base.free b o e n (nx b)) (I.tL L e hb')
 have K4:∀b o,X.s₀.heap.get? b=some o->b∉frs X.outer->∃o',hb.get? b=some o':=λb o e hb'=>by
  obtain⟨o',e'⟩:=I.base.there b o e (nx b)
  exact k4 b o' e' (I.tL L e hb')
 refine⟨⟨λb o e n hb' _=>st b o (K1 b o e n hb'),λb o e n hb' _=>?_,λb o e n _=>?_,λb o e _=>?_,λb xs q=>un.tups b xs (I.base.tups b xs q),λb o u q=>un.frzs b o u (I.base.frzs b o u q),λb ps q=>?_⟩,K1,K4⟩
 ·obtain⟨sl,e1⟩:=I.base.slot b o e n hb' (nx b)
  obtain⟨sl1,e2⟩:=un.slot b _ e1 (I.base.free b o e n (nx b)) (sub b hb') (by simp)
  obtain⟨_,o1,e3,nf⟩:=f1.mem (sub b hb')
  rw[e2] at e3
  cases e3
  obtain⟨sl2,e4⟩:=up b _ e2 nf
  exact⟨sl2,e4⟩
 ·obtain⟨o',e'⟩:=I.base.there b o e (nx b)
  exact un.free b o' e' (I.base.free b o e n (nx b)) (by simp)
 ·by_cases hb':b∈frs X.stack
  ·obtain⟨_,o1,e3,nf⟩:=f1.mem hb'
   obtain⟨sl2,e4⟩:=up b _ e3 nf
   exact⟨_,e4⟩
  ·obtain⟨o',e'⟩:=K4 b o e (λz=>hb' (sub b z))
   exact⟨o',st b o' e'⟩
 ·obtain⟨m1,e1⟩:=I.base.tbls b ps q
  obtain⟨m2,e2⟩:=un.tbls b _ e1
  exact⟨m1++m2,by rw[e2,Array.append_assoc]⟩
def fL(L:Lets X E):Passes (CX1 X.prog X.w) X E:=λpins σ H s e s' I h=>by
 obtain⟨a,cls,a0,H1,hb,rfl,os,bare,un,hok,⟨st,hn,fs,tr⟩,k1,k4,q⟩:=h
 refine L.xe _ _ (Dh (base:=hb) (by rw[I.ok.frames,L.stk]) (L.stk ▸ fs) L.fr tr.1 tr.2 st hn λh2 ⟨l1,l2,l3,l4⟩ l5=>?_)
 obtain⟨u,K1,K4⟩:=xq L I un k1 k4 fs l1 l4
 exact⟨a,cls,a0,H1,hb,rfl,os.trans I.os,bare,u,hok,⟨l1,hn,pZ l2,l3,l5⟩,K1,K4,q⟩
def DP(I:Inv X pins σ H s):HOk X.prog X.w H (ł s.heap (frs X.stack)):=λb u e=>by
 have nf:∀{c v},H c=some v->c∉frs X.stack:=λ{c v} q z=>by rw[I.qx c z] at q;cases q
 refine(I.hok b u e).stay (λc v hcv y=>Ţ _ y ?_) (λ_ q=>q) λ_ _ q=>q
 rcases hcv with rfl|z
 ·exact nf e
 ·exact nf z
def yC(L:Lets X E)(I:Inv X pins σ H s){h':Heap}{e:Addr}{cls:Value}{args:List Value}(m:s.heap.MadeExcOf h' e cls args)(q:E cls none H):X.xe (.ref e) { s with heap:=h' }:=by
 obtain⟨k,new,t,he,ht,_⟩:=m
 have hbn:(ł s.heap (frs X.stack)).get? e=none:=by
  cases z:(ł s.heap (frs X.stack)).get? e with
  |none=>rfl
  |some o=>rw[W.of_hideAll _ z] at new;cases new
 have st0:(ł s.heap (frs X.stack)).StaysIn h':=λb o z=>k b o (W.of_hideAll _ z)
 have f1:h'.FunFrames (ł s.heap (frs X.stack)) X.stack:=ux k I.stack λb hb=>W.hideAll_none _ hb
 have k1:∀b o,s.heap.get? b=some o->H b=none->b∉frs X.stack->(ł s.heap (frs X.stack)).get? b=some o:=λb o z _ nb=>Ţ _ z nb
 have k4:∀b o,s.heap.get? b=some o->b∉frs X.stack->∃o',(ł s.heap (frs X.stack)).get? b=some o':=λb o z nb=>⟨o,Ţ _ z nb⟩
 have hok:=DP I
 generalize ł s.heap (frs X.stack)=hb at hbn st0 f1 k1 k4 hok
 have f2:h'.FunFrames hb (X.env::X.outer):=by rw[←L.stk];exact f1
 refine L.xe _ _ (yJ (base:=hb) (a0:=.ref t) (by rw[I.ok.frames,L.stk]) f2 L.fr he st0 hbn rfl rfl rfl rfl λh2 ⟨l1,l2,l3,l4⟩ l5=>?_)
 obtain⟨u,K1,K4⟩:=xq (H1:=H) (h1:=h') L I (Un.kept k) k1 k4 f1 l1 l4
 exact⟨e,cls,.ref t,H,hb,rfl,I.os,I.bare,u,hok,⟨l1,hbn,pZ l2,l3,l5⟩,K1,K4,q⟩
end
def bM{P:Program}{w:World}{K:Ê}{mg:Str->Option Value}{base:Heap}{N:List Str}{qual:Str}{scope:Scope}{f:Addr}{cd:Value}{A:Around}{outer:List Env}{s:Shared}{H:Hp}{E:XK}:Lets (rR (CX1 P w) P w K mg base N qual scope f cd A outer s H E) E:=⟨λ_ _ h=>h,rfl,rfl,rfl⟩
def Fun.ok1{P:Program}{w:World}{K:Ê}{mg:Str->Option Value}{base:Heap}{x qual:Str}{st:Stmt}{f:Addr}{fd:FuncData}{N ps:List Str}{k:Nat}{sp:Sp}(F:Fun K x qual st f fd)(S:FnScope N ps (aB st))(len:∀vs H Q E,sp vs H Q E->vs.length=ps.length)(hbody:∀(cdv:Value) (A:Around) (outer:List Env) (s:Shared) (H:Hp) (vs:List V) (Q:VK) (E:XK),Room k (A.deeper (envOfC qual (aB st) s.heap.objs.size f cdv))->sp vs H Q E ->
   ∃t,PSs (rR (CX1 P w) P w K mg base N qual (aB st) f cdv A outer s H E) (bY st) t/\t { nx:=λ_ H'=>Q .non H',rt:=Q } (start N vs) H):FnOk P w K mg base (CX1 P w) (k+1) f fd ps sp:=by
 obtain⟨oc,od,kV,doc,pm,an,cdv,ct,osl,rfl,lk,hcd⟩:=F.ex
 refine Ej lk hcd S len λA outer s H vs Q E hr hsp=>?_
 obtain⟨t,h,q⟩:=hbody cdv A outer s H vs Q E hr hsp
 exact⟨t,h,q⟩
structure ExcCls(K:Ê)(C:Addr)(newId:String)(bmB:List Value):Prop where
 ex:∃(nm q:Str) (N:Addr) (bs bm:List Value) (hdct:Bool) (sn:List Str) (sub:List Value) (ab:Bool) (col:Option Bool) (dd:Option Addr) (k0 k1 k2 k3 k5:Option Value),
  K.lookup C=some (excClassObj nm q C N bs bm hdct sn sub ab col dd k0 k1 k2 k3 k5 newId)/\W.tailIn K bmB bm=true/\W.nsOkIn K N=true/\W.nsIn K N "__init__"=some none/\bm.contains (.type "BaseException")=true
section
variable {X:Cx}{E:XK}{x:Str}{C:Addr}{newId Bn initId:String}{bmB:List Value}{e:Expr}{es:List Expr}{t:TA}{np cpos pos:Pos}
def IK(E:XK)(C:Addr)(t:TA):TS:=λ_ σ H=>t σ H λvs H1=>vs.length<=sizeLine/\E (.ref C) none H1
def Bw(L:Lets X E)(hc:X.calm=true)(hg:Gl X x)(hm:X.mg x=some (.ref C))(hx:ExcCls X.K C newId bmB)(B:ExcBaseFacts Bn newId initId bmB)(ha:PA X (e::es) t)(hdb:(x == ("__debug__":Str))=false:=by decide)(he:starEach (e::es) X.env=(false,eval e X.env)::starEach es X.env:=by rfl)(hpl:(backTo cpos (starEach (e::es) X.env)).any (·.1)=false:=by rfl)(hcons:backTo cpos (starEach (e::es) X.env)=(false,eval e X.env)::backTo cpos (starEach es X.env):=by rfl) :
  PS X (.Raise (some (.Call (.Name x np) (e::es) [] cpos)) none pos) (IK E C t):=by
 intro pins s σ H D I h
 obtain⟨nm,q,N,bs,bm,hdct,sn,sub,ab,col,dd,k0,k1,k2,k3,k5,lk,tl,nso,nin,bmc⟩:=hx.ex
 have nsb:X.base.Ns N (X.base.nsMap N):=Heap.Ns.of_isNs (W.isNs_of_in I.ok.mod.kin nso)
 refine wpAny_Raise_call_subT (nm:=nm) (q:=q) (N:=N) (bs:=bs) (bm:=bm) (hdct:=hdct) (sn:=sn) (sub:=sub) (ab:=ab) (col:=col) (dd:=dd) (k0:=k0) (k1:=k1) (k2:=k2) (k3:=k3) (k5:=k5) (mN:=X.base.nsMap N) B bmc (I.ok.hd hc) hpl (W.nsMap_none_of_in I.ok.mod.kin nso nin) (jZ I hg hm ⟨rfl,?_⟩ hdb)
 rw[hcons]
 refine PySem.Calls.evalArgs_plain ?_
 rw[←hcons]
 refine thn (ha cpos pins s σ H _ I h) λus s1 ⟨vs,H1,I1,r,hl,q⟩=>⟨rfl,by rw[←r.length];exact hl,I1.kIn _ _ lk,nsb.keeps I1.bk,W.tail_of_in I1.kIn tl,λh' a m=>yC L I1 m q⟩
end
abbrev Cx.handling(X:Cx)(e:Value):Cx:={ X with A:=X.A.mark (some e),calm:=false,xe:=λ_ _=>False,sf:=[] }
section
variable {X:Cx}{pins:List (Addr×Obj)}{σ:St}{H:Hp}{s:Shared}{ev:Value}
def Inv.handling(I:Inv X pins σ H s)(ev:Value):Inv (X.handling ev) pins σ H s :=
 ⟨⟨I.ok.mod,I.ok.kind,I.ok.glob,I.ok.blt,I.ok.above,I.ok.inj,I.ok.has,I.ok.cab,(λh=>nomatch h),I.ok.frames,I.ok.stk,I.ok.exf,I.ok.bs,I.ok.bsz,I.ok.noex,I.ok.exfs,I.ok.jC,I.ok.frf,λq z=>nomatch z⟩,I.os,I.bare,I.base,I.loc,I.cell,I.free,I.freeC,I.pin,I.hok,I.len⟩
def Inv.handled(ok:X.Ok)(I:Inv (X.handling ev) pins σ H s):Inv X pins σ H s:=⟨ok,I.os,I.bare,I.base,I.loc,I.cell,I.free,I.freeC,I.pin,I.hok,I.len⟩
def gY(a:Addr)(cls:Value):Heap->Prop:=λh=>∃oe vs,h.get? a=some oe/\oe.cls=cls/\oe.data=.fields vs
def uF(a:Addr)(cls:Value):HO:=.ext (gY a cls)
def gY.ok{P:Program}{w:World}{H:Hp}{h:Heap}{a:Addr}{cls:Value}(x:gY a cls h):aM P w H h a (uF a cls) :=
 ⟨x,let ⟨oe,_,e,_⟩:=x;⟨oe,e⟩,λh1 h2 ⟨oe,vs,e,c,d⟩ k=>⟨oe,vs,k _ e,c,d⟩⟩
def Inv.track{a:Addr}{o:HO}(I:Inv X pins σ H s)(hn:H a=none)(h0:∀ob,X.s₀.heap.get? a≠some ob)(hL:a≠X.env.locals)(hC:∀x c,X.env.cells.lookup x=some c->c≠a)(hp:∀p∈X.pn++pins,p.1≠a)(new:aM X.prog X.w (upd H a o) s.heap a o):Inv X pins σ (upd H a o) s:=by
 refine⟨I.ok,I.os,I.bare,⟨I.base.keep,I.base.slot,λb ob e n hx=>?_,I.base.there,λb xs e=>?_,λb ob u e=>?_,λb ps e=>?_⟩,I.loc,I.cell,?_,λx c e=>?_,λp q=>?_,I.hok.track hn new,I.len⟩
 ·rw[ao (show b≠a from λz=>h0 ob (by rw[←z];exact e))]
  exact I.base.free b ob e n hx
 ·have q:=I.base.tups b xs e
  rw[ao (au q hn)]
  exact q
 ·have q:=I.base.frzs b ob u e
  rw[ao (au q hn)]
  exact q
 ·obtain⟨m,q⟩:=I.base.tbls b ps e
  exact⟨m,by rw[ao (au q hn)];exact q⟩
 ·rw[ao (é hL)]
  exact I.free
 ·rw[ao (hC x c e)]
  exact I.freeC x c e
 ·obtain⟨q1,q2,q3⟩:=I.pin p q
  exact⟨q1,by rw[ao (hp p q)];exact q2,q3⟩
end
def aM.there{P:Program}{w:World}{H:Hp}{h:Heap}{a:Addr}{o:HO}(x:aM P w H h a o):∃ob,h.get? a=some ob:=by
 cases o with
 |lst xs=>obtain⟨_,_,_,_,e⟩:=x;exact⟨_,e⟩
 |tup xs=>obtain⟨_,_,_,o,e,_⟩:=x;exact⟨_,e⟩
 |dK kvs=>obtain⟨_,_,_,_,o,_,_,e,_⟩:=x;exact⟨_,e⟩
 |dT kvs=>obtain⟨_,_,_,_,o,_,_,e,_⟩:=x;exact⟨_,e⟩
 |set S n=>obtain⟨o,_,_,_,e,_⟩:=x;exact⟨_,e⟩
 |ins C dx fs=>obtain⟨_,_,_,e,_⟩:=x;exact⟨_,e⟩
 |own y=>exact x
 |xd fs=>obtain⟨_,⟨_,_,_,e,_⟩,_⟩:=x;exact⟨_,e⟩
 |rng lo hi=>obtain⟨_,_,_,e⟩:=x;exact⟨_,e⟩
 |frz ob u=>exact⟨_,x.1⟩
 |tbl ps=>exact⟨_,(show h.get? a=some _ from x)⟩
 |met f y=>exact⟨_,(show h.get? a=some _ from x)⟩
 |ext φ=>exact x.2.1
def Inv.unbound{X:Cx}{pins:List (Addr×Obj)}{σ:St}{H:Hp}{s:Shared}{j:Nat}{n:Str}{m:Str->Option Value}{v:Option Value}{h':Heap}{tk:Nat}(I:Inv X pins σ H s)(hN:X.N.Nodup)(hj:X.N[j]?=some n)(hm:s.heap.Ns X.env.locals m)(hn:h'.Ns X.env.locals λx=>if x=n then v else m x)(hs:ũ X.env.locals s.heap h'):Inv X pins (σ.set j none) H { s with heap:=h',toks:=tk }:=by
 obtain⟨m0,hm0,hl⟩:=id I.loc
 have em:m0=m:=by
  obtain⟨o1,es1,ep1,e1,d1,_,f1⟩:=id hm0
  obtain⟨o2,es2,ep2,e2,d2,_,f2⟩:=id hm
  rw[e1] at e2
  cases e2
  rw[d1] at d2
  cases d2
  funext y
  rw[←f1,←f2]
 subst em
 have neL:∀b o,X.s₀.heap.get? b=some o->b≠X.env.locals:=λb o e=>Û (Ó (Å e) I.ok.above)
 have cne:=I.cne
 refine⟨I.ok,I.os,I.bare,⟨λb o e n' hb hx=>(hs.2 b (neL b o e)).trans (I.base.keep b o e n' hb hx),λb o e n' hb hx=>?_,I.base.free,λb o e hx=>?_,I.base.tups,I.base.frzs,I.base.tbls⟩,⟨_,hn,λi y v' e1 e2 e3=>?_⟩,λy c e=>?_,I.free,I.freeC,λp hp=>?_,λb u e=>?_,by rw[List.length_set];exact I.len⟩
 ·obtain⟨sl,e1⟩:=I.base.slot b o e n' hb hx
  exact⟨sl,(hs.2 b (neL b o e)).trans e1⟩
 ·obtain⟨o',e1⟩:=I.base.there b o e hx
  exact⟨o',(hs.2 b (neL b o e)).trans e1⟩
 ·by_cases hij:i=j
  ·subst hij
   rw[List.getElem?_set] at e2
   simp at e2
  ·rw[Ę (é hij)] at e2
   obtain⟨u',r',q⟩:=hl i y v' e1 e2 e3
   refine⟨u',r',?_⟩
   rcases q with ⟨k,e⟩|⟨k,c,e,z⟩
   ·refine .inl ⟨k,?_⟩
    have:y≠n:=λe=>hij (nO hN e1 (e ▸ hj))
    simp[this,e]
   ·exact .inr ⟨k,c,e,z.sameBut hs (cne y c e)⟩
 ·obtain⟨u,z⟩:=I.cell y c e
  exact⟨u,z.sameBut hs (cne y c e)⟩
 ·obtain⟨q1,q2,q3,q4⟩:=I.pin p hp
  exact⟨(hs.2 p.1 q3).trans q1,q2,q3,q4⟩
 ·refine(I.hok b u e).stay (λc w' hc q=>(hs.2 c ?_).trans q) (λ_ q=>q) λ_ _ q=>q
  intro z
  rcases hc with hc|hc
  ·rw[←hc,z,I.free] at e;cases e
  ·rw[z,I.free] at hc;cases hc
section
variable {X:Cx}{k:Nat}{f CF:Addr}{fd:FuncData}{ps:List Str}{sp:Sp}{E:XK}{x hx n:Str}{p np cpos epos hpos pos:Pos}{e:Expr}{es:List Expr}{t:TA}{b₀:Stmt}{suite:List Stmt}{ts:TS}{j:Nat}
end
end L2
namespace L2
open PySem PySem.W PySem.Spec PyProof.Rows
structure ExcK(K:Ê)(C:Addr):Prop where
 ex:∃(nm q:Str) (N AF:Addr) (bs bmB:List Value) (hdct:Bool) (sn:List Str) (sub:List Value) (ab:Bool) (col:Option Bool) (dd ddF:Option Addr) (k0 k1 k2 k3 k5:Option Value) (newId B:String) (c0:Value) (cd:ClassData) (slF:Array (Option Value)),
  K.lookup C=some (excClassObj nm q C N bs (.ref AF::bmB) hdct sn sub ab col dd k0 k1 k2 k3 k5 newId)/\K.lookup AF=some ⟨c0,ddF,.cls cd,slF⟩/\nsOkIn K cd.ns=true/\(∀n∈quietNames,nsIn K cd.ns n=some none)/\ExcAttrBase B bmB
 ga:findIn K (.ref C) "__getattribute__"=some (some (.builtin "BaseException.__getattribute__"))
 hook:findIn K (.ref C) "__getattr__"=some none
 cls:findIn K (.ref C) "__class__"=some (some (.builtin "object.__class__"))
 mro:mroIn K C (.type "object")=some true
section
variable {prog:Program}{w:World}{K:Ê}{a C:Addr}{A:Around}{E:Value->Shared->Prop}{s:Shared}
def rM{M:Model}{h:Heap}(x:gY a (.ref C) h):Looks M h (typeOf (.ref a)) (.ref C):=λA Q E s k q=>by
 obtain⟨oe,vs,e1,e2,_⟩:=x
 refine wpAny_typeOf_ref (k _ _ e1) ?_
 rw[e2]
 exact q
def Hl{tp:Value}{R:Result->Shared->Prop}(X:K.In s.heap)(x:gY a (.ref C) s.heap)(hm:mroIn K C (.type "object")=some true)(h:R (.ok (.ret (.ref C))) s) :
  codeAny (model prog w) A (.call (.builtin "getset_descriptor.__get__") ⟨[.builtin "object.__class__",.ref a,tp],[]⟩) R s:=by
 obtain⟨hh,g,dr,t,os⟩:=s
 have L0:=rM (M:=model prog w) x
 have L1:=looks_mroIn (M:=model prog w) X hm
 refine codeAny_call_builtin KF.slot_gs.plain KF.entry_gs (KF.slot_gs.check _ _ _ _ _ _ _ _ KF.type_class (KF.args_gs _ _ _) ?_)
 show wpAny _ _ (ş _) _ _ _
 unfold ş
 rw[dga_obj]
 refine À (Ç ?_)
 show wpAny _ _ (ŋ (.builtin "object.__class__") (.ref a) >>= _) _ _ _
 have e1:Builtin.Getset_descriptor.descrNameAndClass (.builtin "object.__class__")=pure (á "__class__",.type "object"):=by
  show pure (á (ŏ "object.__class__").2,đ (ŏ "object.__class__").1)=_
  rw[KF.owner_class]
 unfold ŋ
 rw[e1]
 refine À (À (Ç ?_))
 show wpAny _ _ ((do let t ←typeOf (.ref a);isSubtype t (.type "object")) >>= _) _ _ _
 refine À (À (PySem.W.Looks.at L0 (PySem.W.Looks.at L1 ?_)))
 refine wpAny_ite_false rfl (Ç ?_)
 refine Ç ⟨Code.quiet_builtin _ (by decide +kernel),codeAny_builtin KF.entry_class ?_⟩
 show wpAny _ _ ((typeOf (.ref a) >>= _) >>= _) _ _ _
 refine À (À (PySem.W.Looks.at L0 ?_))
 exact Ç (Ç h)
def zq{h:Heap}{AF:Addr}{bmB:List Value}{c0:Value}{ddF:Option Addr}{cd:ClassData}{slF:Array (Option Value)}(X:K.In h)(lkF:K.lookup AF=some ⟨c0,ddF,.cls cd,slF⟩)(nsF:nsOkIn K cd.ns=true)(qF:∀n∈quietNames,nsIn K cd.ns n=some none):OwnTailQ h bmB (.ref AF::bmB) :=
 .own (X _ _ lkF) (Heap.Ns.of_isNs (isNs_of_in X nsF)) (λn hn=>nsMap_none_of_in X nsF (qF n hn)) .base
def zu{tk:Tok}{Q:PySem.Fin->Shared->Prop}(X:K.In s.heap)(k:ExcK K C)(x:gY a (.ref C) s.heap)(h:Q (.done (.ret (.ref C))) s) :
  wpAny (model prog w) A (Builtin.«object.__getattribute__» ⟨[.ref a,.str "__class__" tk],[]⟩) Q E s:=by
 obtain⟨hh,g,dr,t,os⟩:=s
 have L0:=rM (M:=model prog w) x
 have L2:=looks_findIn (M:=model prog w) X k.cls
 have es:slotArgs "__getattribute__" 1 ⟨[.ref a,.str "__class__" tk],[]⟩=pure (.ref a,[.str "__class__" tk]):=rfl
 have en:Builtin.ObjectAttr.attrName (.str "__class__" tk)=pure (á "__class__"):=rfl
 unfold Builtin.«object.__getattribute__»
 rw[es]
 refine À (Ç ?_)
 show wpAny _ _ (Builtin.ObjectAttr.attrName (.str "__class__" tk) >>= _) _ _ _
 rw[en]
 refine À (Ç ?_)
 refine À (PySem.W.Looks.at L0 ?_)
 refine À ?_
 unfold Builtin.ObjectAttr.find
 refine À (PySem.W.Looks.at L2 ?_)
 refine À (wpAny_specialOf_val F.typeOf_object_class F.slot_gs_get.lookup ?_)
 refine À (À (À (wpAny_specialOf_val F.typeOf_object_class F.slot_gs_set.lookup ?_)))
 refine wpAny_ite_true rfl (Ç (wpAny_ite_true rfl (Ç (À (wpAny_rule (Ç ?_))))))
 show wpAny _ _ (holding _ (call _ _) >>= _) _ _ _
 exact À (ŧ (wpAny_call (Hl X x k.mro (Ç h))))
def KJ{tk:Tok}{Q:Value->Shared->Prop}(X:K.In s.heap)(k:ExcK K C)(x:gY a (.ref C) s.heap)(h:Q (.ref C) s):wpAny (model prog w) A (getAttrBy (.ref a) (.str "__class__" tk) false) Q E s:=by
 obtain⟨nm,q,N,AF,bs,bmB,hdct,sn,sub,ab,col,dd,ddF,k0,k1,k2,k3,k5,newId,B,c0,cd,slF,lk,lkF,nsF,qF,FB⟩:=k.ex
 obtain⟨hh,g,dr,t,os⟩:=s
 obtain⟨oe,vs,e1,e2,e3⟩:=id x
 have L0:=rM (M:=model prog w) x
 have L3:=looks_findIn (M:=model prog w) X k.ga
 have L4:=looks_findIn (M:=model prog w) X k.hook
 refine ŧ (À (PySem.W.Looks.at L0 (À (PySem.W.Looks.at L3 ?_))))
 refine wpAny_ite_false rfl ?_
 refine À (wpAny_ite_true rfl (PySem.W.Looks.at L4 (À (wpAny_attempt (ŧ ?_)))))
 refine wpAny_ite_false rfl ?_
 refine À (wpAny_of_eq (FB.ga.bind (.ref a)) (wpAny_call ?_))
 refine codeAny_call_builtin FB.ga.plain F.entry_bexc_ga (wpAny_check_ga_own FB (X _ _ lk) (zq X lkF nsF qF) e1 e2 ?_)
 exact zu X k x (Ç h)
def KH{Q:Option Value->Shared->Prop}(X:K.In s.heap)(k:ExcK K C)(x:gY a (.ref C) s.heap)(h:Q (some (.ref C)) { s with toks:=s.toks+1 }):wpAny (model prog w) A (getAttr? (.ref a) "__class__") Q E s:=by
 obtain⟨hh,g,dr,t,os⟩:=s
 exact À (À (wpAny_fresh' (Ç (À (wpAny_attempt (KJ (s:=⟨hh,g,dr,t+1,os⟩) X k x (Ç h)))))))
def uE(k:ExcK K C):KitX K (.ref a) (.ref C) (gY a (.ref C)) where
 ty:=λM h _ x=>rM x
 it:=λM h X x A Q E s kk q=>by
  obtain⟨nm,q',N,AF,bs,bmB,hdct,sn,sub,ab,col,dd,ddF,k0,k1,k2,k3,k5,newId,B,c0,cd,slF,lk,_⟩:=k.ex
  exact À (wpAny_loadPart (kk _ _ (X _ _ lk)) (Ç q))
 ne:=λh tp dd its n sl X htp=>by
  obtain⟨nm,q',N,AF,bs,bmB,hdct,sn,sub,ab,col,dd,ddF,k0,k1,k2,k3,k5,newId,B,c0,cd,slF,lk,_⟩:=k.ex
  rw[Bool.eq_false_iff]
  intro z
  have e:C=tp:=Value.ref.inj (beq_iff_eq.mp z)
  rw[←e,X _ _ lk] at htp
  have z:=congrArg Obj.data (Ò htp)
  cases z
 ca:=λX x h=>KH X k x h
end
section
variable {X:Cx}
def HD:R2:=λx y H Q=>∃a b xs ys,x=.ref a/\y=.ref b/\H a=some (.tup xs)/\H b=some (.tup ys)/\xs.length+ys.length<=sizeLine/\∀c H',(∀d u,H d=some u->H' d=some u)->H' c=some (.tup (xs++ys))->Q (.ref c) H'
def Gp:OpR X (binaryOp .Add) HD:=by
 intro pins s σ H x y v u Q I rx ry h
 obtain⟨a,b,xs,ys,rfl,rfl,ha,hb,hz,q⟩:=h
 cases rx
 cases ry
 obtain⟨its,r1,p1,_⟩:=I.tuple (SqT.of ha)
 obtain⟨its2,r2,p2,_⟩:=I.tuple (SqT.of hb)
 by_cases hx:xs=[]
 ·subst hx
  cases r1
  obtain⟨m,F⟩:=I.fr
  refine add_tuples (vs:=[]) F Dd p1 p2 (λ_=>⟨.ref b,H,I,rfl,q b H (λ_ _ z=>z) (by simpa using hb)⟩) (λz=>absurd rfl z) (λz=>absurd rfl z) (by rw[←r2.length];simpa using hz)
 ·refine Gn pins s σ H (.ref a) (.ref b) (.ref a) (.ref b) Q I rfl rfl ⟨a,b,xs,ys,rfl,rfl,SqT.of ha,SqT.of hb,hx,hz,λe=>?_,λ_ p hp=>?_⟩
  ·subst e
   exact q a H (λ_ _ z=>z) (by rw[ą];exact ha)
  ·exact q p _ (λd u z=>by rw[ao (au z hp)];exact z) aA
def qg:aW X (.builtin "isinstance") (λxs H Q=>∃(a C:Addr) (c:V) (cv:Value) (b:Bool),xs=[.ref a,c]/\H a=some (uF a (.ref C))/\ExcK X.K C/\kitOne X.K (.ref C) cv=some b/\(∀u,RelV c u->u=cv)/\Q (.bl b) H):=by
 intro pins s σ H xs us Q I r h
 obtain⟨a,C,c,cv,b,rfl,ha,k,e,hu,q⟩:=h
 obtain⟨u,u2,rfl,rx,rc⟩:=vals2 r
 cases rx
 obtain rfl:=hu u2 rc
 have x:gY a (.ref C) s.heap:=(I.hok a _ ha).1
 exact kia_one (uE k) I.kIn x e (λz=>nomatch z) λtk=>⟨.bl b,H,I.tok _,rfl,q⟩
def pG:∀{cs:List Addr}{us:List Value},Vals (cs.map V.ref) us->us=cs.map æ
 |[],_,h=>by cases h;rfl
 |b::bs,_,h=>by
  cases h with
  |cons r t =>
   cases r
   rw[pG t]
   rfl
def Fj:aW X (.builtin "isinstance") (λxs H Q=>∃(a C tp:Addr) (cs:List Addr) (b:Bool),xs=[.ref a,.ref tp]/\H a=some (uF a (.ref C))/\ExcK X.K C/\SqT X.K H tp (cs.map V.ref)/\kitAny X.K (.ref C) (cs.map æ)=some b/\Q (.bl b) H):=by
 intro pins s σ H xs us Q I r h
 obtain⟨a,C,tp,cs,b,rfl,ha,k,hp,e,q⟩:=h
 obtain⟨u,u2,rfl,rx,rc⟩:=vals2 r
 cases rx
 cases rc
 have x:gY a (.ref C) s.heap:=(I.hok a _ ha).1
 obtain⟨its,rv,⟨o,ho,hcl,n,hd⟩,hz⟩:=I.tuple hp
 have ei:=pG rv
 subst ei
 obtain⟨oc,od,odt,osl⟩:=o
 cases hcl
 cases hd
 exact kia_tup (uE k) I.kIn x ho e (λz=>nomatch z) λtk=>⟨.bl b,H,I.tok _,rfl,q⟩
end
section
variable {K:Ê}{C c:Addr}{dd:Option Addr}{cd:ClassData}{sl:Array (Option Value)}
def pQ(lk:K.lookup c=some ⟨.type "type",dd,.cls cd,sl⟩):kitCls K (.ref C) (.ref c)=mroIn K C (.ref c):=by
 have e1:clsIn K c=some cd:=by unfold clsIn;rw[lk]
 have e2:typeIn K (.ref c)=some (.type "type"):=by
  show Option.map _ (Ĭ c K)=_
  rw[lk]
  rfl
 show(if ((clsIn K c).isSome&&typeIn K (.ref c) == some (.type "type"))=true then subIn K (.ref C) (.ref c) else none)=_
 rw[e1,e2,if_pos (by simp)]
 rfl
def yQ(lk:K.lookup c=some ⟨.type "type",dd,.cls cd,sl⟩)(m:mroIn K C (.ref c)=some false)(mm:mroIn K C (.ref C)=some true):kitOne K (.ref C) (.ref c)=some false:=by
 have hne:C≠c:=λz=>by rw[←z,mm] at m;cases m
 unfold kitOne
 rw[if_neg (λz=>hne (Value.ref.inj (beq_iff_eq.mp z))),pQ lk]
 exact m
def uq:kitOne K (.ref C) (.ref C)=some true:=by
 unfold kitOne
 rw[if_pos (by simp)]
def uo{T:String}(hm:kitMeta T=true)(m:mroIn K C (.type T)=some true):kitOne K (.ref C) (.type T)=some true:=by
 unfold kitOne
 rw[if_neg (λz=>by have:=beq_iff_eq.mp z;cases this)]
 show(if kitMeta T=true then subIn K (.ref C) (.type T) else none)=_
 rw[if_pos hm]
 exact m
def pR{t:Value}:∀{cs:List Value},(∀c∈cs,kitOne K t c=some false)->kitAny K t cs=some false
 |[],_=>by rw[kitAny.eq_def]
 |c::cs,h=>by
  rw[kitAny.eq_def]
  simp only[h c Ì]
  exact pR λd hd=>h d (Ï _ hd)
def zm(lk:K.lookup c=some ⟨.type "type",dd,.cls cd,sl⟩)(b:mroIn K c (.type "BaseException")=some true)(m:mroIn K C (.ref c)=some true):exmOne K (.ref C) (.ref c)=some true:=by
 unfold exmOne
 have e:subIn K (.ref c) (.type "BaseException")=some true:=b
 rw[e,if_pos (by decide +kernel),pQ lk]
 exact m
def w5{N:Addr}{cl:Value}{d:Option Addr}{es:Array DictEntry}{ep:Nat}{s:Array (Option Value)}(lk:K.lookup N=some ⟨cl,d,.dict es ep,s⟩)(h:(es.toList.all λe=>match e.key with|.str _ _=>true|_=>false)=true):nsOkIn K N=true:=by
 rw[Array.all_toList] at h
 unfold nsOkIn
 rw[lk]
 exact h
def yr{v:Value}{r:List Value}:tailIn K (v::r) (v::r)=true:=by
 rw[tailIn.eq_def]
 simp
def Am{bmB:List Value}{cl:Value}(lk:K.lookup c=some ⟨cl,dd,.cls cd,sl⟩)(ns:nsOkIn K cd.ns=true)(ni:nsIn K cd.ns "__init__"=some none)(hb:tailIn K bmB bmB=true):tailIn K bmB (.ref c::bmB)=true:=by
 rw[tailIn.eq_def]
 simp only[lk,ns,ni,hb]
 simp
end
end L2
namespace Dl
open PySem L2 PyProof.Rows
abbrev D:=PyData
def kD:Key->D
 |.inl i=>.int i
 |.inr x=>.str x
mutual
inductive Rp(ok:Addr->Prop)(H:Hp):V->D->Prop
 |non:Rp ok H .non .none
 |bl (b:Bool):Rp ok H (.bl b) (.bool b)
 |int (i:Int):Rp ok H (.int i) (.int i)
 |str (x:Str):Rp ok H (.str x) (.str x)
 |lst {a:Addr}{vs:List V}{ds:List D} (o:ok a) (h:H a=some (.lst vs)) (r:Rps ok H vs ds):Rp ok H (.ref a) (.list ds)
 |tup {a:Addr}{vs:List V}{ds:List D} (h:H a=some (.tup vs)) (r:Rps ok H vs ds):Rp ok H (.ref a) (.tuple ds)
 |dct {a:Addr}{kvs:List (Key×V)}{ds:List (D×D)} (o:ok a) (h:H a=some (.dK kvs)) (r:Rkv ok H kvs ds):Rp ok H (.ref a) (.dict ds)
inductive Rps(ok:Addr->Prop)(H:Hp):List V->List D->Prop
 |nil:Rps ok H [] []
 |cons {v:V}{d:D}{vs:List V}{ds:List D} (h:Rp ok H v d) (t:Rps ok H vs ds):Rps ok H (v::vs) (d::ds)
inductive Rkv(ok:Addr->Prop)(H:Hp):List (Key×V)->List (D×D)->Prop
 |nil:Rkv ok H [] []
 |cons {k:Key}{v:V}{d:D}{vs:List (Key×V)}{ds:List (D×D)} (h:Rp ok H v d) (t:Rkv ok H vs ds):Rkv ok H ((k,v)::vs) ((kD k,d)::ds)
end
section
variable {ok ok':Addr->Prop}{H H':Hp}
mutual
def Rp.mono(f:∀a,ok a->ok' a)(g:∀a o,ok a->H a=some o->H' a=some o)(t:∀a xs,H a=some (.tup xs)->H' a=some (.tup xs)):∀{v:V}{d:D},Rp ok H v d->Rp ok' H' v d
 |_,_,.non=>.non
 |_,_,.bl b=>.bl b
 |_,_,.int i=>.int i
 |_,_,.str x=>.str x
 |_,_,.lst o h r=>.lst (f _ o) (g _ _ o h) (Rps.mono f g t r)
 |_,_,.tup h r=>.tup (t _ _ h) (Rps.mono f g t r)
 |_,_,.dct o h r=>.dct (f _ o) (g _ _ o h) (Rkv.mono f g t r)
def Rps.mono(f:∀a,ok a->ok' a)(g:∀a o,ok a->H a=some o->H' a=some o)(t:∀a xs,H a=some (.tup xs)->H' a=some (.tup xs)):∀{v:List V}{d:List D},Rps ok H v d->Rps ok' H' v d
 |_,_,.nil=>.nil
 |_,_,.cons h r=>.cons (Rp.mono f g t h) (Rps.mono f g t r)
def Rkv.mono(f:∀a,ok a->ok' a)(g:∀a o,ok a->H a=some o->H' a=some o)(t:∀a xs,H a=some (.tup xs)->H' a=some (.tup xs)):∀{v:List (Key×V)}{d:List (D×D)},Rkv ok H v d->Rkv ok' H' v d
 |_,_,.nil=>.nil
 |_,_,.cons h r=>.cons (Rp.mono f g t h) (Rkv.mono f g t r)
end
def Rps.length:∀{vs:List V}{ds:List D},Rps ok H vs ds->vs.length=ds.length
 |_,_,.nil=>rfl
 |_,_,.cons _ t=>by rw[ç,ç,Rps.length t]
def Rps.get:∀{vs:List V}{ds:List D}{i:Nat}{v:V},Rps ok H vs ds->vs[i]?=some v->∃d,ds[i]?=some d/\Rp ok H v d
 |_,_,i,v,.nil,e=>by simp at e
 |_,_,0,v,.cons h t,e=>by simp at e;subst e;exact⟨_,rfl,h⟩
 |_,_,i+1,v,.cons h t,e=>by
  obtain⟨d,a,b⟩:=Rps.get (i:=i) (v:=v) t (by simpa using e)
  exact⟨d,by simpa using a,b⟩
def Rps.getD:∀{vs:List V}{ds:List D}{i:Nat}{d:D},Rps ok H vs ds->ds[i]?=some d->∃v,vs[i]?=some v/\Rp ok H v d
 |_,_,i,v,.nil,e=>by simp at e
 |_,_,0,v,.cons h t,e=>by simp at e;subst e;exact⟨_,rfl,h⟩
 |_,_,i+1,v,.cons h t,e=>by
  obtain⟨d,a,b⟩:=Rps.getD (i:=i) (d:=v) t (by simpa using e)
  exact⟨d,by simpa using a,b⟩
def Rps.app:∀{vs ws:List V}{ds es:List D},Rps ok H vs ds->Rps ok H ws es->Rps ok H (vs++ws) (ds++es)
 |_,_,_,_,.nil,s=>s
 |_,_,_,_,.cons h t,s=>.cons h (Rps.app t s)
def Rps.snoc{vs:List V}{ds:List D}{v:V}{d:D}(h:Rps ok H vs ds)(r:Rp ok H v d):Rps ok H (vs++[v]) (ds++[d]):=h.app (.cons r .nil)
def Rps.take:∀{vs:List V}{ds:List D} (n:Nat),Rps ok H vs ds->Rps ok H (vs.take n) (ds.take n)
 |_,_,0,_=>by simp;exact .nil
 |_,_,_+1,.nil=>by simp;exact .nil
 |_,_,n+1,.cons r t=>.cons r (Rps.take n t)
def Rps.drop:∀{vs:List V}{ds:List D} (n:Nat),Rps ok H vs ds->Rps ok H (vs.drop n) (ds.drop n)
 |_,_,0,r=>r
 |_,_,_+1,.nil=>by simp;exact .nil
 |_,_,n+1,.cons _ t=>Rps.drop n t
def Rps.ofMap{α:Type}{f:α->V}{g:α->D}(h:∀x,Rp ok H (f x) (g x)):∀l:List α,Rps ok H (l.map f) (l.map g)
 |[]=>.nil
 |x::l=>.cons (h x) (Rps.ofMap h l)
def Rp.int'{v:V}{i:Int}(r:Rp ok H v (.int i)):v=.int i:=by cases r;rfl
def Rp.bl'{v:V}{i:Bool}(r:Rp ok H v (.bool i)):v=.bl i:=by cases r;rfl
def Rp.str'{v:V}{i:Str}(r:Rp ok H v (.str i)):v=.str i:=by cases r;rfl
def Rp.cg{v:V}{ds:List D}(r:Rp ok H v (.list ds)):∃a vs,v=.ref a/\ok a/\H a=some (.lst vs)/\Rps ok H vs ds:=by
 cases r with
 |lst o h r=>exact⟨_,_,rfl,o,h,r⟩
def Rp.dY{v:V}{ds:List D}(r:Rp ok H v (.tuple ds)):∃a vs,v=.ref a/\H a=some (.tup vs)/\Rps ok H vs ds:=by
 cases r with
 |tup h r=>exact⟨_,_,rfl,h,r⟩
def Rps.ints:∀{vs:List V}{ns:List Int},Rps ok H vs (ns.map Â)->vs=ns.map V.int
 |[],[],_=>rfl
 |_,n::ns,.cons h t=>by
  have e:=h.int'
  subst e
  rw[Rps.ints t]
  rfl
def Rps.two{vs:List V}{d e:D}(r:Rps ok H vs [d,e]):∃v w,vs=[v,w]/\Rp ok H v d/\Rp ok H w e:=by
 cases r with
 |cons h t =>
  cases t with
  |cons h2 t2 =>
   cases t2
   exact⟨_,_,rfl,h,h2⟩
end
mutual
def eZ:D->Bool
 |.none=>true
 |.bool _=>true
 |.int _=>true
 |.str _=>true
 |.list _=>false
 |.tuple ds=>cC ds
 |.dict _=>false
def cC:List D->Bool
 |[]=>true
 |d::ds=>eZ d&&cC ds
end
section
variable {ok:Addr->Prop}{H:Hp}
mutual
def Rp.imm:∀{v:V}{d:D},Rp ok H v d->eZ d=true->Rp (λ_=>False) H v d
 |_,_,.non,_=>.non
 |_,_,.bl b,_=>.bl b
 |_,_,.int i,_=>.int i
 |_,_,.str x,_=>.str x
 |_,_,.tup h r,e=>.tup h (Rps.imm r e)
def Rps.imm:∀{v:List V}{d:List D},Rps ok H v d->cC d=true->Rps (λ_=>False) H v d
 |_,_,.nil,_=>.nil
 |_,_,.cons h r,e=>.cons (Rp.imm h (by simp only[cC,â] at e;exact e.1)) (Rps.imm r (by simp only[cC,â] at e;exact e.2))
end
end
def Fxd(o:HO):Prop:=∃x φ,o=.frz x (.ext φ)
structure Pn where
 fp:Addr->Prop
 PI:Hp->Prop
 pv:V
 mono:∀H H',PI H->(∀b o,(fp b\/Fxd o)->H b=some o->H' b=some o)->PI H'
 is:∀H b,PI H->fp b->∃o,H b=some o/\(∀xs,o≠.tup xs)/\¬Fxd o
class Gr where
 G:Pn->Hp->Prop
instance (priority:=low) grT:Gr:=⟨λ_ _=>True⟩
def fM:Pn:=⟨λ_=>False,λ_=>True,.non,λ_ _ _ _=>trivial,λ_ _ _ h=>h.elim⟩
def Kp(p:Pn)(H H':Hp):Prop:=∀b o,H b=some o->¬p.fp b->H' b=some o
def Kp.refl{p:Pn}{H:Hp}:Kp p H H:=λ_ _ h _=>h
def Kp.trans{p:Pn}{H H1 H2:Hp}(a:Kp p H H1)(b:Kp p H1 H2):Kp p H H2:=λc o h n=>b c o (a c o h n) n
def Kp.of{p:Pn}{H H':Hp}(s:Same H H'):Kp p H H':=λb o h _=>s b o h
inductive Sl where
 |any
 |im (d:D)
 |sh (d:D)
 |sn (d:D)
 |dw (r:Nat) (d:D)
 |pen (C:Pn->Prop)
 |rw (r:Nat) (L:List (List D))
 |tw (r:Nat) (L:List (List D))
 |scr (v:V) (b:Bool)
 |sp (r:Nat) (b:Bool) (ds:List D)
inductive Kd where
 |imm|new|reg (r:Nat)|n0|snw|shr|wk
 deriving DecidableEq
def Kd.le:Kd->Kd->Bool
 |.imm,_=>true
 |.new,.new=>true
 |.new,.n0=>true
 |.new,.snw=>true
 |.new,.shr=>true
 |.new,.wk=>true
 |.reg r,.reg q=>r == q
 |.reg _,.n0=>true
 |.reg _,.wk=>true
 |.snw,.snw=>true
 |.snw,.n0=>true
 |.snw,.shr=>true
 |.snw,.wk=>true
 |.n0,.n0=>true
 |.n0,.wk=>true
 |.shr,.shr=>true
 |.shr,.wk=>true
 |.wk,.wk=>true
 |_,_=>false
def Kd.join(a b:Kd):Kd:=if a.le b then b else if b.le a then a else if a.le .n0&&b.le .n0 then .n0 else if a.le .shr&&b.le .shr then .shr else .wk
def norm(k:Kd)(d:D):Kd:=match k with
 |.imm=>.imm
 |k=>if eZ d then .imm else k
def cA{k:Kd}{d:D}(h:eZ d=true):norm k d=.imm:=by
 cases k <;> first
  |rfl
  |exact if_pos h
def dO{k:Kd}{d:D}(h:¬eZ d=true):norm k d=k:=by
 cases k <;> first
  |rfl
  |exact if_neg h
def okK(p:Pn)(H0:Hp)(own:Addr->Option Nat)(Hb:Hp):Kd->Addr->Prop
 |.imm=>λ_=>False
 |.new=>λa=>Hb a=none
 |.reg r=>λa=>own a=some r
 |.n0=>λa=>H0 a=none/\¬p.fp a
 |.snw=>λa=>H0 a=none/\¬p.fp a/\own a=none
 |.shr=>λa=>¬p.fp a/\own a=none
 |.wk=>λa=>¬p.fp a
structure At(p:Pn)(H0:Hp)(own:Addr->Option Nat)(Hb H:Hp):Prop where
 k0:∀b o,H0 b=some o->¬p.fp b->Hb b=some o
 kp:Kp p Hb H
 penb:p.PI Hb
 pen:p.PI H
 ow:∀a r,own a=some r->H0 a=none/\¬p.fp a/\Hb a≠none
section
variable {p:Pn}{H0 Hb H H':Hp}{own:Addr->Option Nat}
def At.nfp(A:At p H0 own Hb H){a:Addr}(h:H a=none):¬p.fp a:=λz=>by
 obtain⟨o,e,_⟩:=p.is H a A.pen z
 rw[h] at e
 cases e
def At.free(A:At p H0 own Hb H){a:Addr}(h:H a=none):Hb a=none:=by
 have hn:=A.nfp h
 cases e:Hb a with
 |none=>rfl
 |some o=>rw[A.kp a o e hn] at h;cases h
def At.nfb(A:At p H0 own Hb H){a:Addr}(h:Hb a=none):¬p.fp a:=λz=>by
 obtain⟨o,e,_⟩:=p.is Hb a A.penb z
 rw[h] at e
 cases e
def At.Jx(A:At p H0 own Hb H){a:Addr}(h:Hb a=none):own a=none:=by
 cases e:own a with
 |none=>rfl
 |some r=>exact absurd h (A.ow a r e).2.2
def At.h0(A:At p H0 own Hb H){a:Addr}(h:Hb a=none):H0 a=none:=by
 cases e:H0 a with
 |none=>rfl
 |some o=>rw[A.k0 a o e (A.nfb h)] at h;cases h
def dh(A:At p H0 own Hb H){j k:Kd}(h:j.le k=true){a:Addr}(o:okK p H0 own Hb j a):okK p H0 own Hb k a:=by
 cases j with
 |imm=>exact ø o
 |new =>
  cases k with
  |imm=>cases h
  |new=>exact o
  |reg r=>cases h
  |n0=>exact⟨A.h0 o,A.nfb o⟩
  |snw=>exact⟨A.h0 o,A.nfb o,A.Jx o⟩
  |shr=>exact⟨A.nfb o,A.Jx o⟩
  |wk=>exact A.nfb o
 |reg r =>
  cases k with
  |reg q =>
   have e:r=q:=by simpa[Kd.le] using h
   subst e
   exact o
  |n0=>exact⟨(A.ow a r o).1,(A.ow a r o).2.1⟩
  |wk=>exact(A.ow a r o).2.1
  |_=>cases h
 |n0 =>
  cases k with
  |n0=>exact o
  |wk=>exact o.2
  |_=>cases h
 |snw =>
  cases k with
  |snw=>exact o
  |n0=>exact⟨o.1,o.2.1⟩
  |shr=>exact o.2
  |wk=>exact o.2.1
  |_=>cases h
 |shr =>
  cases k with
  |shr=>exact o
  |wk=>exact o.1
  |_=>cases h
 |wk =>
  cases k with
  |wk=>exact o
  |_=>cases h
def jW(A:At p H0 own Hb H){k:Kd}{a:Addr}(o:okK p H0 own Hb k a):¬p.fp a:=by
 have:k.le .wk=true:=by cases k <;> rfl
 exact dh A this o
def gW(A:At p H0 own Hb H){j k:Kd}(h:j.le k=true){v:V}{d:D}{H2:Hp}(r:Rp (okK p H0 own Hb j) H2 v d):Rp (okK p H0 own Hb k) H2 v d :=
 r.mono (λa o=>dh A h o) (λ_ _ _ e=>e) λ_ _ e=>e
def dB(a b:Kd):a.le (a.join b)=true/\b.le (a.join b)=true:=by
 unfold Kd.join
 by_cases h:a.le b=true
 ·rw[if_pos h];exact⟨h,by cases b <;> simp[Kd.le]⟩
 ·rw[if_neg h]
  by_cases h2:b.le a=true
  ·rw[if_pos h2];exact⟨by cases a <;> simp[Kd.le],h2⟩
  ·rw[if_neg h2]
   by_cases h3:(a.le .n0&&b.le .n0)=true
   ·rw[if_pos h3];exact â _ _ ▸ h3
   ·rw[if_neg h3]
    by_cases h4:(a.le .shr&&b.le .shr)=true
    ·rw[if_pos h4];exact â _ _ ▸ h4
    ·rw[if_neg h4];exact⟨by cases a <;> rfl,by cases b <;> rfl⟩
def bB{k:Kd}{v:V}{d:D}{H2:Hp}(r:Rp (okK p H0 own Hb k) H2 v d):Rp (okK p H0 own Hb (norm k d)) H2 v d:=by
 by_cases h:eZ d=true
 ·rw[cA h];exact r.imm h
 ·rw[dO h];exact r
def jB(A:At p H0 own Hb H)(k:Kp p H H'):∀a xs,H a=some (.tup xs)->H' a=some (.tup xs):=λa xs h=>k a _ h λz=>by
 obtain⟨o,e,n⟩:=p.is H a A.pen z
 rw[h] at e
 exact n.1 xs (Ò e).symm
def mY(A:At p H0 own Hb H)(k:Kp p H H'){j:Kd}{v:V}{d:D}(r:Rp (okK p H0 own Hb j) H v d):Rp (okK p H0 own Hb j) H' v d :=
 r.mono (λ_ o=>o) (λa o h e=>k a o e (jW A h)) (jB A k)
def cY(A:At p H0 own Hb H)(k:Kp p H H'){j:Kd}{v:List V}{d:List D}(r:Rps (okK p H0 own Hb j) H v d):Rps (okK p H0 own Hb j) H' v d :=
 r.mono (λ_ o=>o) (λa o h e=>k a o e (jW A h)) (jB A k)
def At.go(A:At p H0 own Hb H)(k:Kp p H H')(i:p.PI H'):At p H0 own Hb H':=⟨A.k0,A.kp.trans k,A.penb,i,A.ow⟩
def At.base{H1:Hp}(A:At p H0 own Hb H)(B:At p H0 own H H1):At p H0 own Hb H1:=⟨A.k0,A.kp.trans B.kp,A.penb,B.pen,A.ow⟩
def Cz(A:At p H0 own Hb H){k:Kd}{a:Addr}(o:okK p H0 own H k a):okK p H0 own Hb k a:=by
 cases k <;> first
  |exact o
  |exact A.free o
def lZ(A:At p H0 own Hb H){k:Kd}{v:V}{d:D}{H2:Hp}(r:Rp (okK p H0 own H k) H2 v d):Rp (okK p H0 own Hb k) H2 v d :=
 r.mono (λa o=>Cz A o) (λ_ _ _ e=>e) λ_ _ e=>e
def At.new(A:At p H0 own Hb H){a:Addr}(h:H a=none)(o:HO):Kp p H (upd H a o)/\p.PI (upd H a o)/\okK p H0 own Hb .new a :=
 have s:Same H (upd H a o):=λb u q=>by rw[ao (au q h)];exact q
 ⟨Kp.of s,p.mono H _ A.pen λb u _ q=>s b u q,A.free h⟩
end
structure RowsH(own:Addr->Option Nat)(r:Nat)(H:Hp)(st:Addr)(as:List Addr)(L:List (List D)):Prop where
 top:H st=some (.lst (as.map V.ref))
 nd:(st::as).Nodup
 ow:∀a∈st::as,own a=some r
 len:as.length=L.length
 row:∀(j:Nat) (a:Addr) (ds:List D),as[j]?=some a->L[j]?=some ds->∃vs,H a=some (.lst vs)/\Rps (λ_=>False) H vs ds
def RowsH.mono{own own':Addr->Option Nat}{r:Nat}{H H':Hp}{st:Addr}{as:List Addr}{L:List (List D)}(h:RowsH own r H st as L)(g:∀a o,own a=some r->H a=some o->own' a=some r/\H' a=some o)(t:∀a xs,H a=some (.tup xs)->H' a=some (.tup xs)):RowsH own' r H' st as L:=by
 have live:∀a∈st::as,∃o,H a=some o:=λa ha=>by
  rcases É.mp ha with rfl|ha
  ·exact⟨_,h.top⟩
  ·obtain⟨j,hj⟩:=List.getElem?_of_mem ha
   have hl:=(Ù.mp hj).1
   obtain⟨vs,e,_⟩:=h.row j a _ hj (Õ (by rw[←h.len];exact hl))
   exact⟨_,e⟩
 refine⟨(g st _ (h.ow st Ì) h.top).2,h.nd,λa ha=>?_,h.len,λj a ds e1 e2=>?_⟩
 ·obtain⟨o,e⟩:=live a ha
  exact(g a o (h.ow a ha) e).1
 ·obtain⟨vs,e,r'⟩:=h.row j a ds e1 e2
  exact⟨vs,(g a _ (h.ow a (Ï _ (Ñ e1))) e).2,r'.mono (λ_ o=>o) (λ_ _ o=>o.elim) t⟩
def kI{ok:Addr->Prop}{H:Hp}:∀(as:List Addr) (L:List (List D)),as.length=L.length->(∀a∈as,ok a)->(∀(j:Nat) (a:Addr) (ds:List D),as[j]?=some a->L[j]?=some ds->∃vs,H a=some (.lst vs)/\Rps (λ_=>False) H vs ds)->Rps ok H (as.map V.ref) (L.map å)
 |[],[],_,_,_=>.nil
 |a::as,d::L,hl,h,r=>by
  obtain⟨vs,e,rs⟩:=r 0 a d rfl rfl
  exact .cons (.lst (h a Ì) e (rs.mono (λ_ o=>o.elim) (λ_ _ o=>o.elim) λ_ _ e=>e)) (kI as L (by simpa using hl) (λb hb=>h b (Ï _ hb)) λj b ds e1 e2=>r (j+1) b ds e1 e2)
 |[],_::_,hl,_,_=>by cases hl
 |_::_,[],hl,_,_=>by cases hl
def RowsH.rp{own:Addr->Option Nat}{r:Nat}{H:Hp}{st:Addr}{as:List Addr}{L:List (List D)}(h:RowsH own r H st as L):Rp (λa=>own a=some r) H (.ref st) (.list (L.map å)) :=
 .lst (h.ow st Ì) h.top (kI as L h.len (λa ha=>h.ow a (Ï _ ha)) h.row)
structure RowsT(own:Addr->Option Nat)(r:Nat)(H:Hp)(st:Addr)(as:List Addr)(L:List (List D)):Prop where
 top:H st=some (.tup (as.map V.ref))
 nd:as.Nodup
 ow:∀a∈as,own a=some r
 len:as.length=L.length
 row:∀(j:Nat) (a:Addr) (ds:List D),as[j]?=some a->L[j]?=some ds->∃vs,H a=some (.lst vs)/\Rps (λ_=>False) H vs ds
def RowsT.mono{own own':Addr->Option Nat}{r:Nat}{H H':Hp}{st:Addr}{as:List Addr}{L:List (List D)}(h:RowsT own r H st as L)(g:∀a o,own a=some r->H a=some o->own' a=some r/\H' a=some o)(t:∀a xs,H a=some (.tup xs)->H' a=some (.tup xs)):RowsT own' r H' st as L:=by
 refine⟨t st _ h.top,h.nd,λa ha=>?_,h.len,λj a ds e1 e2=>?_⟩
 ·obtain⟨j,hj⟩:=List.getElem?_of_mem ha
  have hl:=(Ù.mp hj).1
  obtain⟨vs,e,_⟩:=h.row j a _ hj (Õ (by rw[←h.len];exact hl))
  exact(g a _ (h.ow a ha) e).1
 ·obtain⟨vs,e,r'⟩:=h.row j a ds e1 e2
  exact⟨vs,(g a _ (h.ow a (Ñ e1)) e).2,r'.mono (λ_ o=>o) (λ_ _ o=>o.elim) t⟩
def RowsT.rp{own:Addr->Option Nat}{r:Nat}{H:Hp}{st:Addr}{as:List Addr}{L:List (List D)}(h:RowsT own r H st as L):Rp (λa=>own a=some r) H (.ref st) (.tuple (L.map å)) :=
 .tup h.top (kI as L h.len h.ow h.row)
def okS(p:Pn)(H0:Hp)(own:Addr->Option Nat)(b:Bool)(a:Addr):Prop:=(b=true->H0 a=none)/\¬p.fp a/\own a=none
def gU(p:Pn)(H0:Hp)(own:Addr->Option Nat)(σ:L2.St)(H:Hp)(i:Nat):Sl->Prop
 |.any=>True
 |.im d=>∃v,σ[i]?=some (some v)/\Rp (λ_=>False) H v d
 |.sh d=>∃v,σ[i]?=some (some v)/\Rp (λa=>¬p.fp a/\own a=none) H v d
 |.sn d=>∃v,σ[i]?=some (some v)/\Rp (λa=>H0 a=none/\¬p.fp a/\own a=none) H v d
 |.dw r d=>∃v,σ[i]?=some (some v)/\Rp (λa=>own a=some r) H v d
 |.pen C=>σ[i]?=some (some p.pv)/\C p
 |.rw r L=>∃st as,σ[i]?=some (some (.ref st))/\RowsH own r H st as L
 |.tw r L=>∃st as,σ[i]?=some (some (.ref st))/\RowsT own r H st as L
 |.scr v b=>σ[i]?=some (some v)/\(b=true->p=fM)
 |.sp r b ds=>∃l vs,σ[i]?=some (some (.ref l))/\own l=some r/\H l=some (.lst vs)/\Rps (okS p H0 own b) H vs ds
structure EnvD[Gr](p:Pn)(H0:Hp)(own:Addr->Option Nat)(σ:L2.St)(H:Hp)(ρ:List Sl):Prop where
 k0:∀b o,H0 b=some o->¬p.fp b->H b=some o
 pen:p.PI H
 ow:∀a r,own a=some r->H0 a=none/\¬p.fp a/\H a≠none
 slot:∀i s,ρ[i]?=some s->gU p H0 own σ H i s
 len:ρ.length=σ.length
 gr:Gr.G p H0
variable [Gr]
section
variable {p:Pn}{H0 H H':Hp}{own:Addr->Option Nat}{σ:L2.St}{ρ:List Sl}
def EnvD.at(E:EnvD p H0 own σ H ρ):At p H0 own H H:=⟨E.k0,Kp.refl,E.pen,E.pen,E.ow⟩
def EnvD.go(E:EnvD p H0 own σ H ρ)(k:Kp p H H')(i:p.PI H'):EnvD p H0 own σ H' ρ:=by
 have A:=E.at
 have tp:=jB A k
 refine⟨λb o e n=>k b o (E.k0 b o e n) n,i,λa r e=>?_,λj s e=>?_,E.len,E.gr⟩
 ·obtain⟨h1,h2,h3⟩:=E.ow a r e
  refine⟨h1,h2,λz=>?_⟩
  cases q:H a with
  |none=>exact h3 q
  |some o=>rw[k a o q h2] at z;cases z
 ·have q:=E.slot j s e
  cases s with
  |any=>trivial
  |im d=>exact let ⟨v,a,b⟩:=q;⟨v,a,b.mono (λ_ o=>o) (λ_ _ o=>o.elim) tp⟩
  |sh d=>exact let ⟨v,a,b⟩:=q;⟨v,a,b.mono (λ_ o=>o) (λc u o e=>k c u e o.1) tp⟩
  |sn d=>exact let ⟨v,a,b⟩:=q;⟨v,a,b.mono (λ_ o=>o) (λc u o e=>k c u e o.2.1) tp⟩
  |dw r d=>exact let ⟨v,a,b⟩:=q;⟨v,a,b.mono (λ_ o=>o) (λc u o e=>k c u e (E.ow c r o).2.1) tp⟩
  |pen C=>exact q
  |rw r L=>exact let ⟨st,as,a,b⟩:=q;⟨st,as,a,b.mono (λc u o e=>⟨o,k c u e (E.ow c r o).2.1⟩) tp⟩
  |tw r L=>exact let ⟨st,as,a,b⟩:=q;⟨st,as,a,b.mono (λc u o e=>⟨o,k c u e (E.ow c r o).2.1⟩) tp⟩
  |scr v b=>exact q
  |sp r b ds=>exact let ⟨l,vs,a,o,h,z⟩:=q;⟨l,vs,a,o,k l _ h (E.ow l r o).2.1,z.mono (λ_ o=>o) (λc u o e=>k c u e o.2.1) tp⟩
end
abbrev DK:=Kd->D->Prop
abbrev DE:=List Sl->DK->Prop
def cV(t:DE):TE:=λσ H Q=>∃p H0 own ρ P,EnvD p H0 own σ H ρ/\t ρ P/\∀k d v H',P k d->At p H0 own H H'->Rp (okK p H0 own H k) H' v d->Q v H'
abbrev PD(X:Cx)(e:Expr)(t:DE):Prop:=PE X e (cV t)
abbrev DA:=List Sl->(List (Kd×D)->Prop)->Prop
inductive RpK(p:Pn)(H0:Hp)(own:Addr->Option Nat)(Hb H:Hp):List V->List (Kd×D)->Prop
 |nil:RpK p H0 own Hb H [] []
 |cons {v:V}{kd:Kd×D}{vs:List V}{ks:List (Kd×D)} (h:Rp (okK p H0 own Hb kd.1) H v kd.2) (t:RpK p H0 own Hb H vs ks):RpK p H0 own Hb H (v::vs) (kd::ks)
def ju(t:DA):TA:=λσ H Q=>∃p H0 own ρ P,EnvD p H0 own σ H ρ/\t ρ P/\∀ks vs H',P ks->At p H0 own H H'->RpK p H0 own H H' vs ks->Q vs H'
abbrev PDA(X:Cx)(es:List Expr)(t:DA):Prop:=PA X es (ju t)
abbrev DT:=List Sl->(Bool->Prop)->Prop
def liftT(t:DT):TT:=λσ H Q=>∃p H0 own ρ P,EnvD p H0 own σ H ρ/\t ρ P/\∀b H',P b->At p H0 own H H'->Q b H'
abbrev PDT(X:Cx)(e:Expr)(t:DT):Prop:=PT X e (liftT t)
def PE.wk{X:Cx}{e:Expr}{t t':TE}(h:PE X e t)(w:∀σ H Q,t' σ H Q->t σ H Q):PE X e t':=λpins s σ H Q I q=>h pins s σ H Q I (w σ H Q q)
def PT.wk{X:Cx}{e:Expr}{t t':TT}(h:PT X e t)(w:∀σ H Q,t' σ H Q->t σ H Q):PT X e t':=λpins s σ H Q I q=>h pins s σ H Q I (w σ H Q q)
def PA.wk{X:Cx}{e:List Expr}{t t':TA}(h:PA X e t)(w:∀σ H Q,t' σ H Q->t σ H Q):PA X e t':=λpos pins s σ H Q I q=>h pos pins s σ H Q I (w σ H Q q)
section
variable {X:Cx}{pos:Pos}{a b:Expr}{ta tb:DE}
def RpK.go{p:Pn}{H0 Hb H H':Hp}{own:Addr->Option Nat}(A:At p H0 own Hb H)(k:Kp p H H'):∀{vs:List V}{ks:List (Kd×D)},RpK p H0 own Hb H vs ks->RpK p H0 own Hb H' vs ks
 |_,_,.nil=>.nil
 |_,_,.cons h t=>.cons (mY A k h) (RpK.go A k t)
def RpK.base{p:Pn}{H0 Hb H H':Hp}{own:Addr->Option Nat}(A:At p H0 own Hb H):∀{vs:List V}{ks:List (Kd×D)},RpK p H0 own H H' vs ks->RpK p H0 own Hb H' vs ks
 |_,_,.nil=>.nil
 |_,_,.cons h t=>.cons (lZ A h) (RpK.base A t)
def tV(i:Nat):DE:=λρ P=>match ρ[i]? with
 |some (.im d)=>P .imm d
 |some (.sh d)=>P .shr d
 |some (.sn d)=>P .snw d
 |some (.dw r d)=>P (.reg r) d
 |some (.rw r L)=>P (.reg r) (.list (L.map å))
 |some (.tw r L)=>P (.reg r) (.tuple (L.map å))
 |some (.sp r b ds)=>P (if b=true then .n0 else .wk) (.list ds)
 |_=>False
def Jt{i:Nat}{x:Str}{ps:Pos}(h:PE X (.Name x ps) (mQ i)):PD X (.Name x ps) (tV i):=PE.wk h (by
 rintro σ H Q ⟨p,H0,own,ρ,P,E,t,q⟩
 unfold tV at t
 split at t
 ·rename_i d e;obtain⟨v,e1,r⟩:=E.slot i _ e;exact⟨v,e1,q _ _ _ _ t E.at r⟩
 ·rename_i d e;obtain⟨v,e1,r⟩:=E.slot i _ e;exact⟨v,e1,q _ _ _ _ t E.at r⟩
 ·rename_i d e;obtain⟨v,e1,r⟩:=E.slot i _ e;exact⟨v,e1,q _ _ _ _ t E.at r⟩
 ·rename_i d e;obtain⟨v,e1,r⟩:=E.slot i _ e;exact⟨v,e1,q _ _ _ _ t E.at r⟩
 ·rename_i r L e;obtain⟨st,as,e1,h⟩:=E.slot i _ e;exact⟨_,e1,q _ _ _ _ t E.at h.rp⟩
 ·rename_i r L e;obtain⟨st,as,e1,h⟩:=E.slot i _ e;exact⟨_,e1,q _ _ _ _ t E.at h.rp⟩
 ·rename_i r b ds e
  obtain⟨l,vs,e1,o,h,z⟩:=E.slot i _ e
  refine⟨_,e1,q _ _ _ _ t E.at ?_⟩
  cases b with
  |true=>exact .lst ⟨(E.ow l r o).1,(E.ow l r o).2.1⟩ h (z.mono (λc n=>⟨n.1 rfl,n.2.1⟩) (λ_ _ _ e=>e) λ_ _ e=>e)
  |false=>exact .lst (E.ow l r o).2.1 h (z.mono (λc n=>n.2.1) (λ_ _ _ e=>e) λ_ _ e=>e)
 ·exact t.elim)
def tK(d:D):DE:=λ_ P=>P .imm d
def jR{e:Expr}{v:V}{d:D}(h:PE X e (tC v))(r:∀H,Rp (λ_=>False) H v d):PD X e (tK d):=PE.wk h (by
 rintro σ H Q ⟨p,H0,own,ρ,P,E,t,q⟩
 exact q _ _ _ _ t E.at (r H))
def aq{i:Int}{j:Nat}:PD X (.Constant (.int i) j pos) (tK (.int i)):=jR aZ λ_=>.int i
def jr{i:Bool}{j:Nat}:PD X (.Constant (.bool i) j pos) (tK (.bool i)):=jR HN λ_=>.bl i
def kW{j:Nat}:PD X (.Constant .none j pos) (tK .none):=jR BP λ_=>.non
def nu{x:Str}{j:Nat}:PD X (.Constant (.str x) j pos) (tK (.str x)):=jR cR λ_=>.str x
abbrev G2:=Kd->D->Kd->D->DK->Prop
def t2(g:G2)(ta tb:DE):DE:=λρ P=>ta ρ λk1 d1=>tb ρ λk2 d2=>g k1 d1 k2 d2 P
def Ok2(g:G2)(r:R2):Prop:=∀p H0 own Hb H x y k1 d1 k2 d2 P Q,At p H0 own Hb H->Rp (okK p H0 own Hb k1) H x d1->Rp (okK p H0 own Hb k2) H y d2->g k1 d1 k2 d2 P ->
 (∀k d v H',P k d->Kp p H H'->p.PI H'->Rp (okK p H0 own Hb k) H' v d->Q v H')->r x y H Q
def xg{g:G2}{r:R2}(ok:Ok2 g r):∀σ H Q,cV (t2 g ta tb) σ H Q->tOp r (cV ta) (cV tb) σ H Q:=by
 rintro σ H Q ⟨p,H0,own,ρ,P,E,t,q⟩
 refine⟨p,H0,own,ρ,_,E,t,λk1 d1 v1 H1 t1 A1 r1=>?_⟩
 have E1:=E.go A1.kp A1.pen
 refine⟨p,H0,own,ρ,_,E1,t1,λk2 d2 v2 H2 t2 A2 r2=>?_⟩
 have A:At p H0 own H H2:=A1.base A2
 exact ok p H0 own H H2 v1 v2 k1 d1 k2 d2 P Q A (mY A1 A2.kp r1) (lZ A1 r2) t2 λk d v H' h k3 i3 r3=>q k d v H' h (A.go k3 i3) r3
def pN{op:Operator}{r:R2}{g:G2}(ho:OpR X (binaryOp op) r)(ok:Ok2 g r)(ha:PD X a ta)(hb:PD X b tb):PD X (.BinOp a op b pos) (t2 g ta tb):=PE.wk (cu ho ha hb) (xg ok)
def qY{op:CmpOp}{r:R2}{g:G2}(ho:OpR X (compareOp op) r)(ok:Ok2 g r)(ha:PD X a ta)(hb:PD X b tb)(hm:behindInMarks op b=false):PD X (.Compare a [op] [b] pos) (t2 g ta tb):=PE.wk (Gj ho ha hb hm) (xg ok)
def jJ(t:DE):DT:=λρ P=>t ρ λ_ d=>match d with
 |.bool b=>P b
 |_=>False
def ud{t:DE}:∀σ H Q,liftT (jJ t) σ H Q->(cV t) σ H (λx H'=>∃k,x=.bl k/\Q k H'):=by
 rintro σ H Q ⟨p,H0,own,ρ,P,E,t,q⟩
 refine⟨p,H0,own,ρ,_,E,t,λk d v H' h A r=>?_⟩
 cases d with
 |bool b=>exact⟨b,r.bl',q b H' h A⟩
 |_=>exact h.elim
def mD{op:CmpOp}{r:R2}{g:G2}(ho:OpR X (compareOp op) r)(ok:Ok2 g r)(ha:PD X a ta)(hb:PD X b tb)(hm:behindInMarks op b=false):PDT X (.Compare a [op] [b] pos) (jJ (t2 g ta tb)) :=
 PT.wk (jO ho ha hb hm) λσ H Q h=>xg ok σ H _ (ud σ H Q h)
def cN{e:Expr}{t:DE}(h:PD X e t)(he:∀whole,isTrue e X.env whole=(do let v ←whole;standAt e.pos;holding [v] (truthy v)):=by intro _;rfl):PDT X e (jJ t) :=
 PT.wk (Bt h he) λσ H Q q=>ud σ H Q q
def K6(t:DT):DT:=λρ P=>t ρ λb=>P (!b)
def fJ{t:DT}(ha:PDT X a t):PDT X (.UnaryOp .Not a pos) (K6 t):=PT.wk (Jk ha) (by
 rintro σ H Q ⟨p,H0,own,ρ,P,E,t,q⟩
 exact⟨p,H0,own,ρ,_,E,t,λb H' h A=>q _ H' h A⟩)
abbrev PDW(X:Cx)(e:Expr)(t:DT):Prop:=PW X e (liftT t)
def PW.wk{X:Cx}{e:Expr}{t t':TT}(h:PW X e t)(w:∀σ H Q,t' σ H Q->t σ H Q):PW X e t':=λwh pins s σ H Q I q=>h wh pins s σ H Q I (w σ H Q q)
def dOr(t u:DT):DT:=λρ P=>t ρ λb=>if b=true then P true else u ρ P
section
variable {rest:List Expr}{t u:DT}
def jg(ha:PDT X a t):PDW X (.BoolOp .Or [a] pos) t:=Ji ha
def GR:∀σ H Q,liftT (dOr t u) σ H Q->tOr (liftT t) (liftT u) σ H Q:=by
 rintro σ H Q ⟨p,H0,own,ρ,P,E,t,q⟩
 refine⟨p,H0,own,ρ,_,E,t,λb H' h A=>?_⟩
 cases b with
 |true=>exact bw (q true H' (by simpa using h) A)
 |false=>exact cI ⟨p,H0,own,ρ,P,E.go A.kp A.pen,by simpa using h,λc H2 h2 A2=>q c H2 h2 (A.base A2)⟩
def kO(ha:PDT X a t)(hb:PDW X (.BoolOp .Or (b::rest) pos) u):PDW X (.BoolOp .Or (a::b::rest) pos) (dOr t u):=PW.wk (Mx ha hb) GR
def PDW.pt{e:Expr}{t:DT}(h:PDW X e t):PDT X e t:=PW.pt h
end
end
variable [Gr]
section
variable {X:Cx}{pos:Pos}{a b e:Expr}{es:List Expr}{ta tb te:DE}{t:DA}
def jF:DA:=λ_ P=>P []
def dH(te:DE)(t:DA):DA:=λρ P=>te ρ λk d=>t ρ λks=>P ((k,d)::ks)
def ak:PDA X [] jF:=PA.wk bA (by
 rintro σ H Q ⟨p,H0,own,ρ,P,E,t,q⟩
 exact q [] [] H t E.at .nil)
def aj(ha:PD X e te)(hr:PDA X es t)(hs:zS X e es:=by rfl):PDA X (e::es) (dH te t):=PA.wk (aF ha hr hs) (by
 rintro σ H Q ⟨p,H0,own,ρ,P,E,t,q⟩
 refine⟨p,H0,own,ρ,_,E,t,λk d v H1 h A r=>?_⟩
 refine⟨p,H0,own,ρ,_,E.go A.kp A.pen,h,λks vs H2 h2 A2 r2=>?_⟩
 exact q _ _ H2 h2 (A.base A2) (.cons (mY A A2.kp r) (RpK.base A r2)))
def joins:List (Kd×D)->Kd
 |[]=>.imm
 |kd::ks=>kd.1.join (joins ks)
def RpK.all{p:Pn}{H0 Hb H H2:Hp}{own:Addr->Option Nat}(A:At p H0 own Hb H):∀{vs:List V}{ks:List (Kd×D)}{k:Kd},(joins ks).le k=true->RpK p H0 own Hb H2 vs ks->Rps (okK p H0 own Hb (joins ks)) H2 vs (ks.map (·.2))
 |_,_,_,_,.nil=>.nil
 |_,kd::ks,k,e,.cons h t=>by
  have j:=dB kd.1 (joins ks)
  exact .cons (gW A j.1 h) ((RpK.all A (k:=joins ks) (by cases joins ks <;> simp[Kd.le]) t).mono (λa o=>dh A j.2 o) (λ_ _ _ e=>e) λ_ _ e=>e)
def Kd.le_refl(k:Kd):k.le k=true:=by cases k <;> simp[Kd.le]
def RpK.length{p:Pn}{H0 Hb H2:Hp}{own:Addr->Option Nat}:∀{vs:List V}{ks:List (Kd×D)},RpK p H0 own Hb H2 vs ks->vs.length=ks.length
 |_,_,.nil=>rfl
 |_,_,.cons _ t=>by rw[ç,ç,RpK.length t]
def Hw(t:DA):DE:=λρ P=>t ρ λks=>ks.length<=1000/\P ((joins ks).join .new) (.list (ks.map (·.2)))
def vd(t:DA):DE:=λρ P=>t ρ λks=>ks.length<=1000/\P (norm (joins ks) (.tuple (ks.map (·.2)))) (.tuple (ks.map (·.2)))
def aU(h:PDA X es t):PD X (.List es pos) (Hw t):=PE.wk (BR h) (by
 rintro σ H Q ⟨p,H0,own,ρ,P,E,t,q⟩
 refine⟨p,H0,own,ρ,_,E,t,λks vs H1 h A r=>?_⟩
 have h24:=ì
 have hl:=r.length
 refine⟨by have:=h.1;omega,λl hl=>?_⟩
 obtain⟨k2,i2,nw⟩:=A.new hl (.lst vs)
 have j:=dB (joins ks) .new
 refine q _ _ _ _ h.2 (A.go k2 i2) (.lst (dh A j.2 nw) aA ?_)
 exact(cY A k2 (RpK.all A (Kd.le_refl _) r)).mono (λa o=>dh A j.1 o) (λ_ _ _ e=>e) λ_ _ e=>e)
def bR{x1}(h:PDA X es t):PD X (.Tuple es x1 pos) (vd t):=PE.wk (vH h) (by
 rintro σ H Q ⟨p,H0,own,ρ,P,E,t,q⟩
 refine⟨p,H0,own,ρ,_,E,t,λks vs H1 h A r=>?_⟩
 have h24:=ì
 have hl:=r.length
 refine⟨by have:=h.1;omega,λl hl=>?_⟩
 obtain⟨k2,i2,nw⟩:=A.new hl (.tup vs)
 exact q _ _ _ _ h.2 (A.go k2 i2) (bB (.tup aA (cY A k2 (RpK.all A (Kd.le_refl _) r)))))
abbrev GC:=List (Kd×D)->DK->Prop
def tCl(g:GC)(t:DA):DE:=λρ P=>t ρ λks=>g ks P
def OkC(g:GC)(r:List V->Hp->VK->Prop):Prop:=∀p H0 own Hb H vs ks P Q,At p H0 own Hb H->RpK p H0 own Hb H vs ks->g ks P ->
 (∀k d v H',P k d->Kp p H H'->p.PI H'->Rp (okK p H0 own Hb k) H' v d->Q v H')->r vs H Q
def Ie{g:GC}{r:List V->Hp->VK->Prop}(ok:OkC g r):∀σ H Q,cV (tCl g t) σ H Q->tCB r (ju t) σ H Q:=by
 rintro σ H Q ⟨p,H0,own,ρ,P,E,t,q⟩
 refine⟨p,H0,own,ρ,_,E,t,λks vs H1 h A r=>?_⟩
 exact ok p H0 own H H1 vs ks P Q A r h λk d v H' h2 k2 i2 r2=>q k d v H' h2 (A.go k2 i2) r2
def dg{r:List V->Hp->VK->Prop}{id:String}{x:Str}{ps:Pos}{g:GC}(hc:aW X (.builtin id) r)(ok:OkC g r)(hg:Gl X x)(hm:X.mg x=none)(hv:bootBuiltins x=some (.builtin id))(ha:PDA X (e::es) t)(hn:x≠"__name__":=by decide)(hdb:zB x:=by decide)(he:zS X e es:=by rfl)(hpl:zP X pos es:=by rfl):PD X (.Call (.Name x ps) (e::es) [] pos) (tCl g t):=PE.wk (bQ hc hg hm hv ha hn hdb he hpl) (Ie ok)
def jT{r:List V->Hp->VK->Prop}{id:String}{x:Str}{ps:Pos}{g:GC}(hc:aW X (.type id) r)(ok:OkC g r)(hg:Gl X x)(hm:X.mg x=none)(hv:bootBuiltins x=some (.type id))(ha:PDA X (e::es) t)(hn:x≠"__name__":=by decide)(hdb:zB x:=by decide)(he:zS X e es:=by rfl)(hpl:zP X pos es:=by rfl):PD X (.Call (.Name x ps) (e::es) [] pos) (tCl g t):=PE.wk (jf hc hg hm hv ha hn hdb he hpl) (Ie ok)
def spD(t:List D->(D->Prop)->Prop):Sp:=λvs H Q _=>∃ds P,Rps (λ_=>True) H vs ds/\t ds P/\∀d v H',P d->Same H H'->Rp (λa=>H a=none) H' v d->Q v H'
def spP(C:Pn->Prop)(t:List D->(D->Prop)->Prop):Sp:=λvs H Q _=>∃p vs' ds P,C p/\vs=p.pv::vs'/\p.PI H/\Rps (λa=>¬p.fp a) H vs' ds/\t ds P/\∀d v H',P d->Kp p H H'->p.PI H'->Rp (λa=>H a=none) H' v d->Q v H'
def tFn(f:List D->(D->Prop)->Prop)(t:DA):DE:=λρ P=>t ρ λks=>f (ks.map (·.2)) λd=>P (norm .new d) d
def RpK.rps{p:Pn}{H0 Hb H H2:Hp}{own:Addr->Option Nat}(A:At p H0 own Hb H):∀{vs:List V}{ks:List (Kd×D)},RpK p H0 own Hb H2 vs ks->Rps (λa=>¬p.fp a) H2 vs (ks.map (·.2))
 |_,_,.nil=>.nil
 |_,_,.cons h t=>.cons (h.mono (λa o=>jW A o) (λ_ _ _ e=>e) λ_ _ e=>e) (RpK.rps A t)
def GX{f:List D->(D->Prop)->Prop}:∀σ H Q,cV (tFn f t) σ H Q->jK (spD f) [] E0 (ju t) σ H Q:=by
 rintro σ H Q ⟨p,H0,own,ρ,P,E,t,q⟩
 refine⟨p,H0,own,ρ,_,E,t,λks vs H1 h A r=>?_⟩
 show spD f (vs++[]) H1 Q E0
 rw[ą]
 refine⟨ks.map (·.2),_,(RpK.rps A r).mono (λ_ _=>trivial) (λ_ _ _ e=>e) λ_ _ e=>e,h,λd v H' h2 s r2=>?_⟩
 have k2:Kp p H1 H':=Kp.of s
 refine q _ d v H' h2 (A.go k2 (p.mono H1 H' A.pen λb o _ e=>s b o e)) (bB ?_)
 exact r2.mono (λa o=>A.free o) (λ_ _ _ e=>e) λ_ _ e=>e
def IW(C:Pn->Prop)(f:List D->(D->Prop)->Prop)(i:Nat)(t:DA):DE:=λρ P=>ρ[i]?=some (.pen C)/\tFn f t ρ P
def Dr{C:Pn->Prop}{f:List D->(D->Prop)->Prop}{i:Nat}:∀σ H Q,cV (IW C f i t) σ H Q->jK (spP C f) [] E0 (Ar (mQ i) (ju t)) σ H Q:=by
 rintro σ H Q ⟨p,H0,own,ρ,P,E,⟨hp,t⟩,q⟩
 obtain⟨hs,c⟩:=E.slot i _ hp
 refine⟨p.pv,hs,p,H0,own,ρ,_,E,t,λks vs H1 h A r=>?_⟩
 show spP C f ((p.pv::vs)++[]) H1 Q E0
 rw[ą]
 refine⟨p,vs,ks.map (·.2),_,c,rfl,A.pen,RpK.rps A r,h,λd v H' h2 k2 i2 r2=>?_⟩
 exact q _ d v H' h2 (A.go k2 i2) (bB (r2.mono (λa o=>A.free o) (λ_ _ _ e=>e) λ_ _ e=>e))
def gI(C:Int->Int->Prop)(f:Int->Int->D):G2:=λ_ d1 _ d2 P=>match d1,d2 with
 |.int i,.int j=>C i j/\P .imm (f i j)
 |_,_=>False
def gI0(f:Int->Int->D):G2:=λ_ d1 _ d2 P=>match d1,d2 with
 |.int i,.int j=>P .imm (f i j)
 |_,_=>False
def okI{C:Int->Int->Prop}{f:Int->Int->D}{g:Int->Int->V}(h:∀i j H,Rp (λ_=>False) H (g i j) (f i j)):Ok2 (gI C f) (rI C g):=by
 intro p H0 own Hb H x y k1 d1 k2 d2 P Q A r1 r2 t q
 unfold gI at t
 split at t
 ·rename_i i j
  exact⟨i,j,r1.int',r2.int',t.1,q _ _ _ _ t.2 Kp.refl A.pen (h i j H)⟩
 ·exact t.elim
def CG{f:Int->Int->D}{g:Int->Int->V}(h:∀i j H,Rp (λ_=>False) H (g i j) (f i j)):Ok2 (gI0 f) (rI0 g):=by
 intro p H0 own Hb H x y k1 d1 k2 d2 P Q A r1 r2 t q
 unfold gI0 at t
 split at t
 ·rename_i i j
  exact⟨i,j,r1.int',r2.int',q _ _ _ _ t Kp.refl A.pen (h i j H)⟩
 ·exact t.elim
def Jv(ha:PD X a ta)(hb:PD X b tb):PD X (.BinOp a .Add b pos) (t2 (gI0 λi j=>.int (i+j)) ta tb):=pN iJ (CG λi j _=>.int _) ha hb
def qM(ha:PD X a ta)(hb:PD X b tb):PD X (.BinOp a .Sub b pos) (t2 (gI0 λi j=>.int (i - j)) ta tb):=pN Jz (CG λi j _=>.int _) ha hb
def vJ(ha:PD X a ta)(hb:PD X b tb):PD X (.BinOp a .Mod b pos) (t2 (gI (λ_ j=>0<j) λi j=>.int (i % j)) ta tb):=pN iI (okI λi j _=>.int _) ha hb
def qP(ha:PD X a ta)(hb:PD X b tb):PD X (.BinOp a .Pow b pos) (t2 (gI Le λi j=>.int (i ^ j.toNat)) ta tb):=pN Ci (okI λi j _=>.int _) ha hb
def Ce(ha:PD X a ta)(hb:PD X b tb):PD X (.Compare a [.Lt] [b] pos) (t2 (gI0 λi j=>.bool (decide (i<j))) ta tb):=qY Cj (CG λi j _=>.bl _) ha hb (dR _)
def Cg(ha:PD X a ta)(hb:PD X b tb):PD X (.Compare a [.Gt] [b] pos) (t2 (gI0 λi j=>.bool (decide (j<i))) ta tb):=qY Cp (CG λi j _=>.bl _) ha hb (dR _)
def vI(ha:PD X a ta)(hb:PD X b tb):PDT X (.Compare a [.Gt] [b] pos) (jJ (t2 (gI0 λi j=>.bool (decide (j<i))) ta tb)):=mD Cp (CG λi j _=>.bl _) ha hb (dR _)
def scD:D->D->Option Bool
 |.int i,.int j=>some (decide (i=j))
 |.bool i,.bool j=>some (decide (i=j))
 |.str i,.str j=>some (decide (i=j))
 |_,_=>none
def gEq(neg:Bool):G2:=λ_ d1 _ d2 P=>match scD d1 d2 with
 |some b=>P .imm (.bool (if neg then !b else b))
 |none=>False
def O6:Ok2 (gEq false) rEq:=by
 intro p H0 own Hb H x y k1 d1 k2 d2 P Q A r1 r2 t q
 unfold gEq scD at t
 split at t
 ·rename_i b e
  split at e <;> first|cases e|skip
  ·rw[r1.int',r2.int']
   refine⟨rfl,?_⟩
   have e2:∀i j:Int,decide (V.int i=V.int j)=decide (i=j):=λi j=>by simp
   rw[e2];exact q _ _ _ _ t Kp.refl A.pen (.bl _)
  ·rw[r1.bl',r2.bl']
   refine⟨rfl,?_⟩
   have e2:∀i j:Bool,decide (V.bl i=V.bl j)=decide (i=j):=λi j=>by simp
   rw[e2];exact q _ _ _ _ t Kp.refl A.pen (.bl _)
  ·rw[r1.str',r2.str']
   refine⟨rfl,?_⟩
   have e2:∀i j:Str,decide (V.str i=V.str j)=decide (i=j):=λi j=>by simp
   rw[e2];exact q _ _ _ _ t Kp.refl A.pen (.bl _)
 ·exact t.elim
def O5:Ok2 (gEq true) rNe:=by
 intro p H0 own Hb H x y k1 d1 k2 d2 P Q A r1 r2 t q
 unfold gEq scD at t
 split at t
 ·rename_i b e
  split at e <;> first|cases e|skip
  ·rw[r1.int',r2.int']
   refine⟨rfl,?_⟩
   have e2:∀i j:Int,decide (V.int i=V.int j)=decide (i=j):=λi j=>by simp
   rw[e2];exact q _ _ _ _ t Kp.refl A.pen (.bl _)
  ·rw[r1.bl',r2.bl']
   refine⟨rfl,?_⟩
   have e2:∀i j:Bool,decide (V.bl i=V.bl j)=decide (i=j):=λi j=>by simp
   rw[e2];exact q _ _ _ _ t Kp.refl A.pen (.bl _)
  ·rw[r1.str',r2.str']
   refine⟨rfl,?_⟩
   have e2:∀i j:Str,decide (V.str i=V.str j)=decide (i=j):=λi j=>by simp
   rw[e2];exact q _ _ _ _ t Kp.refl A.pen (.bl _)
 ·exact t.elim
def gIx:G2:=λk1 d1 _ d2 P=>match d1,d2 with
 |.list ds,.int i=>∃d,atI ds i=some d/\P (norm k1 d) d
 |.tuple ds,.int i=>∃d,atI ds i=some d/\P (norm k1 d) d
 |_,_=>False
def Rps.atI{ok:Addr->Prop}{H:Hp}{vs:List V}{ds:List D}{i:Int}{d:D}(r:Rps ok H vs ds)(h:L2.atI ds i=some d):∃v,L2.atI vs i=some v/\Rp ok H v d:=by
 unfold L2.atI at h ⊢
 rw[r.length]
 cases e:ixN ds.length i with
 |none=>rw[e] at h;cases h
 |some j =>
  rw[e] at h
  obtain⟨v,h1,h2⟩:=r.getD (i:=j) (d:=d) h
  exact⟨v,h1,h2⟩
def fB{p:Pn}{H0 Hb H:Hp}{own:Addr->Option Nat}{vs:List V}{kd:Kd×D}(r:RpK p H0 own Hb H vs [kd]):∃v,vs=[v]/\Rp (okK p H0 own Hb kd.1) H v kd.2:=by
 cases r with
 |cons h t=>cases t;exact⟨_,rfl,h⟩
def Bj{p:Pn}{H0 Hb H:Hp}{own:Addr->Option Nat}{vs:List V}{kd ke:Kd×D}(r:RpK p H0 own Hb H vs [kd,ke]):∃v w,vs=[v,w]/\Rp (okK p H0 own Hb kd.1) H v kd.2/\Rp (okK p H0 own Hb ke.1) H w ke.2:=by
 cases r with
 |cons h t =>
  cases t with
  |cons h2 t2=>cases t2;exact⟨_,_,rfl,h,h2⟩
def Eh:GC:=λks P=>match ks with
 |[(_,.list ds)]=>P .imm (.int ds.length)
 |[(_,.tuple ds)]=>P .imm (.int ds.length)
 |_=>False
def Nb{K:Ê}:OkC Eh (λxs H Q=>∃p ys,xs=[.ref p]/\(SqL K H p ys\/SqT K H p ys)/\Q (.int ys.length) H):=by
 intro p H0 own Hb H vs ks P Q A r t q
 unfold Eh at t
 split at t
 ·obtain⟨v,rfl,r'⟩:=fB r
  obtain⟨c,vs,rfl,o,hc,rs⟩:=r'.cg
  exact⟨c,vs,rfl,.inl (SqL.of hc),by rw[rs.length];exact q _ _ _ _ t Kp.refl A.pen (.int _)⟩
 ·obtain⟨v,rfl,r'⟩:=fB r
  obtain⟨c,vs,rfl,hc,rs⟩:=r'.dY
  exact⟨c,vs,rfl,.inr (SqT.of hc),by rw[rs.length];exact q _ _ _ _ t Kp.refl A.pen (.int _)⟩
 ·exact t.elim
def fX{ps:Pos}(hm:X.mg "len"=none)(ha:PDA X [a] t)(hg:Gl X "len":=by rfl)(he:zS X a []:=by rfl)(hpl:zP X pos []:=by rfl):PD X (.Call (.Name "len" ps) [a] [] pos) (tCl Eh t) :=
 dg gR Nb hg hm PySem.boot_len ha (by decide) (by decide) he hpl
def Kr:GC:=λks P=>match ks with
 |[(_,.int i)]=>P .imm (.int i)
 |[(_,.bool b)]=>P .imm (.int (if b then 1 else 0))
 |_=>False
def jh{ps:Pos}(hm:X.mg "int"=none)(hv:bootBuiltins "int"=some (.type "int"))(ha:PDA X [a] t)(hg:Gl X "int":=by rfl)(he:zS X a []:=by rfl)(hpl:zP X pos []:=by rfl):PD X (.Call (.Name "int" ps) [a] [] pos) (tCl Kr t) :=
 jT zV (by
  intro p H0 own Hb H vs ks P Q A r t q
  unfold Kr at t
  split at t
  ·rename_i k i
   obtain⟨v,rfl,r'⟩:=fB r
   rw[r'.int']
   exact .inl ⟨i,rfl,q _ _ _ _ t Kp.refl A.pen (.int _)⟩
  ·rename_i k i
   obtain⟨v,rfl,r'⟩:=fB r
   rw[r'.bl']
   exact .inr ⟨i,rfl,q _ _ _ _ t Kp.refl A.pen (.int _)⟩
  ·exact t.elim) hg hm hv ha (by decide) (by decide) he hpl
end
variable [Gr]
section
variable {ok ok':Addr->Prop}{H H':Hp}
mutual
def Rp.cB(f:∀a o,ok a->H a=some o->ok' a/\H' a=some o)(t:∀a xs,H a=some (.tup xs)->H' a=some (.tup xs)):∀{v:V}{d:D},Rp ok H v d->Rp ok' H' v d
 |_,_,.non=>.non
 |_,_,.bl b=>.bl b
 |_,_,.int i=>.int i
 |_,_,.str x=>.str x
 |_,_,.lst o h r=>.lst (f _ _ o h).1 (f _ _ o h).2 (Rps.cB f t r)
 |_,_,.tup h r=>.tup (t _ _ h) (Rps.cB f t r)
 |_,_,.dct o h r=>.dct (f _ _ o h).1 (f _ _ o h).2 (Rkv.cB f t r)
def Rps.cB(f:∀a o,ok a->H a=some o->ok' a/\H' a=some o)(t:∀a xs,H a=some (.tup xs)->H' a=some (.tup xs)):∀{v:List V}{d:List D},Rps ok H v d->Rps ok' H' v d
 |_,_,.nil=>.nil
 |_,_,.cons h r=>.cons (Rp.cB f t h) (Rps.cB f t r)
def Rkv.cB(f:∀a o,ok a->H a=some o->ok' a/\H' a=some o)(t:∀a xs,H a=some (.tup xs)->H' a=some (.tup xs)):∀{v:List (Key×V)}{d:List (D×D)},Rkv ok H v d->Rkv ok' H' v d
 |_,_,.nil=>.nil
 |_,_,.cons h r=>.cons (Rp.cB f t h) (Rkv.cB f t r)
end
end
structure DEnds where
 nx:List Sl->Prop
 rt:D->Prop
 bk:List Sl->Prop:=λ_=>False
 ct:List Sl->Prop:=λ_=>False
abbrev DS:=DEnds->List Sl->Prop
structure FrS(p:Pn)(own:Addr->Option Nat)(H:Hp)(own':Addr->Option Nat)(H':Hp):Prop where
 keep:∀b o,H b=some o->¬p.fp b->own b=none->H' b=some o/\own' b=none
 tup:∀a xs,H a=some (.tup xs)->H' a=some (.tup xs)
def FrS.trans{p:Pn}{o1 o2 o3:Addr->Option Nat}{H1 H2 H3:Hp}(a:FrS p o1 H1 o2 H2)(b:FrS p o2 H2 o3 H3):FrS p o1 H1 o3 H3:=⟨λc o h n e=>let ⟨x,y⟩:=a.keep c o h n e;b.keep c o x n y,λc xs e=>b.tup c xs (a.tup c xs e)⟩
def FrS.refl{p:Pn}{o1:Addr->Option Nat}{H1:Hp}:FrS p o1 H1 o1 H1:=⟨λ_ _ h _ e=>⟨h,e⟩,λ_ _ e=>e⟩
def At.tups{p:Pn}{H0 H H':Hp}{own:Addr->Option Nat}(A:At p H0 own H H'):∀a xs,H a=some (.tup xs)->H' a=some (.tup xs):=jB (⟨A.k0,Kp.refl,A.penb,A.penb,A.ow⟩:At p H0 own H H) A.kp
structure RPost(p:Pn)(H0 H':Hp)(v:V)(d:D):Prop where
 k0:∀b o,H0 b=some o->¬p.fp b->H' b=some o
 pen:p.PI H'
 rp:Rp (λa=>H0 a=none/\¬p.fp a) H' v d
structure Wish(p:Pn)(H0:Hp)(own:Addr->Option Nat)(H:Hp)(P:DEnds)(Q:Ends):Prop where
 nx:∀own' σ' H' ρ',EnvD p H0 own' σ' H' ρ'->FrS p own H own' H'->P.nx ρ'->Q.nx σ' H'
 rt:∀d v H',P.rt d->RPost p H0 H' v d->Q.rt v H'
 bk:∀own' σ' H' ρ',EnvD p H0 own' σ' H' ρ'->FrS p own H own' H'->P.bk ρ'->Q.bk σ' H'
 ct:∀own' σ' H' ρ',EnvD p H0 own' σ' H' ρ'->FrS p own H own' H'->P.ct ρ'->Q.ct σ' H'
def Wish.go{p:Pn}{H0 H H':Hp}{own own':Addr->Option Nat}{P:DEnds}{Q:Ends}(w:Wish p H0 own H P Q)(f:FrS p own H own' H'):Wish p H0 own' H' P Q :=
 ⟨λo s h r e g n=>w.nx o s h r e (f.trans g) n,w.rt,λo s h r e g n=>w.bk o s h r e (f.trans g) n,λo s h r e g n=>w.ct o s h r e (f.trans g) n⟩
def iT(t:DS):TS:=λQ σ H=>∃p H0 own ρ P,EnvD p H0 own σ H ρ/\t P ρ/\Wish p H0 own H P Q
abbrev PDS(X:Cx)(st:Stmt)(t:DS):Prop:=PS X st (iT t)
abbrev oR(X:Cx)(st:List Stmt)(t:DS):Prop:=PSs X st (iT t)
def PSs.wk'{X:Cx}{ss:List Stmt}{t t':TS}(h:PSs X ss t)(w:∀D σ H,t' D σ H->t D σ H):PSs X ss t':=λpins s σ H D I q=>h pins s σ H D I (w D σ H q)
def PS.wk'{X:Cx}{ss:Stmt}{t t':TS}(h:PS X ss t)(w:∀D σ H,t' D σ H->t D σ H):PS X ss t':=λpins s σ H D I q=>h pins s σ H D I (w D σ H q)
def At.frs{p:Pn}{H0 H H':Hp}{own:Addr->Option Nat}(A:At p H0 own H H'):FrS p own H own H':=⟨λb o h n e=>⟨A.kp b o h n,e⟩,A.tups⟩
section
variable {X:Cx}{pos:Pos}{st:Stmt}{rest:List Stmt}{e:Expr}{te:DE}{t u:DS}
def p7:DS:=λP ρ=>P.nx ρ
def uL(t u:DS):DS:=λP ρ=>t { P with nx:=u P } ρ
def aL:oR X [] p7:=PSs.wk' jP (by
 rintro Q σ H ⟨p,H0,own,ρ,P,E,t,w⟩
 exact w.nx own σ H ρ E FrS.refl t)
def aC(h1:PDS X st t)(h2:oR X rest u):oR X (st::rest) (uL t u):=PSs.wk' (aO h1 h2) (by
 rintro Q σ H ⟨p,H0,own,ρ,P,E,t,w⟩
 exact⟨p,H0,own,ρ,_,E,t,⟨λo s h r e g n=>⟨p,H0,o,r,P,e,n,w.go g⟩,w.rt,w.bk,w.ct⟩⟩)
def aD(h1:PDS X st t):oR X [st] t:=cH h1
def EY(te:DE):DS:=λP ρ=>te ρ λk d=>k.le .n0=true/\P.rt d
def aG(he:PD X e te):PDS X (.Return (some e) pos) (EY te):=PS.wk' (iC he) (by
 rintro Q σ H ⟨p,H0,own,ρ,P,E,t,w⟩
 refine⟨p,H0,own,ρ,_,E,t,λk d v H' h A r=>w.rt d v H' h.2 ⟨λb o e n=>A.kp b o (A.k0 b o e n) n,A.pen,?_⟩⟩
 exact gW A h.1 r)
def dIf(c:DT)(t u:DS):DS:=λP ρ=>c ρ λb=>if b=true then t P ρ else u P ρ
def bW{c:Expr}{a b:List Stmt}{tc:DT}(hc:PDT X c tc)(ha:oR X a t)(hb:oR X b u):PDS X (.If c a b pos) (dIf tc t u):=PS.wk' (sY hc ha hb) (by
 rintro Q σ H ⟨p,H0,own,ρ,P,E,t,w⟩
 refine⟨p,H0,own,ρ,_,E,t,λb H' h A=>?_⟩
 cases b with
 |true=>exact bw ⟨p,H0,own,ρ,P,E.go A.kp A.pen,by simpa using h,w.go A.frs⟩
 |false=>exact cI ⟨p,H0,own,ρ,P,E.go A.kp A.pen,by simpa using h,w.go A.frs⟩)
def Fb(te:DE):DS:=λP ρ=>te ρ λ_ _=>P.nx ρ
def dM(he:PD X e te)(hs:swapsWith e none pos.line X.env=pure false:=by rfl):PDS X (.Expr e pos) (Fb te):=PS.wk' (gF he hs) (by
 rintro Q σ H ⟨p,H0,own,ρ,P,E,t,w⟩
 exact⟨p,H0,own,ρ,_,E,t,λk d v H' h A r=>w.nx own σ H' ρ (E.go A.kp A.pen) A.frs h⟩)
def Sl.region:Sl->Option Nat
 |.dw r _=>some r
 |.rw r _=>some r
 |.tw r _=>some r
 |.sp r _ _=>some r
 |_=>none
def Ij(r:Nat)(ρ:List Sl)(i:Nat):Bool:=(ρ.set i .any).all λs=>s.region != some r
def stK(rg:Option Nat)(ρ:List Sl)(i:Nat)(k:Kd)(d:D):Option Sl:=match k with
 |.imm=>some (.im d)
 |.new=>match rg with
  |some r=>if Ij r ρ i=true then some (.dw r d) else none
  |none=>some (.sn d)
 |.reg r=>some (.dw r d)
 |.snw=>some (.sn d)
 |.shr=>some (.sh d)
 |_=>none
def Hq(i:Nat)(rg:Option Nat)(te:DE):DS:=λP ρ=>te ρ λk d=>match stK rg ρ i (norm k d) d with
 |some s=>P.nx (ρ.set i s)
 |none=>False
section
variable {p:Pn}{H0 H H1:Hp}{own:Addr->Option Nat}{σ:L2.St}{ρ:List Sl}{i:Nat}
def EnvD.set{v:V}{s:Sl}(E:EnvD p H0 own σ H ρ)(hs:i<σ.length->gU p H0 own (σ.set i (some v)) H i s):EnvD p H0 own (σ.set i (some v)) H (ρ.set i s):=by
 refine⟨E.k0,E.pen,E.ow,λj s' e=>?_,by simpa using E.len,E.gr⟩
 by_cases hj:j=i
 ·subst hj
  have hl:j<ρ.length:=by
   have:=(Ù.mp e).1
   simpa using this
  rw[Ć hl] at e
  cases e
  exact hs (by rw[←E.len];exact hl)
 ·rw[Ę (é hj)] at e
  have q:=E.slot j s' e
  have eq:(σ.set i (some v))[j]?=σ[j]?:=Ę (é hj)
  cases s' <;> simp only[gU,eq] at q ⊢ <;> exact q
def cT(r:Nat)(H H1:Hp)(own:Addr->Option Nat):Addr->Option Nat:=λa=>match H a,H1 a with
 |none,some _=>some r
 |_,_=>own a
def bI{r:Nat}{a:Addr}{o:HO}(h:H a=some o):cT r H H1 own a=own a:=by unfold cT;rw[h]
def qt{r:Nat}{a:Addr}{o:HO}(h:H a=none)(h1:H1 a=some o):cT r H H1 own a=some r:=by unfold cT;rw[h,h1]
def EnvD.adopt(r:Nat)(E:EnvD p H0 own σ H ρ)(A:At p H0 own H H1):EnvD p H0 (cT r H H1 own) σ H1 ρ:=by
 have tp:=jB E.at A.kp
 refine⟨λb o e n=>A.kp b o (E.k0 b o e n) n,A.pen,λa q e=>?_,λj s e=>?_,E.len,E.gr⟩
 ·cases h:H a with
  |some o =>
   rw[bI h] at e
   obtain⟨x,y,z⟩:=E.ow a q e
   refine⟨x,y,by rw[A.kp a o h y];exact λz=>nomatch z⟩
  |none =>
   cases h1:H1 a with
   |none =>
    have e':own a=some q:=by rw[←e];unfold cT;rw[h,h1]
    exact absurd h (E.ow a q e').2.2
   |some o=>exact⟨E.at.h0 h,E.at.nfb h,λz=>nomatch z⟩
 ·have q:=E.slot j s e
  cases s with
  |any=>trivial
  |im d=>exact let ⟨v,a,b⟩:=q;⟨v,a,b.mono (λ_ o=>o) (λ_ _ o=>o.elim) tp⟩
  |sh d=>exact let ⟨v,a,b⟩:=q;⟨v,a,b.cB (λc o n h=>⟨⟨n.1,by rw[bI h];exact n.2⟩,A.kp c o h n.1⟩) tp⟩
  |sn d=>exact let ⟨v,a,b⟩:=q;⟨v,a,b.cB (λc o n h=>⟨⟨n.1,n.2.1,by rw[bI h];exact n.2.2⟩,A.kp c o h n.2.1⟩) tp⟩
  |dw r' d=>exact let ⟨v,a,b⟩:=q;⟨v,a,b.cB (λc o n h=>⟨by rw[bI h];exact n,A.kp c o h (E.ow c r' n).2.1⟩) tp⟩
  |pen C=>exact q
  |rw r' L=>exact let ⟨st,as,a,b⟩:=q;⟨st,as,a,b.mono (λc o n h=>⟨by rw[bI h];exact n,A.kp c o h (E.ow c r' n).2.1⟩) tp⟩
  |tw r' L=>exact let ⟨st,as,a,b⟩:=q;⟨st,as,a,b.mono (λc o n h=>⟨by rw[bI h];exact n,A.kp c o h (E.ow c r' n).2.1⟩) tp⟩
  |scr v b=>exact q
  |sp r' b ds=>exact let ⟨l,vs,a,o,h,z⟩:=q;⟨l,vs,a,by rw[bI h];exact o,A.kp l _ h (E.ow l r' o).2.1,z.cB (λc u n e=>⟨⟨n.1,n.2.1,by rw[bI e];exact n.2.2⟩,A.kp c u e n.2.1⟩) tp⟩
def Fp{r:Nat}{k:Kd}{v:V}{d:D}(h:k.le .new=true)(A:At p H0 own H H1)(x:Rp (okK p H0 own H k) H1 v d):Rp (λa=>cT r H H1 own a=some r) H1 v d :=
 (gW A h x).cB (λa o n e=>⟨qt n e,e⟩) λ_ _ e=>e
def qu{r:Nat}(A:At p H0 own H H1):FrS p own H (cT r H H1 own) H1:=⟨λb o h n e=>⟨A.kp b o h n,by rw[bI h];exact e⟩,A.tups⟩
def EnvD.drop(E:EnvD p H0 own σ H ρ):EnvD p H0 own σ H (ρ.set i .any):=by
 refine⟨E.k0,E.pen,E.ow,λj s' e=>?_,by simpa using E.len,E.gr⟩
 by_cases hj:j=i
 ·subst hj
  have hl:j<ρ.length:=by
   have:=(Ù.mp e).1
   simpa using this
  rw[Ć hl] at e
  cases e
  trivial
 ·rw[Ę (é hj)] at e
  exact E.slot j s' e
def dG(r:Nat)(own:Addr->Option Nat):Addr->Option Nat:=λa=>if own a=some r then none else own a
def EnvD.clear{r:Nat}(E:EnvD p H0 own σ H ρ)(h:ρ.all (λs=>s.region != some r)=true):EnvD p H0 (dG r own) σ H ρ:=by
 refine⟨E.k0,E.pen,λa q e=>?_,λj s e=>?_,E.len,E.gr⟩
 ·unfold dG at e
  split at e
  ·cases e
  ·exact E.ow a q e
 ·have q:=E.slot j s e
  have z:=ć.mp h s (Ñ e)
  have c0:∀a,own a=none->dG r own a=none:=λa n=>by unfold dG;rw[n];simp
  cases s with
  |any=>trivial
  |im d=>exact q
  |sh d=>exact let ⟨v,a,b⟩:=q;⟨v,a,b.mono (λc n=>⟨n.1,c0 c n.2⟩) (λ_ _ _ e=>e) λ_ _ e=>e⟩
  |sn d=>exact let ⟨v,a,b⟩:=q;⟨v,a,b.mono (λc n=>⟨n.1,n.2.1,c0 c n.2.2⟩) (λ_ _ _ e=>e) λ_ _ e=>e⟩
  |dw r' d =>
   have hne:r'≠r:=by simpa[Sl.region] using z
   exact let ⟨v,a,b⟩:=q;⟨v,a,b.mono (λc n=>by unfold dG;rw[n,if_neg (by simpa using hne)]) (λ_ _ _ e=>e) λ_ _ e=>e⟩
  |pen C=>exact q
  |rw r' L =>
   have hne:r'≠r:=by simpa[Sl.region] using z
   exact let ⟨st,as,a,b⟩:=q;⟨st,as,a,b.mono (λc o n e=>⟨by unfold dG;rw[n,if_neg (by simpa using hne)],e⟩) λ_ _ e=>e⟩
  |tw r' L =>
   have hne:r'≠r:=by simpa[Sl.region] using z
   exact let ⟨st,as,a,b⟩:=q;⟨st,as,a,b.mono (λc o n e=>⟨by unfold dG;rw[n,if_neg (by simpa using hne)],e⟩) λ_ _ e=>e⟩
  |scr v b=>exact q
  |sp r' b ds =>
   have hne:r'≠r:=by simpa[Sl.region] using z
   exact let ⟨l,vs,a,o,h,y⟩:=q;⟨l,vs,a,by unfold dG;rw[o,if_neg (by simpa using hne)],h,y.mono (λc n=>⟨n.1,n.2.1,c0 c n.2.2⟩) (λ_ _ _ e=>e) λ_ _ e=>e⟩
def zG{r:Nat}:FrS p own H (dG r own) H:=⟨λb o h n e=>⟨h,by unfold dG;rw[e];simp⟩,λ_ _ e=>e⟩
end
def bV{i:Nat}(rg:Option Nat)(h:PS X st (vh (cV te) (jx i))):PDS X st (Hq i rg te):=PS.wk' h (by
 rintro Q σ H ⟨p,H0,own,ρ,P,E,t,w⟩
 refine⟨p,H0,own,ρ,_,E,t,λk d v H1 h A r=>?_⟩
 have r:=bB r
 generalize norm k d=k' at h r
 show Q.nx (σ.set i (some v)) H1
 have E1:=E.go A.kp A.pen
 have fin:∀s,gU p H0 own (σ.set i (some v)) H1 i s\/¬i<σ.length->P.nx (ρ.set i s)->Q.nx (σ.set i (some v)) H1:=λs hs hn =>
  w.nx own _ H1 _ (E1.set λhl=>hs.elim id λz=>absurd hl z) A.frs hn
 have here:i<σ.length->(σ.set i (some v))[i]?=some (some v):=λhl=>Ć hl
 by_cases hl:i<σ.length
 ·cases k' with
  |imm=>exact fin (.im d) (.inl ⟨v,here hl,r⟩) h
  |new =>
   cases rg with
   |none=>exact fin (.sn d) (.inl ⟨v,here hl,gW A (k:=.snw) rfl r⟩) h
   |some q =>
    simp only[stK] at h
    by_cases hf:Ij q ρ i=true
    ·rw[if_pos hf] at h
     have E2:EnvD p H0 (dG q own) σ H (ρ.set i .any):=(E.drop (i:=i)).clear hf
     have A2:At p H0 (dG q own) H H1:=⟨A.k0,A.kp,A.penb,A.pen,E2.ow⟩
     have E3:=E2.adopt q A2
     have r2:Rp (okK p H0 (dG q own) H .new) H1 v d:=r
     have E4:EnvD p H0 (cT q H H1 (dG q own)) (σ.set i (some v)) H1 ((ρ.set i .any).set i (.dw q d)):=E3.set λ_=>⟨v,here hl,Fp (k:=.new) rfl A2 r2⟩
     rw[List.set_set] at E4
     exact w.nx _ _ H1 _ E4 (zG.trans (qu A2)) h
    ·rw[if_neg hf] at h
     exact h.elim
  |reg q=>exact fin (.dw q d) (.inl ⟨v,here hl,r⟩) h
  |n0=>exact h.elim
  |snw=>exact fin (.sn d) (.inl ⟨v,here hl,r⟩) h
  |shr=>exact fin (.sh d) (.inl ⟨v,here hl,r⟩) h
  |wk=>exact h.elim
 ·cases hs:stK rg ρ i k' d with
  |none=>rw[hs] at h;exact h.elim
  |some s=>rw[hs] at h;exact fin s (.inr hl) h)
end
variable [Gr]
section
variable {ok ok':Addr->Prop}{H:Hp}
mutual
def Rp.inj:∀{v:V}{d d':D},Rp ok H v d->Rp ok' H v d'->d=d'
 |_,_,_,.non,.non=>rfl
 |_,_,_,.bl b,.bl _=>rfl
 |_,_,_,.int i,.int _=>rfl
 |_,_,_,.str x,.str _=>rfl
 |_,_,_,.lst o h r,.lst o' h' r'=>by
  rw[h] at h';cases h'
  rw[Rps.inj r r']
 |_,_,_,.lst o h r,.tup h' r'=>by rw[h] at h';cases h'
 |_,_,_,.lst o h r,.dct o' h' r'=>by rw[h] at h';cases h'
 |_,_,_,.tup h r,.lst o' h' r'=>by rw[h] at h';cases h'
 |_,_,_,.tup h r,.tup h' r'=>by
  rw[h] at h';cases h'
  rw[Rps.inj r r']
 |_,_,_,.tup h r,.dct o' h' r'=>by rw[h] at h';cases h'
 |_,_,_,.dct o h r,.lst o' h' r'=>by rw[h] at h';cases h'
 |_,_,_,.dct o h r,.tup h' r'=>by rw[h] at h';cases h'
 |_,_,_,.dct o h r,.dct o' h' r'=>by
  rw[h] at h';cases h'
  rw[Rkv.inj r r']
def Rps.inj:∀{v:List V}{d d':List D},Rps ok H v d->Rps ok' H v d'->d=d'
 |_,_,_,.nil,.nil=>rfl
 |_,_,_,.cons h t,.cons h' t'=>by rw[Rp.inj h h',Rps.inj t t']
def Rkv.inj:∀{v:List (Key×V)}{d d':List (D×D)},Rkv ok H v d->Rkv ok' H v d'->d=d'
 |_,_,_,.nil,.nil=>rfl
 |_,_,_,.cons h t,.cons h' t'=>by rw[Rp.inj h h',Rkv.inj t t']
end
variable {l:Addr}{T:D}
mutual
def Rp.avoid(h0:Rp ok' H (.ref l) T):∀{v:V}{d:D},Rp ok H v d->sizeOf d<sizeOf T->Rp (λa=>ok a/\a≠l) H v d
 |_,_,.non,_=>.non
 |_,_,.bl b,_=>.bl b
 |_,_,.int i,_=>.int i
 |_,_,.str x,_=>.str x
 |_,_,.lst (ds:=ds) o h r,s=>.lst ⟨o,λz=>by
   subst z
   have e:=Rp.inj (Rp.lst o h r) h0
   rw[e] at s
   exact absurd s (ú _)⟩ h (Rps.avoid h0 r (by simp only[PyData.list.sizeOf_spec] at s;omega))
 |_,_,.tup (ds:=ds) h r,s=>.tup h (Rps.avoid h0 r (by simp only[PyData.tuple.sizeOf_spec] at s;omega))
 |_,_,.dct (ds:=ds) o h r,s=>.dct ⟨o,λz=>by
   subst z
   have e:=Rp.inj (Rp.dct o h r) h0
   rw[e] at s
   exact absurd s (ú _)⟩ h (Rkv.avoid h0 r (by simp only[PyData.dict.sizeOf_spec] at s;omega))
def Rps.avoid(h0:Rp ok' H (.ref l) T):∀{v:List V}{d:List D},Rps ok H v d->sizeOf d<sizeOf T->Rps (λa=>ok a/\a≠l) H v d
 |_,_,.nil,_=>.nil
 |_,_,.cons h t,s=>.cons (Rp.avoid h0 h (by simp only[Œ] at s;omega)) (Rps.avoid h0 t (by simp only[Œ] at s;omega))
def Rkv.avoid(h0:Rp ok' H (.ref l) T):∀{v:List (Key×V)}{d:List (D×D)},Rkv ok H v d->sizeOf d<sizeOf T->Rkv (λa=>ok a/\a≠l) H v d
 |_,_,.nil,_=>.nil
 |_,_,.cons h t,s=>.cons (Rp.avoid h0 h (by simp only[Œ,Prod.mk.sizeOf_spec] at s;omega)) (Rkv.avoid h0 t (by simp only[Œ] at s;omega))
end
end
def forget(r:Nat)(ρ:List Sl):List Sl:=ρ.map λs=>if s.region=some r then .any else s
section
variable {p:Pn}{H0 H H1:Hp}{own:Addr->Option Nat}{σ:L2.St}{ρ:List Sl}{i:Nat}
def EnvD.write{r:Nat}{l:Addr}{u o':HO}(E:EnvD p H0 own σ H ρ)(hl:own l=some r)(ho:H l=some u)(hu:∀xs,u≠.tup xs)(hc:¬Fxd u:=by rintro⟨_,_,z⟩;cases z):EnvD p H0 own σ (upd H l o') (forget r ρ):=by
 have h0:=E.ow l r hl
 have tp:∀a xs,H a=some (.tup xs)->upd H l o' a=some (.tup xs):=λa xs e=>by
  rw[ao];exact e
  intro z;subst z;rw[ho] at e;exact hu xs (Ò e)
 refine⟨λb o e n=>?_,p.mono H _ E.pen λb o f e=>?_,λa q e=>?_,λj s e=>?_,by unfold forget;rw[Á];exact E.len,E.gr⟩
 ·rw[ao];exact E.k0 b o e n
  intro z;subst z;rw[h0.1] at e;cases e
 ·rw[ao];exact e
  intro z;subst z;exact f.elim h0.2.1 λc=>hc (by rw[ho] at e;cases e;exact c)
 ·obtain⟨x,y,z⟩:=E.ow a q e
  refine⟨x,y,?_⟩
  by_cases hh:a=l
  ·subst hh;rw[aA];exact λz=>nomatch z
  ·rw[ao hh];exact z
 ·unfold forget at e
  rw[Þ] at e
  cases hr:ρ[j]? with
  |none=>rw[hr] at e;cases e
  |some s0 =>
   rw[hr] at e
   have e:=Ò e
   have q:=E.slot j s0 hr
   have ne:∀c,own c≠some r->c≠l:=λc n z=>by subst z;exact n hl
   cases s0 with
   |any=>simp only[Sl.region] at e;subst e;trivial
   |im d =>
    have e:Sl.im d=s:=e
    subst e
    exact let ⟨v,a,b⟩:=q;⟨v,a,b.mono (λ_ o=>o) (λ_ _ o=>o.elim) tp⟩
   |sh d =>
    have e:Sl.sh d=s:=e
    subst e
    exact let ⟨v,a,b⟩:=q;⟨v,a,b.mono (λ_ o=>o) (λc o n e=>by rw[ao (ne c (by rw[n.2];exact λz=>nomatch z))];exact e) tp⟩
   |sn d =>
    have e:Sl.sn d=s:=e
    subst e
    exact let ⟨v,a,b⟩:=q;⟨v,a,b.mono (λ_ o=>o) (λc o n e=>by rw[ao (ne c (by rw[n.2.2];exact λz=>nomatch z))];exact e) tp⟩
   |dw r' d =>
    by_cases hrr:r'=r
    ·subst hrr
     have e:(if (some r':Option Nat)=some r' then Sl.any else Sl.dw r' d)=s:=e
     rw[if_pos rfl] at e
     subst e
     trivial
    ·have e:(if (some r':Option Nat)=some r then Sl.any else Sl.dw r' d)=s:=e
     rw[if_neg (by simpa using hrr)] at e
     subst e
     exact let ⟨v,a,b⟩:=q;⟨v,a,b.mono (λ_ o=>o) (λc o n e=>by rw[ao (ne c (by rw[n];simpa using hrr))];exact e) tp⟩
   |pen C =>
    have e:Sl.pen C=s:=e
    subst e
    exact q
   |scr v b =>
    have e:Sl.scr v b=s:=e
    subst e
    exact q
   |sp r' b ds =>
    by_cases hrr:r'=r
    ·subst hrr
     have e:(if (some r':Option Nat)=some r' then Sl.any else Sl.sp r' b ds)=s:=e
     rw[if_pos rfl] at e
     subst e
     trivial
    ·have e:(if (some r':Option Nat)=some r then Sl.any else Sl.sp r' b ds)=s:=e
     rw[if_neg (by simpa using hrr)] at e
     subst e
     exact let ⟨l',vs,a,o,h,y⟩:=q;⟨l',vs,a,o,by rw[ao (ne l' (by rw[o];simpa using hrr))];exact h,y.mono (λ_ o=>o) (λc o n e=>by rw[ao (ne c (by rw[n.2.2];exact λz=>nomatch z))];exact e) tp⟩
   |rw r' L =>
    by_cases hrr:r'=r
    ·subst hrr
     have e:(if (some r':Option Nat)=some r' then Sl.any else Sl.rw r' L)=s:=e
     rw[if_pos rfl] at e
     subst e
     trivial
    ·have e:(if (some r':Option Nat)=some r then Sl.any else Sl.rw r' L)=s:=e
     rw[if_neg (by simpa using hrr)] at e
     subst e
     exact let ⟨st,as,a,b⟩:=q;⟨st,as,a,b.mono (λc o n e=>⟨n,by rw[ao (ne c (by rw[n];simpa using hrr))];exact e⟩) tp⟩
   |tw r' L =>
    by_cases hrr:r'=r
    ·subst hrr
     have e:(if (some r':Option Nat)=some r' then Sl.any else Sl.tw r' L)=s:=e
     rw[if_pos rfl] at e
     subst e
     trivial
    ·have e:(if (some r':Option Nat)=some r then Sl.any else Sl.tw r' L)=s:=e
     rw[if_neg (by simpa using hrr)] at e
     subst e
     exact let ⟨st,as,a,b⟩:=q;⟨st,as,a,b.mono (λc o n e=>⟨n,by rw[ao (ne c (by rw[n];simpa using hrr))];exact e⟩) tp⟩
def yg{r:Nat}{l:Addr}{u o':HO}(hl:own l=some r)(ho:H l=some u)(hu:∀xs,u≠.tup xs):FrS p own H own (upd H l o'):=by
 refine⟨λb o h n e=>⟨?_,e⟩,λa xs e=>?_⟩
 ·rw[ao];exact h
  intro z;subst z;rw[hl] at e;cases e
 ·rw[ao];exact e
  intro z;subst z;rw[ho] at e;exact hu xs (Ò e)
def EnvD.put{v:V}{s:Sl}(E:EnvD p H0 own σ H ρ)(hs:gU p H0 own σ H i s):EnvD p H0 own σ H (ρ.set i s):=by
 refine⟨E.k0,E.pen,E.ow,λj s' e=>?_,by simpa using E.len,E.gr⟩
 by_cases hj:j=i
 ·subst hj
  have hl:j<ρ.length:=by
   have:=(Ù.mp e).1
   simpa using this
  rw[Ć hl] at e
  cases e
  exact hs
 ·rw[Ę (é hj)] at e
  exact E.slot j s' e
def EnvD.Bk{r:Nat}{l:Addr}{vs vs':List V}{ds ds':List D}(E:EnvD p H0 own σ H ρ)(A:At p H0 own H H1)(hv:σ[i]?=some (some (.ref l)))(hl:own l=some r)(ho:H l=some (.lst vs))(rs:Rps (λa=>own a=some r) H vs ds)(hs:∀H2,(∀{w:V}{d:D},Rp (λa=>own a=some r) H w d->sizeOf d<sizeOf (å ds)->Rp (λa=>cT r H H1 own a=some r) H2 w d)->(∀{w:V}{d:D},Rp (okK p H0 own H .new) H1 w d->Rp (λa=>cT r H H1 own a=some r) H2 w d)->Rps (λa=>cT r H H1 own a=some r) H2 vs' ds') :
  EnvD p H0 (cT r H H1 own) σ (upd H1 l (.lst vs')) ((forget r ρ).set i (.dw r (.list ds')))/\FrS p own H (cT r H H1 own) (upd H1 l (.lst vs')):=by
 have h1:H1 l=some (.lst vs):=A.kp l _ ho (E.ow l r hl).2.1
 have hl':cT r H H1 own l=some r:=by rw[bI ho];exact hl
 have E1:=(E.adopt r A).write (o':=.lst vs') hl' h1 (λxs z=>nomatch z)
 have tp:∀a xs,H1 a=some (.tup xs)->upd H1 l (.lst vs') a=some (.tup xs):=λa xs e=>by
  rw[ao];exact e
  intro z;subst z;rw[h1] at e;cases e
 refine⟨E1.put (v:=.ref l) ⟨.ref l,hv,.lst hl' aA (hs _ ?_ ?_)⟩,(qu A).trans (yg hl' h1 λxs z=>nomatch z)⟩
 ·intro w d x sz
  have x1:=Rp.avoid (Rp.lst (ok:=λa=>own a=some r) hl ho rs) x sz
  exact x1.cB (λa o n e=>⟨by rw[bI e];exact n.1,by rw[ao n.2];exact A.kp a o e (E.ow a r n.1).2.1⟩) λa xs e=>tp a xs (jB E.at A.kp a xs e)
 ·intro w d x
  exact x.cB (λa o n e=>⟨qt n e,by rw[ao (λz=>by subst z;rw[ho] at n;cases n)];exact e⟩) tp
end
section
variable {X:Cx}{pos:Pos}{st:Stmt}{e:Expr}{te:DE}{i:Nat}{ta:DA}
def pI{d:D}{ds:List D}(h:d∈ds):sizeOf d<sizeOf (å ds):=by
 have:=List.sizeOf_lt_of_mem h
 simp only[PyData.list.sizeOf_spec]
 omega
def qG{ok ok':Addr->Prop}{H H2:Hp}{T:D}(f:∀{w:V}{d:D},Rp ok H w d->sizeOf d<sizeOf T->Rp ok' H2 w d):∀{vs:List V}{ds:List D},Rps ok H vs ds->(∀d∈ds,sizeOf d<sizeOf T)->Rps ok' H2 vs ds
 |_,_,.nil,_=>.nil
 |_,_,.cons h t,s=>.cons (f h (s _ Ì)) (qG f t λd hd=>s d (Ï _ hd))
def Hr(i:Nat)(te:DE):DS:=λP ρ=>match ρ[i]? with
 |some (.dw r (.list ds))=>te ρ λk d=>(norm k d).le .new=true/\ds.length<1000/\P.nx ((forget r ρ).set i (.dw r (.list (ds++[d]))))
 |_=>False
def jl(h:PS X st (Aq (tBM X.K "list" wX (mQ i) (ju (dH te jF))))):PDS X st (Hr i te):=PS.wk' h (by
 rintro Q σ H ⟨p,H0,own,ρ,P,E,t,w⟩
 unfold Hr at t
 split at t
 ·rename_i r ds hr
  obtain⟨v,hv,x⟩:=E.slot i _ hr
  obtain⟨l,vs,rfl,hl,ho,rs⟩:=x.cg
  refine⟨.ref l,hv,.inl ⟨rfl,vs,SqL.of ho⟩,p,H0,own,ρ,λks=>∃k d,ks=[(k,d)]/\(norm k d).le .new=true/\ds.length<1000/\P.nx ((forget r ρ).set i (.dw r (.list (ds++[d])))),E,?_,?_⟩
  ·show te ρ λk d=>∃k' d',[(k,d)]=[(k',d')]/\_
   have e:(λk d=>∃k' d',[((k,d):Kd×D)]=[(k',d')]/\(norm k' d').le .new=true/\ds.length<1000/\P.nx ((forget r ρ).set i (.dw r (.list (ds++[d'])))))=λk d=>(norm k d).le .new=true/\ds.length<1000/\P.nx ((forget r ρ).set i (.dw r (.list (ds++[d])))):=by
    funext k d
    apply propext
    constructor
    ·rintro⟨k',d',e,h⟩
     cases e
     exact h
    ·exact λh=>⟨k,d,rfl,h⟩
   rw[e]
   exact t
  ·rintro ks ws H1 ⟨k,d,rfl,hk,hlen,hn⟩ A rk
   obtain⟨y,rfl,ry⟩:=fB rk
   have ry:=gW A hk (bB ry)
   have h1:H1 l=some (.lst vs):=A.kp l _ ho (E.ow l r hl).2.1
   have h24:=ì
   have hln:=rs.length
   refine⟨l,vs,y,rfl,rfl,h1,by omega,?_⟩
   obtain⟨E2,F2⟩:=E.Bk (vs':=vs++[y]) (ds':=ds++[d]) A hv hl ho rs λH2 f g=>(qG f rs λd hd=>pI hd).snoc (g ry)
   exact w.nx _ σ _ _ E2 F2 hn
 ·exact t.elim)
end
variable [Gr]
abbrev DG:=Kd->D->List Sl->(List Sl->Prop)->Prop
abbrev DGs:=Kd->List D->List Sl->(List Sl->Prop)->Prop
def sS(k:Kd)(d:D):Sl:=match k with
 |.imm=>.im d
 |.new=>.sn d
 |.reg r=>.dw r d
 |.snw=>.sn d
 |.shr=>.sh d
 |_=>.any
def okB(p:Pn)(H0:Hp)(own:Addr->Option Nat):Kd->Addr->Prop
 |.imm=>λ_=>False
 |.new=>λa=>H0 a=none/\¬p.fp a/\own a=none
 |.reg r=>λa=>own a=some r
 |.snw=>λa=>H0 a=none/\¬p.fp a/\own a=none
 |.shr=>λa=>¬p.fp a/\own a=none
 |.n0=>λ_=>True
 |.wk=>λ_=>True
def Ib(g:DG):TG:=λv σ H Q=>∃p H0 own ρ k d P,EnvD p H0 own σ H ρ/\Rp (okB p H0 own k) H v d/\g k d ρ P/\∀σ' ρ',EnvD p H0 own σ' H ρ'->P ρ'->Q σ' H
def nR(g:DGs):TGs:=λvs σ H Q=>∃p H0 own ρ k ds P,EnvD p H0 own σ H ρ/\Rps (okB p H0 own k) H vs ds/\g k ds ρ P/\∀σ' ρ',EnvD p H0 own σ' H ρ'->P ρ'->Q σ' H
abbrev PDG(X:Cx)(e:Expr)(g:DG):Prop:=PG X e (Ib g)
def PG.wk{X:Cx}{e:Expr}{t t':TG}(h:PG X e t)(w:∀v σ H Q,t' v σ H Q->t v σ H Q):PG X e t':=λpins s σ H v u Q I r q=>h pins s σ H v u Q I r (w v σ H Q q)
def PGs.wk{X:Cx}{e:List Expr}{t t':TGs}(h:PGs X e t)(w:∀v σ H Q,t' v σ H Q->t v σ H Q):PGs X e t':=λpins s σ H v u Q I r q=>h pins s σ H v u Q I r (w v σ H Q q)
def jN{p:Pn}{H0 H:Hp}{own:Addr->Option Nat}{k:Kd}{v:V}{d:D}(r:Rp (okB p H0 own k) H v d):Rp (okB p H0 own (norm k d)) H v d:=by
 by_cases h:eZ d=true
 ·rw[cA h];exact r.imm h
 ·rw[dO h];exact r
section
variable {X:Cx}{pos:Pos}{e:Expr}{es:List Expr}
def gNm(i:Nat):DG:=λk d ρ P=>P (ρ.set i (sS (norm k d) d))
def Ba{p:Pn}{H0 H:Hp}{own:Addr->Option Nat}{σ:L2.St}{i:Nat}{k:Kd}{v:V}{d:D}(r:Rp (okB p H0 own k) H v d)(h:σ[i]?=some (some v)):gU p H0 own σ H i (sS k d):=by
 cases k with
 |imm=>exact⟨v,h,r⟩
 |new=>exact⟨v,h,r⟩
 |reg q=>exact⟨v,h,r⟩
 |n0=>trivial
 |snw=>exact⟨v,h,r⟩
 |shr=>exact⟨v,h,r⟩
 |wk=>trivial
def aN{i:Nat}{x:Str}(h:PG X (.Name x pos) (jx i)):PDG X (.Name x pos) (gNm i):=PG.wk h (by
 rintro v σ H Q ⟨p,H0,own,ρ,k,d,P,E,r,t,q⟩
 exact q _ _ (E.set λhl=>Ba (jN r) (Ć hl)) t)
def DW:DGs:=λ_ ds ρ P=>match ds with
 |[]=>P ρ
 |_=>False
def rG(g:DG)(gs:DGs):DGs:=λk ds ρ P=>match ds with
 |d::r=>g (norm k d) d ρ λρ'=>gs k r ρ' P
 |[]=>False
def fU:PGs X [] (nR DW):=PGs.wk Gg (by
 rintro v σ H Q ⟨p,H0,own,ρ,k,ds,P,E,r,t,q⟩
 cases ds with
 |nil=>cases r;exact⟨rfl,q _ _ E t⟩
 |cons d ds=>exact t.elim)
def dF{g:DG}{gs:DGs}(h1:PDG X e g)(h2:PGs X es (nR gs))(hs:(assignEach (e::es) X.env).map (·.2)=assign e X.env::(assignEach es X.env).map (·.2):=by rfl):PGs X (e::es) (nR (rG g gs)):=PGs.wk (BK h1 h2 hs) (by
 rintro v σ H Q ⟨p,H0,own,ρ,k,ds,P,E,r,t,q⟩
 cases r with
 |nil=>exact t.elim
 |cons r rs =>
  exact⟨_,_,rfl,p,H0,own,ρ,_,_,_,E,jN r,t,λσ' ρ' E' t'=>⟨p,H0,own,ρ',k,_,P,E',rs,t',q⟩⟩)
def gTp(n:Nat)(gs:DGs):DG:=λk d ρ P=>match d with
 |.tuple ds=>ds.length=n/\gs k ds ρ P
 |_=>False
def iY{gs:DGs}{k n:Nat}(hc:X.calm=true)(h:PGs X es (nR gs))(hn:(assignEach es X.env).length=n:=by rfl)(hst:(assignEach es X.env).findIdx? (·.1)=none:=by rfl):PDG X (.Tuple es k pos) (gTp n gs):=PG.wk (Jo hc h hn hst) (by
 rintro v σ H Q ⟨p,H0,own,ρ,k,d,P,E,r,t,q⟩
 cases d with
 |tuple ds =>
  obtain⟨a,vs,rfl,ha,rs⟩:=r.dY
  exact⟨a,vs,rfl,SqT.of ha,by rw[rs.length];exact t.1,p,H0,own,ρ,k,ds,P,E,rs,t.2,q⟩
 |_=>exact t.elim)
end
structure Wlk(Ok:Hp->Prop)(J:It)(ds:List D)(ok:Addr->Prop):Prop where
 go:∀i H,Ok H->i<ds.length->J.go i H
 stop:∀H,Ok H->J.stop ds.length H
 yld:∀i H x H',Ok H->J.yld i H x H'->Same H H'/\∀d,ds[i]?=some d->Rp ok H' x d
 stab:∀H H',Ok H->(∀b o,ok b->H b=some o->H' b=some o)->(∀a xs,H a=some (.tup xs)->H' a=some (.tup xs))->Ok H'
abbrev DI:=List Sl->(Kd->List D->Prop)->Prop
def okA(p:Pn)(H0:Hp)(own:Addr->Option Nat)(Hb:Hp)(k:Kd)(H:Hp)(a:Addr):Prop:=okK p H0 own Hb k a/\∃o,H a=some o
def Du(t:DI):TI:=λσ H R=>∃p H0 own ρ P,EnvD p H0 own σ H ρ/\t ρ P/\∀k ds J H1 Ok,P k ds->At p H0 own H H1->Wlk Ok J ds (okA p H0 own H k H1)->Ok H1->R J H1
abbrev PDI(X:Cx)(tg e:Expr)(t:DI):Prop:=PI X tg e (Du t)
def PI.wk{X:Cx}{tg e:Expr}{t t':TI}(h:PI X tg e t)(w:∀σ H R,t' σ H R->t σ H R):PI X tg e t':=λpins s σ H R I q=>h pins s σ H R I (w σ H R q)
section
variable {X:Cx}{tg l:Expr}{tl:DE}{pos:Pos}{ta:DA}
def Ag{K:Ê}{ok:Addr->Prop}{a:Addr}{ds:List D}:Wlk (λH=>Rp ok H (.ref a) (.list ds)) (Itl K a) ds ok where
 go:=λi H r hi=>by
  obtain⟨b,vs,e,o,h,rs⟩:=r.cg
  cases e
  have:i<vs.length:=by rw[rs.length];exact hi
  exact⟨vs,vs[i],SqL.of h,by simp[this]⟩
 stop:=λH r=>by
  obtain⟨b,vs,e,o,h,rs⟩:=r.cg
  cases e
  exact⟨vs,SqL.of h,by rw[rs.length];exact Æ _⟩
 yld:=λi H x H' r y=>by
  obtain⟨rfl,y⟩:=y
  obtain⟨b,vs,e,o,h,rs⟩:=r.cg
  cases e
  refine⟨Same.refl _,λd hd=>?_⟩
  obtain⟨v,hv,rv⟩:=rs.getD hd
  have:=y vs (SqL.of h)
  rw[hv] at this
  cases this
  exact rv
 stab:=λH H' r f t=>r.cB (λa o n e=>⟨n,f a o n e⟩) t
def Ad{K:Ê}{ok:Addr->Prop}{a:Addr}{ds:List D}:Wlk (λH=>Rp ok H (.ref a) (.tuple ds)) (Itt K a) ds ok where
 go:=λi H r hi=>by
  obtain⟨b,vs,e,h,rs⟩:=r.dY
  cases e
  have:i<vs.length:=by rw[rs.length];exact hi
  exact⟨vs,vs[i],SqT.of h,by simp[this]⟩
 stop:=λH r=>by
  obtain⟨b,vs,e,h,rs⟩:=r.dY
  cases e
  exact⟨vs,SqT.of h,by rw[rs.length];exact Æ _⟩
 yld:=λi H x H' r y=>by
  obtain⟨rfl,y⟩:=y
  obtain⟨b,vs,e,h,rs⟩:=r.dY
  cases e
  refine⟨Same.refl _,λd hd=>?_⟩
  obtain⟨v,hv,rv⟩:=rs.getD hd
  have:=y vs (SqT.of h)
  rw[hv] at this
  cases this
  exact rv
 stab:=λH H' r f t=>r.cB (λa o n e=>⟨n,f a o n e⟩) t
def Ae{ok:Addr->Prop}{lo:Int}{n:Nat}:Wlk (λ_=>True) (Itr lo n) ((Ø n).map λi=>Â (lo+((i:Nat):Int))) ok where
 go:=λi H r hi=>by
  have h:i<n:=by simpa using hi
  exact h
 stop:=λH r=>by show n<=_;simp
 yld:=λi H x H' r y=>by
  obtain⟨rfl,rfl⟩:=y
  refine⟨Same.refl _,λd hd=>?_⟩
  rw[Þ] at hd
  cases h:(Ø n)[i]? with
  |none=>rw[h] at hd;cases hd
  |some j =>
   rw[h] at hd
   have e:=Ò hd
   have hj:j=i:=by
    have:=Ù.mp h
    obtain⟨h1,h2⟩:=this
    simpa using h2.symm
   subst e hj
   exact .int _
 stab:=λ_ _ _ _ _=>trivial
def rpA{p:Pn}{H0 Hb H:Hp}{own:Addr->Option Nat}{k:Kd}{v:V}{d:D}(r:Rp (okK p H0 own Hb k) H v d):Rp (okA p H0 own Hb k H) H v d:=r.cB (λa o n e=>⟨⟨n,o,e⟩,e⟩) λ_ _ e=>e
def iSq(tl:DE):DI:=λρ P=>tl ρ λk d=>match d with
 |.list ds=>P k ds
 |.tuple ds=>P k ds
 |_=>False
def dD(hl:PD X l tl):PDI X tg l (iSq tl):=PI.wk (vG hl) (by
 rintro σ H R ⟨p,H0,own,ρ,P,E,t,q⟩
 refine⟨p,H0,own,ρ,_,E,t,λk d v H1 h A r=>?_⟩
 cases d with
 |list ds =>
  obtain⟨a,vs,rfl,o,ha,rs⟩:=r.cg
  exact⟨a,rfl,.inl ⟨⟨vs,SqL.of ha⟩,q k ds _ H1 _ h A Ag (rpA r)⟩⟩
 |tuple ds =>
  obtain⟨a,vs,rfl,ha,rs⟩:=r.dY
  exact⟨a,rfl,.inr ⟨⟨vs,SqT.of ha⟩,q k ds _ H1 _ h A Ad (rpA r)⟩⟩
 |_=>exact h.elim)
def gA(lo:Int)(n:Nat):List D:=(Ø n).map λi=>Â (lo+((i:Nat):Int))
def iR1(ta:DA):DI:=λρ P=>ta ρ λks=>match ks with
 |[(_,.int j)]=>(-(2 ^ 62)<=j/\j<2 ^ 62)/\P .imm (gA 0 j.toNat)
 |_=>False
def cW{a:Expr}{ps:Pos}(hm:X.mg "range"=none)(ha:PDA X [a] ta)(hg:Gl X "range":=by rfl)(hs:starEach [a] X.env=[(false,eval a X.env)]:=by rfl):PDI X tg (.Call (.Name "range" ps) [a] [] pos) (iR1 ta):=PI.wk (yE hg hm ha hs) (by
 rintro σ H R ⟨p,H0,own,ρ,P,E,t,q⟩
 refine⟨p,H0,own,ρ,_,E,t,λks vs H1 h A r=>?_⟩
 split at h
 ·rename_i k j
  obtain⟨v,rfl,r'⟩:=fB r
  exact⟨j,by rw[r'.int'],h.1.1,h.1.2,q _ _ _ H1 _ h.2 A Ae trivial⟩
 ·exact h.elim)
end
variable [Gr]
def elK:Kd->Kd
 |.new=>.snw
 |k=>k
section
variable {X:Cx}{tg iter:Expr}{pos:Pos}{body:List Stmt}{ti:DI}{g:DG}{tb:DS}
def K7(ti:DI)(g:DG)(tb:DS):DS:=λP ρ=>ti ρ λk ds=>k.le .shr=true/\∃Iv:Nat->List Sl->Prop,Iv 0 ρ /\
 (∀i d ρ',ds[i]?=some d->Iv i ρ'->g (norm (elK k) d) d ρ' λρ2=>tb { nx:=Iv (i+1),ct:=Iv (i+1),bk:=P.nx,rt:=P.rt } ρ2)/\∀ρ',Iv ds.length ρ'->P.nx ρ'
def Ni{p:Pn}{H0 Hb H1 H':Hp}{own own':Addr->Option Nat}{k:Kd}(hk:k.le .shr=true)(A:At p H0 own Hb H1)(F:FrS p own H1 own' H'){v:V}{d:D}{H2:Hp}(r:Rp (okA p H0 own Hb k H1) H2 v d):Rp (okB p H0 own' (elK k)) H2 v d:=by
 refine r.mono (λa n=>?_) (λ_ _ _ e=>e) λ_ _ e=>e
 obtain⟨o,u,hu⟩:=n
 have o2:¬p.fp a/\own a=none:=dh A (k:=.shr) hk o
 have f:=(F.keep a u hu o2.1 o2.2).2
 cases k with
 |imm=>exact o
 |new=>exact⟨A.h0 o,o2.1,f⟩
 |reg q=>cases hk
 |n0=>cases hk
 |snw=>exact⟨o.1,o2.1,f⟩
 |shr=>exact⟨o2.1,f⟩
 |wk=>cases hk
def iW(hp:PassesOwn (model X.prog X.w) X.A X.env X.xe)(hc:X.calm=true)(hi:PDI X tg iter ti)(hg:PDG X tg g)(hb:oR X body tb)(hs:zF X iter:=by intro _;rfl):PDS X (.For tg iter body [] pos) (K7 ti g tb):=PS.wk' (vC hp hc hi hg hb hs) (by
 rintro Q σ H ⟨p,H0,own,ρ,P,E,t,w⟩
 refine⟨p,H0,own,ρ,_,E,t,λk ds J H1 Ok h A W o1=>?_⟩
 obtain⟨hk,Iv,i0,step,done⟩:=h
 have w1:=w.go A.frs
 have okS:∀own' H',FrS p own H1 own' H'->Ok H':=λown' H' F=>W.stab H1 H' o1 (λb o n e=>by
  have o2:¬p.fp b/\own b=none:=dh A (k:=.shr) hk n.1
  exact(F.keep b o e o2.1 o2.2).1) F.tup
 refine⟨λi m σ' H'=>m=ds.length - i/\i<=ds.length/\∃own' ρ',EnvD p H0 own' σ' H' ρ'/\FrS p own H1 own' H'/\Iv i ρ',⟨_,rfl,û _,own,ρ,E.go A.kp A.pen,FrS.refl,i0⟩,?_⟩
 rintro i m σ' H' ⟨rfl,hi,own',ρ',E',F',iv⟩
 have oH:=okS own' H' F'
 by_cases hlt:i<ds.length
 ·refine .inr ⟨W.go i H' oH hlt,λσ2 H2=>∃own' ρ',EnvD p H0 own' σ2 H2 ρ'/\FrS p own H1 own' H2/\Iv (i+1) ρ',λσ2 H2 h=>⟨_,by omega,rfl,hlt,h⟩,λx H2 y=>?_⟩
  obtain⟨sm,rx⟩:=W.yld i H' x H2 oH y
  have rx:=rx ds[i] (Õ hlt)
  have E2:EnvD p H0 own' σ' H2 ρ':=E'.go (Kp.of sm) (p.mono H' H2 E'.pen λb o _ e=>sm b o e)
  have F2:FrS p own H1 own' H2:=⟨λb o e n z=>let ⟨x,y⟩:=F'.keep b o e n z;⟨sm b o x,y⟩,λa xs e=>sm a _ (F'.tup a xs e)⟩
  refine⟨p,H0,own',ρ',_,_,_,E2,jN (Ni hk A F2 rx),step i ds[i] ρ' (Õ hlt) iv,λσ3 ρ3 E3 t3=>?_⟩
  have nxt:∀own4 σ4 H4 ρ4,EnvD p H0 own4 σ4 H4 ρ4->FrS p own' H2 own4 H4->Iv (i+1) ρ4->∃own' ρ',EnvD p H0 own' σ4 H4 ρ'/\FrS p own H1 own' H4/\Iv (i+1) ρ':=λown4 σ4 H4 ρ4 E4 F4 v4=>⟨own4,ρ4,E4,F2.trans F4,v4⟩
  exact⟨p,H0,own',ρ3,_,E3,t3,⟨nxt,w.rt,λo s h r e f n=>w1.nx o s h r e (F2.trans f) n,nxt⟩⟩
 ·have e:i=ds.length:=by omega
  subst e
  exact .inl ⟨W.stop H' oH,w1.nx own' σ' H' ρ' E' F' (done ρ' iv)⟩)
def Ez(tc:DT)(tb:DS):DS:=λP ρ=>∃Iv:Nat->List Sl->Prop,(∃m,Iv m ρ)/\∀m ρ',Iv m ρ'->tc ρ' λb =>
 if b=true then tb { nx:=λρ2=>∃m',m'<m/\Iv m' ρ2,ct:=λρ2=>∃m',m'<m/\Iv m' ρ2,bk:=P.nx,rt:=P.rt } ρ' else P.nx ρ'
def oA{c:Expr}{tc:DT}(hp:PassesOwn (model X.prog X.w) X.A X.env X.xe)(hc:PDT X c tc)(hb:oR X body tb):PDS X (.While c body [] pos) (Ez tc tb):=PS.wk' (Bv hp hc hb) (by
 rintro Q σ H ⟨p,H0,own,ρ,P,E,⟨Iv,⟨m,i0⟩,step⟩,w⟩
 refine⟨λm σ' H'=>∃own' ρ',EnvD p H0 own' σ' H' ρ'/\FrS p own H own' H'/\Iv m ρ',⟨m,own,ρ,E,FrS.refl,i0⟩,?_⟩
 rintro m σ1 H1 ⟨own1,ρ1,E1,F1,iv⟩
 refine⟨p,H0,own1,ρ1,_,E1,step m ρ1 iv,λb H2 h A=>?_⟩
 have F2:=F1.trans A.frs
 cases b with
 |true =>
  refine bw ⟨λσ' H'=>∃m',m'<m/\∃own' ρ',EnvD p H0 own' σ' H' ρ'/\FrS p own H own' H'/\Iv m' ρ',λσ' H' h=>h,?_⟩
  have nxt:∀own4 σ4 H4 ρ4,EnvD p H0 own4 σ4 H4 ρ4->FrS p own1 H2 own4 H4->(∃m',m'<m/\Iv m' ρ4)->∃m',m'<m/\∃own' ρ',EnvD p H0 own' σ4 H4 ρ'/\FrS p own H own' H4/\Iv m' ρ':=λown4 σ4 H4 ρ4 E4 F4 ⟨m',hm,v4⟩=>⟨m',hm,own4,ρ4,E4,F2.trans F4,v4⟩
  exact⟨p,H0,own1,ρ1,{ nx:=λρ2=>∃m',m'<m/\Iv m' ρ2,ct:=λρ2=>∃m',m'<m/\Iv m' ρ2,bk:=P.nx,rt:=P.rt },E1.go A.kp A.pen,by simpa using h,⟨nxt,w.rt,λo s h r e f n=>w.nx o s h r e (F2.trans f) n,nxt⟩⟩
 |false=>exact cI (w.nx own1 σ1 H2 ρ1 (E1.go A.kp A.pen) F2 (by simpa using h)))
end
def EnvD.comp{p:Pn}{H0 H:Hp}{own:Addr->Option Nat}{σ:L2.St}{ρ:List Sl}(n:Nat)(E:EnvD p H0 own σ H ρ):EnvD p H0 own (È n none++σ) H (È n .any++ρ):=by
 refine⟨E.k0,E.pen,E.ow,λj s e=>?_,by simp[E.len],E.gr⟩
 by_cases hj:j<n
 ·rw[ü (by simpa using hj)] at e
  have:s=.any:=by
   rw[ę] at e
   rw[if_pos hj] at e
   exact(Ò e).symm
  subst this
  trivial
 ·have e1:(È n Sl.any++ρ)[j]?=ρ[j - n]?:=by rw[ê (by simpa using hj)];simp
  have e2:(È n (none:Option V)++σ)[j]?=σ[j - n]?:=by rw[ê (by simpa using hj)];simp
  rw[e1] at e
  have q:=E.slot _ s e
  cases s <;> simp only[gU,e2] at q ⊢ <;> exact q
abbrev Hu(X:Cx)(es:List Expr)(t:DT):Prop:=PTs X es (liftT t)
def bN{X:Cx}:Hu X [] (λ_ P=>P true):=λpins s σ H Q I h=>by
 obtain⟨p,H0,own,ρ,P,E,t,q⟩:=h
 exact Ga pins s σ H Q I (q true H t E.at)
def elC(k:Kd):Kd:=elK k
def dLC(n:Nat)(ti:DI)(g:DG)(tt:DT)(te:DE):DE:=λρ P=>ti ρ λk ds=>ds.length<=1000/\∃(ke:Kd) (Iv:Nat->List D->Prop),Iv 0 [] /\
 (∀i d ys,ds[i]?=some d->Iv i ys->g (norm (elC k) d) d (È n .any++ρ) λρ'=>tt ρ' λb=>if b=true then te ρ' λk' d'=>(norm k' d').le ke=true/\Iv (i+1) (ys++[d']) else Iv (i+1) ys) /\
 ∀ys,Iv ds.length ys->P (ke.join .new) (.list ys)
def Nh{p:Pn}{H0 Hb H1:Hp}{own:Addr->Option Nat}{k:Kd}(A:At p H0 own Hb H1){v:V}{d:D}{H2:Hp}(r:Rp (okA p H0 own Hb k H1) H2 v d):Rp (okB p H0 own (elC k)) H2 v d:=by
 refine r.mono (λa n=>?_) (λ_ _ _ e=>e) λ_ _ e=>e
 obtain⟨o,u,hu⟩:=n
 cases k with
 |imm=>exact o
 |new=>exact⟨A.h0 o,A.nfb o,A.Jx o⟩
 |reg q=>exact o
 |n0=>trivial
 |snw=>exact o
 |shr=>exact o
 |wk=>trivial
section
variable {X:Cx}{own:List Str}{scope:Scope}{tg iter elt:Expr}{ifs:List Expr}{pos:Pos}{ti:DI}{g:DG}{tt:DT}{te:DE}
def w6{n:Nat}:∀σ H Q,cV (dLC n ti g tt te) σ H Q->tLC n (Du ti) (λ_=>Ib g) (λ_=>liftT tt) (λ_=>cV te) σ H Q:=by
 rintro σ H Q ⟨p,H0,own,ρ,P,E,t,q⟩
 refine⟨p,H0,own,ρ,_,E,t,λk ds J H1 Ok h A W o1=>?_⟩
 obtain⟨hlen,ke,Iv,i0,step,done⟩:=h
 have okS:∀H',Kp p H1 H'->p.PI H'->Ok H':=λH' K i=>W.stab H1 H' o1 (λb o n e=>K b o e (jW A n.1)) (jB A K)
 refine⟨λi m ys H'=>m=ds.length - i/\i<=ds.length/\Kp p H1 H'/\p.PI H'/\∃es,Rps (okK p H0 own H ke) H' ys es/\es.length<=i/\Iv i es,⟨_,rfl,û _,Kp.refl,A.pen,[],.nil,Æ _,i0⟩,?_⟩
 rintro c i m ys H' ⟨rfl,hi,K',I',es,rs,hl,iv⟩
 have oH:=okS H' K' I'
 have A':=A.go K' I'
 have h24:=ì
 by_cases hlt:i<ds.length
 ·refine .inr ⟨W.go i H' oH hlt,by have:=rs.length;omega,λys' H2=>Kp p H1 H2/\p.PI H2/\∃es,Rps (okK p H0 own H ke) H2 ys' es/\es.length<=i+1/\Iv (i+1) es,λys' H2 h=>⟨_,by omega,rfl,hlt,h⟩,λx H2 y=>?_⟩
  obtain⟨sm,rx⟩:=W.yld i H' x H2 oH y
  have rx:=rx ds[i] (Õ hlt)
  have I2:p.PI H2:=p.mono H' H2 I' λb o _ e=>sm b o e
  have K2:Kp p H1 H2:=K'.trans (Kp.of sm)
  have A2:=A.go K2 I2
  have E2:EnvD p H0 own σ H2 ρ:=E.go A2.kp A2.pen
  have rs2:=cY A' (Kp.of sm) rs
  refine⟨p,H0,own,_,_,_,_,E2.comp n,jN (Nh A rx),step i ds[i] es (Õ hlt) iv,λσ3 ρ3 E3 t3=>?_⟩
  refine⟨p,H0,own,ρ3,_,E3,t3,λb H4 h4 A4=>?_⟩
  have A5:At p H0 own H H4:=A2.base A4
  have rs4:=cY A2 A4.kp rs2
  cases b with
  |true =>
   refine bw ⟨p,H0,own,ρ3,_,E3.go A4.kp A4.pen,by simpa using h4,λk' d' v H6 h6 A6 r6=>?_⟩
   refine⟨(K2.trans A4.kp).trans A6.kp,A6.pen,es++[d'],(cY A5 A6.kp rs4).snoc (gW (A5.base A6) h6.1 (bB (lZ A5 r6))),by simp;omega,h6.2⟩
  |false=>exact cI ⟨K2.trans A4.kp,A4.pen,es,rs4,by omega,by simpa using h4⟩
 ·have e:i=ds.length:=by omega
  subst e
  refine .inl ⟨W.stop H' oH,λl hl'=>?_⟩
  obtain⟨k7,i7,nw⟩:=A'.new hl' (.lst ys)
  have j:=dB ke .new
  refine q _ _ _ _ (done es iv) (A'.go k7 i7) (.lst (dh A' j.2 nw) aA ?_)
  exact(cY A' k7 rs).mono (λa o=>dh A' j.1 o) (λ_ _ _ e=>e) λ_ _ e=>e
def cZ(own:List Str)(hc:X.calm=true)(hi:PDI X tg iter ti)(hg:∀c,PDG (X.comp own scope c) tg g)(ht:∀c,Hu (X.comp own scope c) ifs tt)(he:∀c,PD (X.comp own scope c) elt te)(hk:gb X.env scope X.N=true:=by rfl)(hs:zF X iter:=by intro _;rfl) :
  PD X (.ListComp elt [⟨tg,iter,ifs,0⟩] scope pos) (dLC own.length ti g tt te):=PE.wk (MJ own hc hi hg ht he hk hs) w6
end
def cF(d:D):Sl:=if eZ d then .im d else .sh d
def jk{p:Pn}{H:Hp}{N:List Str}{vs:List V}{ds:List D}(g:Gr.G p H)(hp:p.PI H)(r:Rps (λa=>¬p.fp a) H vs ds):EnvD p H (λ_=>none) (L2.start N vs) H (ds.map cF++È (N.length - vs.length) .any):=by
 refine⟨λ_ _ e _=>e,hp,(λ_ _ e=>nomatch e),λj s e=>?_,by unfold L2.start;simp[r.length],g⟩
 by_cases hj:j<ds.length
 ·rw[ü (by simpa using hj),Þ] at e
  obtain⟨v,hv,rv⟩:=r.getD (Õ hj)
  rw[Õ hj] at e
  have e:=Ò e
  have hs:(L2.start N vs)[j]?=some (some v):=by
   unfold L2.start
   rw[ü (by rw[Á,r.length];exact hj),Þ,hv]
   rfl
  subst e
  unfold cF
  by_cases hi:eZ ds[j]=true
  ·rw[if_pos hi];exact⟨v,hs,rv.imm hi⟩
  ·rw[if_neg hi];exact⟨v,hs,rv.mono (λ_ o=>⟨o,rfl⟩) (λ_ _ _ e=>e) λ_ _ e=>e⟩
 ·rw[ê (by simpa using hj),ę] at e
  split at e
  ·cases e;trivial
  ·cases e
def wA{f:List D->(D->Prop)->Prop}{T:DS}{N:List Str}{vs:List V}{H:Hp}{Q:VK}{E:XK}(h:spD f vs H Q E)(body:∀ds P,f ds P->T { nx:=λ_=>P .none,rt:=P } (ds.map cF++È (N.length - ds.length) .any))(g:Gr.G fM H:=by trivial):iT T { nx:=λ_ H'=>Q .non H',rt:=Q } (L2.start N vs) H:=by
 obtain⟨ds,P,r,t,q⟩:=h
 have E:=jk (p:=fM) (N:=N) g trivial (r.mono (ok':=λa=>¬fM.fp a) (λ_ _ z=>z) (λ_ _ _ e=>e) λ_ _ e=>e)
 rw[r.length] at E
 have sm:∀H',(∀b o,H b=some o->¬fM.fp b->H' b=some o)->Same H H':=λH' k b o e=>k b o e λz=>z
 refine⟨fM,H,λ_=>none,_,_,E,body ds P t,⟨λo s h' r' e' _ n=>q _ _ h' n (sm h' e'.k0) .non,λd v h' n w=>q d v h' n (sm h' w.k0) (w.rp.mono (λ_ o=>o.1) (λ_ _ _ e=>e) λ_ _ e=>e),λ_ _ _ _ _ _ n=>n.elim,λ_ _ _ _ _ _ n=>n.elim⟩⟩
def KY{C:Pn->Prop}{f:List D->(D->Prop)->Prop}{T:DS}{N:List Str}{vs:List V}{H:Hp}{Q:VK}{E:XK}(h:spP C f vs H Q E)(body:∀ds P,f ds P->T { nx:=λ_=>P .none,rt:=P } (.pen C::(ds.map cF++È (N.length - (ds.length+1)) .any)))(g:∀p,Gr.G p H:=by intro _;trivial):iT T { nx:=λ_ H'=>Q .non H',rt:=Q } (L2.start N vs) H:=by
 obtain⟨p,vs',ds,P,c,rfl,pi,r,t,q⟩:=h
 have E0:=jk (p:=p) (N:=N.drop 1) (g p) pi r
 have E:EnvD p H (λ_=>none) (L2.start N (p.pv::vs')) H (.pen C::(ds.map cF++È (N.length - (ds.length+1)) .any)):=by
  refine⟨λ_ _ e _=>e,pi,(λ_ _ e=>nomatch e),λj s e=>?_,by unfold L2.start;simp[r.length],g p⟩
  cases j with
  |zero =>
   have e:=Ò e
   subst e
   exact⟨rfl,c⟩
  |succ j =>
   rw[Ż] at e
   have hl:N.length - (ds.length+1)=(N.drop 1).length - vs'.length:=by rw[r.length,ā];omega
   rw[hl] at e
   have q:=E0.slot j s e
   have es:(L2.start N (p.pv::vs'))[j+1]?=(L2.start (N.drop 1) vs')[j]?:=by
    unfold L2.start
    have:N.length - (p.pv::vs').length=(N.drop 1).length - vs'.length:=by rw[ā,ç];omega
    rw[this]
    simp
   cases s <;> simp only[gU,es] at q ⊢ <;> exact q
 have nw:∀{H' v d},RPost p H H' v d->Rp (λa=>H a=none) H' v d:=λw=>w.rp.mono (λ_ o=>o.1) (λ_ _ _ e=>e) λ_ _ e=>e
 exact⟨p,H,λ_=>none,_,_,E,body ds P t,⟨λo s h' r' e' _ n=>q _ _ h' n e'.k0 e'.pen .non,λd v h' n w=>q d v h' n w.k0 w.pen (nw w),λ_ _ _ _ _ _ n=>n.elim,λ_ _ _ _ _ _ n=>n.elim⟩⟩
end Dl
namespace PySem
open PyProof.Rows
abbrev Lg(f0:Value)(q:Bool)(TI TO:Addr):Obj:={ cls:=.type "zip",data:=.fields #[f0,.bool q,.bool false,.ref TI,.ref TO] }
section
variable {prog:Program}{w:World}{A:Around}{E:Value->Shared->Prop}{s:Shared}
structure ZSt(z TI TO i1 i2 l1 l2:Addr)(xs ys:Array Value)(i:Nat)(h:Heap):Prop where
 zip:(i=0/\h.get? z=some (Lg .none false TI TO))\/∃(T:Addr) (q:Bool) (oT:Obj),h.get? z=some (Lg (rawInt T) q TI TO)/\h.get? T=some oT/\T≠z/\T≠i1/\T≠i2
 ti:h.get? TI=some { cls:=.type "tuple",data:=.seq #[.ref i1,.ref i2] }
 to:∃a b,h.get? TO=some { cls:=.type "tuple",data:=.seq #[a,b] }
 j1:h.IsListIter i1 l1 i
 j2:h.IsListIter i2 l2 i
 e1:h.IsList l1 xs
 e2:h.IsList l2 ys
variable {z TI TO i1 i2 l1 l2:Addr}{xs ys:Array Value}
end
section
variable {prog:Program}{w:World}{A:Around}{z TI TO i1 i2 l1 l2:Addr}{xs ys:Array Value}{R:Result->Shared->Prop}
end
end PySem
namespace L2
open PySem PySem.Spec PyProof.Rows
section
variable {X:Cx}{pins:List (Addr×Obj)}{σ:L2.St}{H:Hp}{s:Shared}
end
end L2
namespace Dl
open PySem L2 PyProof.Rows
variable [Gr]
section
variable {X:Cx}{pos:Pos}{a b c e:Expr}{es:List Expr}{ta tb tc te:DE}{t:DA}
def newP(k:Kd)(ds:List D)(P:Kd->Prop):Prop:=(cC ds=true/\P .new)\/P (k.join .new)
def mH{p:Pn}{H0 Hb H H2:Hp}{own:Addr->Option Nat}(A:At p H0 own Hb H){k:Kd}{vs:List V}{ds:List D}{P:Kd->Prop}{l:Addr}(r:Rps (okK p H0 own Hb k) H2 vs ds)(nw:okK p H0 own Hb .new l)(hl:H2 l=some (.lst vs))(h:newP k ds P):∃k',P k'/\Rp (okK p H0 own Hb k') H2 (.ref l) (.list ds):=by
 rcases h with ⟨i,h⟩|h
 ·exact⟨_,h,.lst nw hl ((Rps.imm r i).mono (λ_ o=>o.elim) (λ_ _ _ e=>e) λ_ _ e=>e)⟩
 ·exact⟨_,h,.lst (dh A (dB k .new).2 nw) hl (r.mono (λa o=>dh A (dB k .new).1 o) (λ_ _ _ e=>e) λ_ _ e=>e)⟩
def bC:∀l:List Int,cC (l.map Â)=true
 |[]=>rfl
 |x::l=>by
  show(eZ (.int x)&&cC (l.map Â))=true
  rw[bC l]
  rfl
def jj:∀l:List Tie,cC (l.map pD)=true
 |[]=>rfl
 |x::l=>by
  show(eZ (pD x)&&cC (l.map pD))=true
  rw[jj l]
  rfl
def prD(p:D×D):D:=.tuple [p.1,p.2]
def Py:GC:=λks P=>match ks with
 |[(k1,.list ds),(k2,.list es)]=>ds.length<=1000/\newP (k1.join k2) ((ds.zip es).map prD) λk=>P k (.list ((ds.zip es).map prD))
 |_=>False
def tCh(f g:Int->Int->Bool)(ta tb tc:DE):DE:=λρ P=>ta ρ λ_ d1=>tb ρ λ_ d2=>match d1,d2 with
 |.int i,.int j=>if f i j=true then tc ρ λ_ d3=>(match d3 with
   |.int l=>P .imm (.bool (g j l))
   |_=>False) else P .imm (.bool false)
 |_,_=>False
def GZ{f g:Int->Int->Bool}:∀σ H Q,cV (tCh f g ta tb tc) σ H Q->Av (rI0 λi j=>.bl (f i j)) (rI0 λi j=>.bl (g i j)) (cV ta) (cV tb) (cV tc) σ H Q:=by
 rintro σ H Q ⟨p,H0,own,ρ,P,E,t,q⟩
 refine⟨p,H0,own,ρ,_,E,t,λk1 d1 v1 H1 t1 A1 r1=>?_⟩
 refine⟨p,H0,own,ρ,_,E.go A1.kp A1.pen,t1,λk2 d2 v2 H2 t2 A2 r2=>?_⟩
 have A:=A1.base A2
 split at t2
 ·rename_i i j
  refine⟨i,j,r1.int',r2.int',_,rfl,?_⟩
  cases hf:f i j with
  |true =>
   rw[hf,if_pos rfl] at t2
   refine bw ⟨p,H0,own,ρ,_,(E.go A1.kp A1.pen).go A2.kp A2.pen,t2,λk3 d3 v3 H3 t3 A3 r3=>?_⟩
   cases d3 with
   |int l=>exact⟨j,l,r2.int',r3.int',q _ _ _ _ t3 (A.base A3) (.bl _)⟩
   |_=>exact t3.elim
  |false =>
   rw[hf,if_neg Î] at t2
   exact cI (q _ _ _ _ t2 A (.bl _))
 ·exact t2.elim
def Gk(ha:PD X a ta)(hb:PD X b tb)(hc:PD X c tc)(hm:lastMarks [.LtE,.Lt] [b,c]=false:=by with_unfolding_all rfl):PD X (.Compare a [.LtE,.Lt] [b,c] pos) (tCh (λi j=>decide (i<=j)) (λi j=>decide (i<j)) ta tb tc):=PE.wk (Ca M4 Cj ha hb hc hm) GZ
def Lr(ta:DE):DE:=λρ P=>ta ρ λ_ d=>match d with
 |.bool b=>P .imm (.bool (!b))
 |_=>False
def Ju(ha:PD X a ta):PD X (.UnaryOp .Not a pos) (Lr ta):=PE.wk (Jr ha) (by
 rintro σ H Q ⟨p,H0,own,ρ,P,E,t,q⟩
 refine⟨p,H0,own,ρ,_,E,t,λk d v H' h A r=>?_⟩
 cases d with
 |bool b=>exact⟨b,r.bl',q _ _ _ _ h A (.bl _)⟩
 |_=>exact h.elim)
def wN(ta tb:DE):DE:=λρ P=>ta ρ λ_ d=>match d with
 |.bool b=>if b=true then tb ρ P else P .imm (.bool false)
 |_=>False
def gH{op}(h:PD X a ta):PD X (.BoolOp op [a] pos) ta:=BL h
def fY{rest:List Expr}(ha:PD X a ta)(hb:PD X (.BoolOp .And (b::rest) pos) tb):PD X (.BoolOp .And (a::b::rest) pos) (wN ta tb):=PE.wk (Cd ha hb) (by
 rintro σ H Q ⟨p,H0,own,ρ,P,E,t,q⟩
 refine⟨p,H0,own,ρ,_,E,t,λk d v H' h A r=>?_⟩
 cases d with
 |bool b =>
  refine⟨b,r.bl',?_⟩
  cases b with
  |true=>exact bw ⟨p,H0,own,ρ,P,E.go A.kp A.pen,by simpa using h,λk d v H2 h2 A2 r2=>q k d v H2 h2 (A.base A2) (lZ A r2)⟩
  |false=>exact cI (q _ _ _ _ (by simpa using h) A (.bl _))
 |_=>exact h.elim)
def tyD:D->String
 |.none=>"NoneType"
 |.bool _=>"bool"
 |.int _=>"int"
 |.str _=>"str"
 |.list _=>"list"
 |.tuple _=>"tuple"
 |.dict _=>"dict"
def isT(c:String)(d:D):Bool:=tyD d == c || (c == "int"&&tyD d == "bool")
def tIs(c:String)(te:DE):DE:=λρ P=>te ρ λ_ d=>P .imm (.bool (isT c d))
def aV{T:String}{x:Str}{ps pt:Pos}(hk:∀t:Value,(t=.type "NoneType"\/t=.type "bool"\/t=.type "int"\/t=.type "str"\/t=.type "list"\/t=.type "tuple"\/t=.type "dict")->∃n,t=.type n/\Ĳ X.K t (.type T)=some (n == T || (T == "int"&&n == "bool")))(hm:X.mg "isinstance"=none)(he:PD X e te)(hT:PE X (.Name x pt) (tC (.ty T)))(hg:Gl X "isinstance":=by rfl)(h1:starEach [e,.Name x pt] X.env=(false,eval e X.env)::starEach [.Name x pt] X.env:=by rfl)(h2:starEach [.Name x pt] X.env=(false,eval (.Name x pt) X.env)::starEach [] X.env:=by rfl)(hpl:(backTo pos (starEach [.Name x pt] X.env)).any (·.1)=false:=by rfl) :
  PD X (.Call (.Name "isinstance" ps) [e,.Name x pt] [] pos) (tIs T te):=PE.wk (bQ sy hg hm Ų (aF he (aF hT bA h2) h1) (by decide) (by decide) h1 hpl) (by
 rintro σ H Q ⟨p,H0,own,ρ,P,E,t,q⟩
 refine⟨p,H0,own,ρ,_,E,t,λk d v H' h A r=>?_⟩
 have fin:∀n,TyOf X.K H' v (.type n)->n=tyD d->∃x' c' t' b,[v,V.ty T]=[x',.ty c']/\TyOf X.K H' x' t'/\Ĳ X.K t' (.type c')=some b/\Q (.bl b) H':=λn ty en=>by
  obtain⟨n',e,hk'⟩:=hk (.type n) (by rw[en];cases d <;> simp[tyD])
  cases e
  refine⟨v,T,.type n,_,rfl,ty,hk',?_⟩
  rw[en]
  exact q _ _ _ _ h A (.bl _)
 show ∃x' c' t' b,_/\_
 cases r with
 |non=>exact fin _ .non rfl
 |bl b=>exact fin _ (.bl b) rfl
 |int i=>exact fin _ (.int i) rfl
 |str x=>exact fin _ (.str x) rfl
 |lst o hh rr=>exact fin _ (.lst hh) rfl
 |tup hh rr=>exact fin _ (.tup hh) rfl
 |dct o hh rr=>exact fin _ (.dK hh) rfl)
def xu{K:Ê}:∀t:Value,(t=.type "NoneType"\/t=.type "bool"\/t=.type "int"\/t=.type "str"\/t=.type "list"\/t=.type "tuple"\/t=.type "dict")->∃n,t=.type n/\Ĳ K t (.type "int")=some (n == "int" || ("int" == "int"&&n == "bool")):=by
 rintro t (rfl|rfl|rfl|rfl|rfl|rfl|rfl) <;> exact⟨_,rfl,rfl⟩
def iV{K:Ê}:∀t:Value,(t=.type "NoneType"\/t=.type "bool"\/t=.type "int"\/t=.type "str"\/t=.type "list"\/t=.type "tuple"\/t=.type "dict")->∃n,t=.type n/\Ĳ K t (.type "bool")=some (n == "bool" || ("bool" == "int"&&n == "bool")):=by
 rintro t (rfl|rfl|rfl|rfl|rfl|rfl|rfl) <;> exact⟨_,rfl,rfl⟩
def nY{K:Ê}:∀t:Value,(t=.type "NoneType"\/t=.type "bool"\/t=.type "int"\/t=.type "str"\/t=.type "list"\/t=.type "tuple"\/t=.type "dict")->∃n,t=.type n/\Ĳ K t (.type "list")=some (n == "list" || ("list" == "int"&&n == "bool")):=by
 rintro t (rfl|rfl|rfl|rfl|rfl|rfl|rfl) <;> exact⟨_,rfl,rfl⟩
def xr{K:Ê}:∀t:Value,(t=.type "NoneType"\/t=.type "bool"\/t=.type "int"\/t=.type "str"\/t=.type "list"\/t=.type "tuple"\/t=.type "dict")->∃n,t=.type n/\Ĳ K t (.type "str")=some (n == "str" || ("str" == "int"&&n == "bool")):=by
 rintro t (rfl|rfl|rfl|rfl|rfl|rfl|rfl) <;> exact⟨_,rfl,rfl⟩
def Ku:GC:=λks P=>match ks with
 |[(_,.list ds)]=>∃bs:List Bool,ds=bs.map ů/\P .imm (.bool (bs.all id))
 |_=>False
def Rps.bools{ok:Addr->Prop}{H:Hp}:∀{vs:List V}{bs:List Bool},Rps ok H vs (bs.map ů)->vs=bs.map V.bl
 |[],[],_=>rfl
 |_,b::bs,.cons h t=>by
  have e:=h.bl'
  subst e
  rw[Rps.bools t]
  rfl
def qZ{ps:Pos}(hc:X.calm=true)(hm:X.mg "all"=none)(hv:bootBuiltins "all"=some (.builtin "all"))(ha:PDA X [a] t)(hg:Gl X "all":=by rfl)(he:zS X a []:=by rfl)(hpl:zP X pos []:=by rfl):PD X (.Call (.Name "all" ps) [a] [] pos) (tCl Ku t) :=
 dg (zX hc) (by
  intro p H0 own Hb H vs ks P Q A r t q
  unfold Ku at t
  split at t
  ·obtain⟨bs,rfl,t⟩:=t
   obtain⟨v,rfl,r'⟩:=fB r
   obtain⟨x,xs,e1,o1,h1,rs1⟩:=Rp.cg r'
   subst e1
   have e2:=Rps.bools rs1
   subst e2
   exact⟨x,bs,rfl,SqL.of h1,q _ _ _ _ t Kp.refl A.pen (.bl _)⟩
  ·exact t.elim) hg hm hv ha (by decide) (by decide) he hpl
def gMM(f:Int->Int->Int):GC:=λks P=>match ks with
 |[(_,.int i),(_,.int j)]=>P .imm (.int (f i j))
 |_=>False
def qW{ps:Pos}(hc:X.calm=true)(hm:X.mg "max"=none)(ha:PDA X [a,b] t)(hg:Gl X "max":=by rfl)(he:starEach [a,b] X.env=(false,eval a X.env)::starEach [b] X.env:=by rfl)(hpl:(backTo pos (starEach [b] X.env)).any (·.1)=false:=by rfl):PD X (.Call (.Name "max" ps) [a,b] [] pos) (tCl (gMM λi j=>if j > i then j else i) t) :=
 dg (zU hc) (by
  intro p H0 own Hb H vs ks P Q A r t q
  unfold gMM at t
  split at t
  ·rename_i k i k' j
   obtain⟨v,w,rfl,r1,r2⟩:=Bj r
   rw[Rp.int' r1,Rp.int' r2]
   exact⟨i,j,rfl,q _ _ _ _ t Kp.refl A.pen (.int _)⟩
  ·exact t.elim) hg hm boot_max ha (by decide) (by decide) he hpl
def qT{ps:Pos}(hc:X.calm=true)(hm:X.mg "min"=none)(ha:PDA X [a,b] t)(hg:Gl X "min":=by rfl)(he:starEach [a,b] X.env=(false,eval a X.env)::starEach [b] X.env:=by rfl)(hpl:(backTo pos (starEach [b] X.env)).any (·.1)=false:=by rfl):PD X (.Call (.Name "min" ps) [a,b] [] pos) (tCl (gMM λi j=>if j<i then j else i) t) :=
 dg (zO hc) (by
  intro p H0 own Hb H vs ks P Q A r t q
  unfold gMM at t
  split at t
  ·rename_i k i k' j
   obtain⟨v,w,rfl,r1,r2⟩:=Bj r
   rw[Rp.int' r1,Rp.int' r2]
   exact⟨i,j,rfl,q _ _ _ _ t Kp.refl A.pen (.int _)⟩
  ·exact t.elim) hg hm boot_min ha (by decide) (by decide) he hpl
def Hh:GC:=λks P=>match ks with
 |[(k,.list ds)]=>newP k ds λk'=>P k' (.list ds)
 |[(k,.tuple ds)]=>newP k ds λk'=>P k' (.list ds)
 |_=>False
def gJ{ps:Pos}(hm:X.mg "list"=none)(ha:PDA X [a] t)(hg:Gl X "list":=by rfl)(he:zS X a []:=by rfl)(hpl:zP X pos []:=by rfl):PD X (.Call (.Name "list" ps) [a] [] pos) (tCl Hh t) :=
 jT rZ (by
  intro p H0 own Hb H vs ks P Q A r t q
  have fin:∀{k ds xs},Rps (okK p H0 own Hb k) H xs ds->newP k ds (λk'=>P k' (.list ds))->∀l,H l=none->Q (.ref l) (upd H l (.lst xs)):=λ{k ds xs} rs t l hl=>by
   obtain⟨k2,i2,nw⟩:=A.new hl (.lst xs)
   obtain⟨k',hk',rk'⟩:=mH A (cY A k2 rs) nw aA t
   exact q _ _ _ _ hk' k2 i2 rk'
  unfold Hh at t
  split at t
  ·obtain⟨v,rfl,r'⟩:=fB r
   obtain⟨x,xs,e1,o1,h1,rs1⟩:=Rp.cg r'
   subst e1
   exact⟨x,xs,rfl,.inl (SqL.of h1),fin rs1 t⟩
  ·obtain⟨v,rfl,r'⟩:=fB r
   obtain⟨x,xs,e1,h1,rs1⟩:=Rp.dY r'
   subst e1
   exact⟨x,xs,rfl,.inr (SqT.of h1),fin rs1 t⟩
  ·exact t.elim) hg hm boot_list ha (by decide) (by decide) he hpl
def Eb:GC:=λks P=>match ks with
 |[(k,.list ds)]=>P (norm k (.tuple ds)) (.tuple ds)
 |[(k,.tuple ds)]=>P (norm k (.tuple ds)) (.tuple ds)
 |_=>False
def dZ{ps:Pos}(hm:X.mg "tuple"=none)(ha:PDA X [a] t)(hg:Gl X "tuple":=by rfl)(he:zS X a []:=by rfl)(hpl:zP X pos []:=by rfl):PD X (.Call (.Name "tuple" ps) [a] [] pos) (tCl Eb t) :=
 jT pA (by
  intro p H0 own Hb H vs ks P Q A r t q
  unfold Eb at t
  split at t
  ·rename_i k ds
   obtain⟨v,rfl,r'⟩:=fB r
   obtain⟨x,xs,e1,o1,h1,rs1⟩:=Rp.cg r'
   subst e1
   refine⟨x,xs,rfl,.inl ⟨SqL.of h1,λl hl=>?_⟩⟩
   obtain⟨k2,i2,nw⟩:=A.new hl (.tup xs)
   exact q _ _ _ _ t k2 i2 (bB (.tup aA (cY A k2 rs1)))
  ·rename_i k ds
   obtain⟨v,rfl,r'⟩:=fB r
   obtain⟨x,xs,e1,h1,rs1⟩:=Rp.dY r'
   subst e1
   exact⟨x,xs,rfl,.inr ⟨SqT.of h1,q _ _ _ _ t Kp.refl A.pen (bB r')⟩⟩
  ·exact t.elim) hg hm boot_tuple ha (by decide) (by decide) he hpl
def rH:GC:=λks P=>match ks with
 |[(_,.list ds)]=>∃ns:List Int,ds=ns.map Â/\ns.length<64/\∀out:List Int,out.Perm ns->out.Pairwise (·<=·)->P .new (.list (out.map Â))
 |_=>False
def eN{ps:Pos}(hm:X.mg "sorted"=none)(ha:PDA X [a] t)(hg:Gl X "sorted":=by rfl)(he:zS X a []:=by rfl)(hpl:zP X pos []:=by rfl):PD X (.Call (.Name "sorted" ps) [a] [] pos) (tCl rH t) :=
 dg rY (by
  intro p H0 own Hb H vs ks P Q A r t q
  unfold rH at t
  split at t
  ·obtain⟨ns,rfl,hl,t⟩:=t
   obtain⟨v,rfl,r'⟩:=fB r
   obtain⟨x,xs,e1,o1,h1,rs1⟩:=Rp.cg r'
   subst e1
   have e2:=Rps.ints rs1
   subst e2
   refine⟨x,ns,rfl,SqL.of h1,hl,λl out hl' hp hs=>?_⟩
   obtain⟨k2,i2,nw⟩:=A.new hl' (.lst (out.map V.int))
   exact q _ _ _ _ (t out hp hs) k2 i2 (.lst nw aA (Rps.ofMap (λi=>.int i) out))
  ·exact t.elim) hg hm boot_sorted ha (by decide) (by decide) he hpl
def wg:GC:=λks P=>match ks with
 |[(_,d)]=>∃ts:List Tie,(d=.list (ts.map pD)\/d=.tuple (ts.map pD))/\ts.length<64/\(∀t∈ts,gj t)/\∀us:List Tie,us.Perm ts->us.Pairwise (λa b=>aH a<=aH b)->P .new (.list (us.map pD))
 |_=>False
def Rps.prs{ok:Addr->Prop}{H:Hp}:∀{vs:List V}{ts:List Tie},Rps ok H vs (ts.map pD)->Prs H vs ts
 |[],[],_=>.nil
 |_,t::ts,.cons h r=>by
  obtain⟨x,xs,e,hx,rs⟩:=Rp.dY h
  obtain⟨v1,v2,e2,q1,q2⟩:=Rps.two rs
  subst e e2
  rw[q1.int',q2.int'] at hx
  exact .cons ⟨x,rfl,hx⟩ (Rps.prs r)
def Prs.rps{ok:Addr->Prop}{H:Hp}:∀{vs:List V}{ts:List Tie},Prs H vs ts->Rps ok H vs (ts.map pD)
 |_,_,.nil=>.nil
 |_,_,.cons r t=>by
  obtain⟨x,e,hx⟩:=r
  subst e
  exact .cons (.tup hx (.cons (.int _) (.cons (.int _) .nil))) (Prs.rps t)
def eG{ps:Pos}(hm:X.mg "sorted"=none)(ha:PDA X [a] t)(hg:Gl X "sorted":=by rfl)(he:zS X a []:=by rfl)(hpl:zP X pos []:=by rfl):PD X (.Call (.Name "sorted" ps) [a] [] pos) (tCl wg t) :=
 dg rW (by
  intro p H0 own Hb H vs ks P Q A r t q
  unfold wg at t
  split at t
  ·obtain⟨ts,hd,hl,hn,t⟩:=t
   obtain⟨v,rfl,r'⟩:=fB r
   have fin:∀l ws us,H l=none->Prs H ws us->us.Perm ts->us.Pairwise (λa b=>aH a<=aH b)->Q (.ref l) (upd H l (.lst ws)):=λl ws us hl' pr hp hs=>by
    obtain⟨k2,i2,nw⟩:=A.new hl' (.lst ws)
    exact q _ _ _ _ (t us hp hs) k2 i2 (.lst nw aA (cY A k2 (Prs.rps pr)))
   rcases hd with rfl|rfl
   ·obtain⟨x,xs,e1,o1,h1,rs1⟩:=Rp.cg r'
    subst e1
    exact⟨x,xs,ts,rfl,.inl (SqL.of h1),Rps.prs rs1,hn,.inl hl,fin⟩
   ·obtain⟨x,xs,e1,h1,rs1⟩:=Rp.dY r'
    subst e1
    exact⟨x,xs,ts,rfl,.inr (SqT.of h1),Rps.prs rs1,hn,.inl hl,fin⟩
  ·exact t.elim) hg hm boot_sorted ha (by decide) (by decide) he hpl
end
variable [Gr]
section
variable {X:Cx}{pins:List (Addr×Obj)}{σ:L2.St}{H:Hp}{s:Shared}{ok:Addr->Prop}
mutual
def Rp.reads(I:Inv X pins σ H s):∀{v:V}{d:D}{u:Value},Rp ok H v d->RelV v u->d.canLay0=true->∃as,Reads s.heap u d as
 |_,_,_,.non,r,_=>by cases r;exact⟨_,.none⟩
 |_,_,_,.bl b,r,_=>by cases r;exact⟨_,.bool b⟩
 |_,_,_,.int i,r,_=>by obtain⟨t,rfl⟩:=r;exact⟨_,.int i t⟩
 |_,_,_,.str x,r,_=>by obtain⟨t,rfl⟩:=r;exact⟨_,.str x t⟩
 |_,_,_,.lst o h rs,r,c=>by
  cases r
  obtain⟨its,rv,pl,_⟩:=I.list (SqL.of h)
  obtain⟨as,ra⟩:=Rps.reads I rs rv (by simpa[PyData.canLay0] using c)
  obtain⟨ob,ho,hc,n,hd⟩:=pl.isList
  exact⟨_,.list ho hc hd (by simpa using ra)⟩
 |_,_,_,.tup h rs,r,c=>by
  cases r
  obtain⟨its,rv,pl,_⟩:=I.tuple (SqT.of h)
  obtain⟨as,ra⟩:=Rps.reads I rs rv (by simpa[PyData.canLay0] using c)
  obtain⟨ob,ho,hc,n,hd⟩:=pl
  exact⟨_,.tuple ho hc hd (by simpa using ra)⟩
 |_,_,_,.dct o h rs,r,c=>by simp[PyData.canLay0] at c
def Rps.reads(I:Inv X pins σ H s):∀{v:List V}{d:List D}{u:List Value},Rps ok H v d->Vals v u->Ĉ d=true->∃as,ReadsAll s.heap u d as
 |_,_,_,.nil,r,_=>by cases r;exact⟨[],.nil⟩
 |_,_,_,.cons h t,r,c=>by
  cases r with
  |cons a b =>
   simp only[Ĉ,â] at c
   obtain⟨as,ra⟩:=Rp.reads I h a c.1
   obtain⟨bs,rb⟩:=Rps.reads I t b c.2
   exact⟨_,.cons ra rb⟩
end
end
def okD(d:D):Bool:=d.canLay0&&decide (d.depth<=60)
section
variable {X:Cx}{pos:Pos}{a b e:Expr}{ta tb te:DE}
def Bs(K:Ê)(neg:Bool):R2:=λx y H Q=>∃ok ok' d e,Rp ok H x d/\Rp ok' H y e/\okD d=true/\okD e=true/\Q (.bl (if neg then !(Ũ d e) else Ũ d e)) H
def Cq(hu:X.A.units+64<cLine):OpR X (compareOp .Eq) (Bs X.K false):=by
 intro pins s σ H x y v u Q I rx ry h
 obtain⟨ok,ok',d,e,hd,he,cd,ce,q⟩:=h
 simp only[okD,â,decide_eq_true_eq] at cd ce
 obtain⟨as,ra⟩:=hd.reads I rx cd.1
 obtain⟨bs,rb⟩:=he.reads I ry ce.1
 exact SeqAt.compareEq_reads ra rb cd.1 ce.1 (by omega) ⟨.bl _,H,I,rfl,q⟩
def JD(hu:X.A.units+64<cLine):OpR X (compareOp .NotEq) (Bs X.K true):=by
 intro pins s σ H x y v u Q I rx ry h
 obtain⟨ok,ok',d,e,hd,he,cd,ce,q⟩:=h
 simp only[okD,â,decide_eq_true_eq] at cd ce
 obtain⟨as,ra⟩:=hd.reads I rx cd.1
 obtain⟨bs,rb⟩:=he.reads I ry ce.1
 exact SeqAt.compareNe_reads ra rb cd.1 ce.1 (by omega) ⟨.bl _,H,I,rfl,q⟩
def NK(neg:Bool):G2:=λ_ d1 _ d2 P=>okD d1=true/\okD d2=true/\P .imm (.bool (if neg then !(Ũ d1 d2) else Ũ d1 d2))
def HY{K:Ê}(neg:Bool):Ok2 (NK neg) (Bs K neg):=by
 intro p H0 own Hb H x y k1 d1 k2 d2 P Q A r1 r2 t q
 exact⟨_,_,d1,d2,r1,r2,t.1,t.2.1,q _ _ _ _ t.2.2 Kp.refl A.pen (.bl _)⟩
end
variable [Gr]
section
variable {X:Cx}{pos p2:Pos}{a b c e:Expr}{es:List Expr}{ta tb tc te:DE}{t:DA}{st:Stmt}
abbrev DO:=List Sl->(Option Int->Prop)->Prop
def uf(t:DO):TO:=λσ H Q=>∃p H0 own ρ P,EnvD p H0 own σ H ρ/\t ρ P/\∀o H',P o->At p H0 own H H'->Q o H'
def PO.wk{e:Option Expr}{t t':TO}(h:PO X e t)(w:∀σ H Q,t' σ H Q->t σ H Q):PO X e t':=λpins s σ H Q I q=>h pins s σ H Q I (w σ H Q q)
def CZ:DO:=λ_ P=>P none
def CW(te:DE):DO:=λρ P=>te ρ λ_ d=>match d with
 |.int i=>P (some i)
 |_=>False
def cJ:PO X none (uf CZ):=PO.wk qK (by
 rintro σ H Q ⟨p,H0,own,ρ,P,E,t,q⟩
 exact q _ _ t E.at)
def bO(h:PD X e te):PO X (some e) (uf (CW te)):=PO.wk (qJ h) (by
 rintro σ H Q ⟨p,H0,own,ρ,P,E,t,q⟩
 refine⟨p,H0,own,ρ,_,E,t,λk d v H' h A r=>?_⟩
 cases d with
 |int i=>exact⟨i,r.int',q _ _ h A⟩
 |_=>exact h.elim)
def cj{α:Type}(ds:List α)(lo hi:Option Int):List α:=(ds.drop (HT.sIx ds.length 0 lo)).take (HT.sIx ds.length ds.length hi - HT.sIx ds.length 0 lo)
def Rps.cut{ok:Addr->Prop}{H:Hp}{vs:List V}{ds:List D}(r:Rps ok H vs ds)(lo hi:Option Int):Rps ok H (jE vs lo hi) (cj ds lo hi):=by
 unfold jE cj
 rw[r.length]
 exact(r.drop _).take _
def Px(te:DE)(tl th:DO):DE:=λρ P=>te ρ λk d=>tl ρ λlo=>th ρ λhi=>match d with
 |.list ds=>newP k (cj ds lo hi) λk'=>P k' (.list (cj ds lo hi))
 |_=>False
def Ks:G2:=λk1 d1 k2 d2 P=>match d1,d2 with
 |.list ds,.list es=>ds.length+es.length<=1000/\newP (k1.join k2) (ds++es) λk=>P k (.list (ds++es))
 |_,_=>False
def Ng:Ok2 Ks Mw:=by
 intro p H0 own Hb H x y k1 d1 k2 d2 P Q A r1 r2 t q
 unfold Ks at t
 split at t
 ·obtain⟨c1,xs,e1,o1,h1,rs1⟩:=r1.cg
  obtain⟨c2,ys,e2,o2,h2,rs2⟩:=r2.cg
  subst e1 e2
  have h24:=ì
  refine⟨c1,c2,xs,ys,rfl,rfl,h1,h2,by rw[rs1.length,rs2.length];omega,λl hl=>?_⟩
  obtain⟨k3,i3,nw⟩:=A.new hl (.lst (xs++ys))
  have j:=dB k1 k2
  have m:∀{k vs ds},k.le (k1.join k2)=true->Rps (okK p H0 own Hb k) H vs ds->Rps (okK p H0 own Hb (k1.join k2)) H vs ds:=λhk z=>z.mono (λa o=>dh A hk o) (λ_ _ _ e=>e) λ_ _ e=>e
  obtain⟨k',hk',rk'⟩:=mH A (cY A k3 ((m j.1 rs1).app (m j.2 rs2))) nw aA t.2
  exact q _ _ _ _ hk' k3 i3 rk'
 ·exact t.elim
def Ei:G2:=λk1 d1 k2 d2 P=>match d1,d2 with
 |.tuple ds,.tuple es=>ds.length+es.length<=1000/\P (norm (k1.join k2) (.tuple (ds++es))) (.tuple (ds++es))
 |_,_=>False
def JM:Ok2 Ei HD:=by
 intro p H0 own Hb H x y k1 d1 k2 d2 P Q A r1 r2 t q
 unfold Ei at t
 split at t
 ·obtain⟨c1,xs,e1,h1,rs1⟩:=r1.dY
  obtain⟨c2,ys,e2,h2,rs2⟩:=r2.dY
  subst e1 e2
  have h24:=ì
  refine⟨c1,c2,xs,ys,rfl,rfl,h1,h2,by rw[rs1.length,rs2.length];omega,λl H' sm hl=>?_⟩
  have K:Kp p H H':=Kp.of sm
  have j:=dB k1 k2
  have m:∀{k vs ds},k.le (k1.join k2)=true->Rps (okK p H0 own Hb k) H vs ds->Rps (okK p H0 own Hb (k1.join k2)) H vs ds:=λhk z=>z.mono (λa o=>dh A hk o) (λ_ _ _ e=>e) λ_ _ e=>e
  exact q _ _ _ _ t.2 K (p.mono H H' A.pen λb o _ e=>sm b o e) (bB (.tup hl (cY A K ((m j.1 rs1).app (m j.2 rs2)))))
 ·exact t.elim
def Lx(ta:DE):DE:=λρ P=>ta ρ λ_ d=>match d with
 |.int i=>P .imm (.int (-i))
 |_=>False
def qQ(ha:PD X a ta):PD X (.UnaryOp .USub a pos) (Lx ta):=PE.wk (HJ Ai ha) (by
 rintro σ H Q ⟨p,H0,own,ρ,P,E,t,q⟩
 refine⟨p,H0,own,ρ,_,E,t,λk d v H' h A r=>?_⟩
 cases d with
 |int i=>exact⟨i,r.int',q _ _ _ _ h A (.int _)⟩
 |_=>exact h.elim)
def Pz(i:Nat)(te:DE):DS:=λP ρ=>match ρ[i]? with
 |some (.dw r (.list ds))=>te ρ λk d=>match d with
  |.list es=>(k.le .new || cC es)=true/\ds.length+es.length<=1000/\P.nx ((forget r ρ).set i (.dw r (.list (ds++es))))
  |_=>False
 |_=>False
def Gs{te:DE}{ρ:List Sl}{R:Kd->D->Prop}(t:te ρ R):dH te jF ρ (λks=>∃k d,ks=[(k,d)]/\R k d):=by
 show te ρ λk d=>∃k' d',[((k,d):Kd×D)]=[(k',d')]/\R k' d'
 have e:(λk d=>∃k' d',[((k,d):Kd×D)]=[(k',d')]/\R k' d')=R:=by
  funext k d
  apply propext
  constructor
  ·rintro⟨k',d',e,h⟩
   cases e
   exact h
  ·exact λh=>⟨k,d,rfl,h⟩
 rw[e]
 exact t
def N6(i:Nat)(tj te:DE):DS:=λP ρ=>match ρ[i]? with
 |some (.dw r (.list ds))=>tj ρ λ_ dj=>te ρ λk d=>match dj with
  |.int j=>(norm k d).le .new=true/\0<=j/\j.toNat<=ds.length/\ds.length<1000/\P.nx ((forget r ρ).set i (.dw r (.list (ds.take j.toNat++d::ds.drop j.toNat))))
  |_=>False
 |_=>False
def zx{i:Nat}{tj:DE}(h:PS X st (Aq (tBM X.K "list" wW (mQ i) (ju (dH tj (dH te jF)))))):PDS X st (N6 i tj te):=PS.wk' h (by
 rintro Q σ H ⟨p,H0,own,ρ,P,E,t,w⟩
 unfold N6 at t
 split at t
 ·rename_i r ds hr
  obtain⟨v,hv,x⟩:=E.slot i _ hr
  obtain⟨l,vs,rfl,hl,ho,rs⟩:=x.cg
  refine⟨.ref l,hv,.inl ⟨rfl,vs,SqL.of ho⟩,p,H0,own,ρ,λks=>∃k1 dj k d,ks=[(k1,dj),(k,d)]/\(match dj with
   |.int j=>(norm k d).le .new=true/\0<=j/\j.toNat<=ds.length/\ds.length<1000/\P.nx ((forget r ρ).set i (.dw r (.list (ds.take j.toNat++d::ds.drop j.toNat))))
   |_=>False),E,?_,?_⟩
  ·show tj ρ λk1 dj=>te ρ λk d=>∃k1' dj' k' d',[((k1,dj):Kd×D),(k,d)]=[(k1',dj'),(k',d')]/\_
   have e:∀(k1:Kd) (dj:D),(λk d=>∃k1' dj' k' d',[((k1,dj):Kd×D),(k,d)]=[(k1',dj'),(k',d')]/\(match dj' with
    |.int j=>(norm k' d').le .new=true/\0<=j/\j.toNat<=ds.length/\ds.length<1000/\P.nx ((forget r ρ).set i (.dw r (.list (ds.take j.toNat++d'::ds.drop j.toNat))))
    |_=>False))=λk d=>(match dj with
    |.int j=>(norm k d).le .new=true/\0<=j/\j.toNat<=ds.length/\ds.length<1000/\P.nx ((forget r ρ).set i (.dw r (.list (ds.take j.toNat++d::ds.drop j.toNat))))
    |_=>False):=λk1 dj=>by
    funext k d
    apply propext
    constructor
    ·rintro⟨k1',dj',k',d',e,h⟩
     cases e
     exact h
    ·exact λh=>⟨k1,dj,k,d,rfl,h⟩
   simp only[e]
   exact t
  ·rintro ks ws H1 ⟨k1,dj,k,d,rfl,hh⟩ A rk
   cases dj with
   |int j =>
    obtain⟨hk,h0,hj,hlen,hn⟩:=hh
    obtain⟨y1,y,rfl,ry1,ry⟩:=Bj rk
    have ry:=gW A hk (bB ry)
    have e1:=Rp.int' ry1
    have h1:H1 l=some (.lst vs):=A.kp l _ ho (E.ow l r hl).2.1
    have h24:=ì
    have l1:=rs.length
    refine⟨l,vs,j.toNat,y,rfl,?_,h1,by omega,by omega,?_⟩
    ·rw[e1]
     have:((j.toNat:Nat):Int)=j:=by omega
     rw[this]
    obtain⟨E2,F2⟩:=E.Bk (vs':=vs.take j.toNat++y::vs.drop j.toNat) (ds':=ds.take j.toNat++d::ds.drop j.toNat) A hv hl ho rs λH2 f g=>by
     have m:=qG f rs λd hd=>pI hd
     exact(m.take _).app (.cons (g ry) (m.drop _))
    exact w.nx _ σ _ _ E2 F2 hn
   |_=>exact hh.elim
 ·exact t.elim)
end
variable [Gr]
structure Cal(P:Program)(w:World)(K:Ê)(mg:Str->Option Value)(base:Heap)(k:Nat)(x:Str)(ps:List Str)(sp:Sp):Prop where
 ex:∃f fd,FnOk P w K mg base CX0 k f fd ps sp/\Binds K fd ps []/\ň K (.ref f)=true/\mg x=some (.ref f)
section
variable {X:Cx}{k j:Nat}{x:Str}{ps:List Str}{e:Expr}{es:List Expr}{t:DA}{p pos pq:Pos}
def pcS{sp:Sp}{ta:TA}(C:Cal X.prog X.w X.K X.mg X.base k x ps sp)(hr:Room j X.A)(ha:PA X (e::es) ta)(hk:k<=j)(hg:Gl X x)(hdb:zB x)(he:zS X e es)(hpl:zP X pos es) :
  PE X (.Call (.Name x p) (e::es) [] pos) (jK sp [] E0 ta):=by
 obtain⟨f,fd,F,b,kp,m⟩:=C.ex
 exact wY F (hr.mono hk) hg m kp b .nil MN ha hdb he hpl
def dc{f:List D->(D->Prop)->Prop}(C:Cal X.prog X.w X.K X.mg X.base k x ps (spD f))(hr:Room j X.A)(ha:PDA X (e::es) t)(hk:k<=j:=by decide)(hg:Gl X x:=by rfl)(hdb:zB x:=by decide)(he:zS X e es:=by rfl)(hpl:zP X pos es:=by rfl) :
  PD X (.Call (.Name x p) (e::es) [] pos) (tFn f t):=PE.wk (pcS C hr ha hk hg hdb he hpl) GX
def dcP{C:Pn->Prop}{i:Nat}{f:List D->(D->Prop)->Prop}{y:Str}{py:Pos}(CC:Cal X.prog X.w X.K X.mg X.base k x ps (spP C f))(hr:Room j X.A)(hi:PE X (.Name y py) (mQ i))(ha:PDA X es t)(hk:k<=j:=by decide)(hg:Gl X x:=by rfl)(hdb:zB x:=by decide)(he:starEach (.Name y py::es) X.env=(false,eval (.Name y py) X.env)::starEach es X.env:=by rfl)(hpl:zP X pos es:=by rfl) :
  PD X (.Call (.Name x p) (.Name y py::es) [] pos) (IW C f i t):=PE.wk (pcS CC hr (aF hi ha) hk hg hdb he hpl) Dr
def dv(i:Nat){x:Str}{pos:Pos}(hN:X.N[i]?=some x:=by rfl)(hv:Vis X.env.scope x:=by first|exact Ļ rfl|exact ź (Ļ rfl)|exact ź (ź rfl))(hd:zB x:=by decide)(hcd:(x == ("__classdict__":Str))=false:=by decide):PD X (.Name x pos) (tV i):=Jt (pv i hN hv hd hcd)
end
structure Bn(mg:Str->Option Value):Prop where
 isinstance:mg "isinstance"=none
 int:mg "int"=none
 bool:mg "bool"=none
 tuple:mg "tuple"=none
 list:mg "list"=none
 len:mg "len"=none
 all:mg "all"=none
 min:mg "min"=none
 max:mg "max"=none
 sorted:mg "sorted"=none
 range:mg "range"=none
 abs:mg "abs"=none
def boot_all:bootBuiltins "all"=some (.builtin "all"):=by decide +kernel
def boot_abs:bootBuiltins "abs"=some (.builtin "abs"):=by decide +kernel
def Ao{i:Nat}{ρ:List Sl}{d:D}{P:DK}(h:ρ[i]?=some (cF d))(q:∀k,P k d):tV i ρ P:=by
 unfold tV
 rw[h]
 unfold cF
 by_cases hi:eZ d=true
 ·rw[if_pos hi];exact q _
 ·rw[if_neg hi];exact q _
def cQ{f:List D->(D->Prop)->Prop}{n:Nat}(hn:∀ds P,f ds P->ds.length=n:=by intro _ _ h;repeat (first|(obtain⟨rfl,_⟩:=h;rfl)|obtain⟨_,h⟩:=h)):∀vs H Q E,spD f vs H Q E->vs.length=n:=λvs H Q E h=>by
 obtain⟨ds,P,r,t,_⟩:=h
 rw[r.length]
 exact hn ds P t
def fZ{f:List D->(D->Prop)->Prop}{T:DS}{N:List Str}{vs:List V}{H:Hp}{Q:VK}{E:XK}(h:spD f vs H Q E)(body:∀ds P,f ds P->∃ρ,ds.map cF++È (N.length - ds.length) .any=ρ/\T { nx:=λ_=>P .none,rt:=P } ρ)(g:Gr.G fM H:=by trivial):iT T { nx:=λ_ H'=>Q .non H',rt:=Q } (L2.start N vs) H :=
 wA h (λds P t=>by
  obtain⟨ρ,e,q⟩:=body ds P t
  rw[e]
  exact q) g
def bx(n:Int)(us:List Tie):D:=.tuple [.int n,.tuple (us.map pD)]
def ji(n:Int)(us:List Tie):eZ (bx n us)=true:=by
 show(eZ (.int n)&&(cC (us.map pD)&&true))=true
 rw[jj]
 rfl
def sE(n:Int)(us:List Tie):cF (bx n us)=.im (bx n us):=if_pos (ji n us)
def isW:D->Bool
 |.int _=>true
 |_=>false
def Ek(ds:List D)(P:D->Prop):Prop:=∃d,ds=[d]/\P (.bool (isW d))
def fj(m:Int):D->Bool
 |.int i=>decide (0<=i/\i<m)
 |_=>false
def Ep(ds:List D)(P:D->Prop):Prop:=∃m d,ds=[.int m,d]/\P (.bool (fj m d))
def enterQ{C:Pn->Prop}{f:List D->(D->Prop)->Prop}{T:DS}{N:List Str}{vs:List V}{H:Hp}{Q:VK}{E:XK}(h:spP C f vs H Q E)(body:∀ds P,f ds P->∃ρ,ds.map cF++È (N.length - (ds.length+1)) .any=ρ/\T { nx:=λ_=>P .none,rt:=P } (.pen C::ρ))(g:∀p,Gr.G p H:=by intro _;trivial):iT T { nx:=λ_ H'=>Q .non H',rt:=Q } (L2.start N vs) H :=
 KY h (λds P t=>by
  obtain⟨ρ,e,q⟩:=body ds P t
  rw[e]
  exact q) g
variable [Gr]
def Dk{α β:Type}{ds:List α}{i:Nat}{d:α}(f:α->β)(h:ds[i]?=some d):(ds.take (i+1)).map f=(ds.take i).map f++[f d]:=by
 rw[List.take_add_one,h,Đ]
 rfl
def GK{α β:Type}{l:List α}{g:α->β}{i:Nat}{d:β}(h:(l.map g)[i]?=some d):∃x,l[i]?=some x/\g x=d:=by
 rw[Þ] at h
 cases e:l[i]? with
 |none=>rw[e] at h;cases h
 |some x=>rw[e] at h;exact⟨x,rfl,Ò h⟩
def d9(lo:Int)(n:Nat):(gA lo n).length=n:=by unfold gA;simp
def pX{lo:Int}{n i:Nat}{d:D}(h:(gA lo n)[i]?=some d):i<n/\d=.int (lo+((i:Nat):Int)):=by
 unfold gA at h
 obtain⟨x,hx,e⟩:=GK h
 obtain⟨h1,h2⟩:=Ù.mp hx
 have h3:i<n:=by simpa using h1
 have h4:x=i:=by simpa using h2.symm
 subst h4
 exact⟨h3,e.symm⟩
variable [Gr]
section
variable {X:Cx}{pos p2:Pos}{a b e:Expr}{ta tb te:DE}
def Rps.rep{ok:Addr->Prop}{H:Hp}{vs:List V}{ds:List D}(r:Rps ok H vs ds):∀k:Nat,Rps ok H (È k vs).flatten (È k ds).flatten
 |0=>.nil
 |k+1=>by
  rw[ĉ,ĉ,Ķ,Ķ]
  exact r.app (Rps.rep r k)
def Kq:G2:=λk1 d1 _ d2 P=>match d1,d2 with
 |.list ds,.int k=>0<=k/\k<1000/\ds.length * k.toNat<=1000/\newP k1 (È k.toNat ds).flatten λk'=>P k' (.list (È k.toNat ds).flatten)
 |_,_=>False
def M8:Ok2 Kq Mt:=by
 intro p H0 own Hb H x y k1 d1 k2 d2 P Q A r1 r2 t q
 unfold Kq at t
 split at t
 ·rename_i ds k
  obtain⟨c1,xs,e1,o1,h1,rs1⟩:=r1.cg
  subst e1
  have h24:=ì
  refine⟨c1,k,xs,rfl,r2.int',h1,by omega,by omega,by rw[rs1.length];omega,λl hl=>?_⟩
  obtain⟨k3,i3,nw⟩:=A.new hl (.lst (È k.toNat xs).flatten)
  obtain⟨k',hk',rk'⟩:=mH A (cY A k3 (rs1.rep k.toNat)) nw aA t.2.2.2
  exact q _ _ _ _ hk' k3 i3 rk'
 ·exact t.elim
end
section
variable {X:Cx}{pos:Pos}{a:Expr}{t:DA}
variable [Gr]
end
variable [Gr]
section
variable {X:Cx}{pos:Pos}{a b e:Expr}{ta tb te:DE}
def LC(te:DE):DE:=λρ P=>te ρ λ_ d=>P .imm (.bool (tyD d == "list" || tyD d == "tuple"))
def J7{K:Ê}(d:D):W.kitAny K (.type (tyD d)) [.type "list",.type "tuple"]=some (tyD d == "list" || tyD d == "tuple"):=by
 cases d <;> rfl
def mG{x y:Str}{ps pt pt' pp:Pos}{kk:Nat}(hm:X.mg "isinstance"=none)(he:PD X e te)(hT:PE X (.Name x pt) (tC (.ty "list")))(hT':PE X (.Name y pt') (tC (.ty "tuple")))(hg:Gl X "isinstance":=by rfl)(h1:starEach [e,.Tuple [.Name x pt,.Name y pt'] kk pp] X.env=(false,eval e X.env)::starEach [.Tuple [.Name x pt,.Name y pt'] kk pp] X.env:=by rfl)(h2:starEach [.Tuple [.Name x pt,.Name y pt'] kk pp] X.env=(false,eval (.Tuple [.Name x pt,.Name y pt'] kk pp) X.env)::starEach [] X.env:=by rfl)(h3:starEach [.Name x pt,.Name y pt'] X.env=(false,eval (.Name x pt) X.env)::starEach [.Name y pt'] X.env:=by rfl)(h4:starEach [.Name y pt'] X.env=(false,eval (.Name y pt') X.env)::starEach [] X.env:=by rfl)(hpl:(backTo pos (starEach [.Tuple [.Name x pt,.Name y pt'] kk pp] X.env)).any (·.1)=false:=by rfl) :
  PD X (.Call (.Name "isinstance" ps) [e,.Tuple [.Name x pt,.Name y pt'] kk pp] [] pos) (LC te):=PE.wk (bQ su hg hm Ų (aF he (aF (vH (aF hT (aF hT' bA h4) h3)) bA h2) h1) (by decide) (by decide) h1 hpl) (by
 rintro σ H Q ⟨p,H0,own,ρ,P,E,t,q⟩
 refine⟨p,H0,own,ρ,_,E,t,λk d v H' h A r=>?_⟩
 refine⟨by show 2<=sizeLine;decide,λl hl=>?_⟩
 obtain⟨k2,i2,nw⟩:=A.new hl (.tup [.ty "list",.ty "tuple"])
 have r2:=mY A k2 r
 have fin:TyOf X.K (upd H' l (.tup [.ty "list",.ty "tuple"])) v (.type (tyD d))->∃x p c1 c2 t b,[v,V.ref l]=[x,.ref p]/\TyOf X.K (upd H' l (.tup [.ty "list",.ty "tuple"])) x t/\SqT X.K (upd H' l (.tup [.ty "list",.ty "tuple"])) p [.ty c1,.ty c2]/\W.kitAny X.K t [.type c1,.type c2]=some b/\Q (.bl b) (upd H' l (.tup [.ty "list",.ty "tuple"])):=λty =>
  ⟨v,l,"list","tuple",_,_,rfl,ty,SqT.of aA,J7 d,q _ _ _ _ h (A.go k2 i2) (.bl _)⟩
 show ∃x p c1 c2 t b,_/\_
 cases r2 with
 |non=>exact fin .non
 |bl b=>exact fin (.bl b)
 |int i=>exact fin (.int i)
 |str x=>exact fin (.str x)
 |lst o hh rr=>exact fin (.lst hh)
 |tup hh rr=>exact fin (.tup hh)
 |dct o hh rr=>exact fin (.dK hh))
end
variable [Gr]
section
variable {X:Cx}{pos:Pos}{a b e:Expr}{ta tb te:DE}
def JR:D->Bool
 |.none=>true
 |_=>false
def zj:G2:=λ_ d1 _ d2 P=>match d2 with
 |.none=>P .imm (.bool (JR d1))
 |_=>False
def FQ{ok:Addr->Prop}{H:Hp}{v:V}{d:D}(r:Rp ok H v d):decide (v=.non)=JR d:=by
 cases r <;> simp[JR]
def HX:Ok2 zj (λx y H Q=>y=.non/\Q (.bl (decide (x=.non))) H):=by
 intro p H0 own Hb H x y k1 d1 k2 d2 P Q A r1 r2 t q
 unfold zj at t
 split at t
 ·cases r2
  rw[FQ r1]
  exact⟨rfl,q _ _ _ _ t Kp.refl A.pen (.bl _)⟩
 ·exact t.elim
def vK(ha:PD X a ta)(hb:PD X b tb):PD X (.Compare a [.Is] [b] pos) (t2 zj ta tb):=qY Ck HX ha hb (dR _)
def qL(ha:PD X a ta)(hb:PD X b tb):PDT X (.Compare a [.Is] [b] pos) (jJ (t2 zj ta tb)):=mD Ck HX ha hb (dR _)
end
variable [Gr]
section
variable {X:Cx}{pos:Pos}{st:Stmt}
end
@[reducible] def grX(H:Hp):Gr:=⟨λp H0=>p=fM/\H0=H⟩
abbrev FX:=List D->(D->Prop)->(Value->Prop)->Prop
def spX(f:FX):Sp:=λvs H Q E=>∃ds P R,Rps (λ_=>True) H vs ds/\f ds P R/\(∀d v H',P d->Same H H'->Rp (λa=>H a=none) H' v d->Q v H')/\∀c H',R c->Same H H'->E c none H'
def Rz(E:XK)(H:Hp):Value->Prop:=λc=>∀H',Same H H'->E c none H'
structure Cal1(P:Program)(w:World)(K:Ê)(mg:Str->Option Value)(base:Heap)(k:Nat)(x:Str)(ps:List Str)(sp:Sp):Prop where
 ex:∃f fd,FnOk P w K mg base (CX1 P w) k f fd ps sp/\Binds K fd ps []/\ň K (.ref f)=true/\mg x=some (.ref f)
def fO{f:FX}{n:Nat}(hn:∀ds P R,f ds P R->ds.length=n:=by intro _ _ _ h;repeat (first|(obtain⟨rfl,_⟩:=h;rfl)|obtain⟨_,h⟩:=h)):∀vs H Q E,spX f vs H Q E->vs.length=n:=λvs H Q E h=>by
 obtain⟨ds,P,R,r,t,_⟩:=h
 rw[r.length]
 exact hn ds P R t
def EF:XK:=λ_ _ _=>False
def MK{X:Cx}:Passes (CX1 X.prog X.w) X EF:=λpins σ H s e s' I h=>by
 obtain⟨_,_,_,_,_,_,_,_,_,_,_,_,_,z⟩:=h
 exact z.elim
section
variable {X:Cx}{E:XK}{k j:Nat}{x:Str}{ps:List Str}{e:Expr}{es:List Expr}{p pos:Pos}
def pcX{sp:Sp}{ta:TA}(C:Cal1 X.prog X.w X.K X.mg X.base k x ps sp)(hr:Room j X.A)(hx:Passes (CX1 X.prog X.w) X E)(ha:PA X (e::es) ta)(hk:k<=j)(hg:Gl X x)(hdb:zB x)(he:zS X e es)(hpl:zP X pos es) :
  PE X (.Call (.Name x p) (e::es) [] pos) (jK sp [] E ta):=by
 obtain⟨f,fd,F,b,kp,m⟩:=C.ex
 exact wY F (hr.mono hk) hg m kp b .nil hx ha hdb he hpl
def vg(f:FX)(R:Value->Prop)(t:DA):DE:=λρ P=>t ρ λks=>f (ks.map (·.2)) (λd=>P (norm .new d) d) R
def Dp{f:FX}{Hb:Hp}{t:DA}:∀σ H Q,@cV (grX Hb) (vg f (Rz E Hb) t) σ H Q->jK (spX f) [] E (@ju (grX Hb) t) σ H Q:=by
 letI:=grX Hb
 rintro σ H Q ⟨p,H0,own,ρ,P,En,t,q⟩
 obtain⟨rfl,rfl⟩:=En.gr
 refine⟨fM,H0,own,ρ,_,En,t,λks vs H1 h A r=>?_⟩
 show spX f (vs++[]) H1 Q E
 rw[ą]
 have s1:Same H0 H1:=λb o e=>A.kp b o (A.k0 b o e λz=>z) λz=>z
 refine⟨ks.map (·.2),_,_,(RpK.rps A r).mono (λ_ _=>trivial) (λ_ _ _ e=>e) λ_ _ e=>e,h,λd v H' h2 s r2=>?_,λc H' hc s=>hc H' (s1.trans s)⟩
 have k2:Kp fM H1 H':=Kp.of s
 refine q _ d v H' h2 (A.go k2 trivial) (bB ?_)
 exact r2.mono (λa o=>A.free o) (λ_ _ _ e=>e) λ_ _ e=>e
def dcX{f:FX}{Hb:Hp}{t:DA}(C:Cal1 X.prog X.w X.K X.mg X.base k x ps (spX f))(hr:Room j X.A)(hx:Passes (CX1 X.prog X.w) X E)(ha:@PDA (grX Hb) X (e::es) t)(hk:k<=j:=by decide)(hg:Gl X x:=by rfl)(hdb:zB x:=by decide)(he:zS X e es:=by rfl)(hpl:zP X pos es:=by rfl) :
  @PD (grX Hb) X (.Call (.Name x p) (e::es) [] pos) (vg f (Rz E Hb) t):=PE.wk (pcX C hr hx ha hk hg hdb he hpl) Dp
def Ds[Gr]{f:FX}{t:DA}:∀σ H Q,cV (vg f (λ_=>False) t) σ H Q->jK (spX f) [] EF (ju t) σ H Q:=by
 rintro σ H Q ⟨p,H0,own,ρ,P,En,t,q⟩
 refine⟨p,H0,own,ρ,_,En,t,λks vs H1 h A r=>?_⟩
 show spX f (vs++[]) H1 Q EF
 rw[ą]
 refine⟨ks.map (·.2),_,_,(RpK.rps A r).mono (λ_ _=>trivial) (λ_ _ _ e=>e) λ_ _ e=>e,h,λd v H' h2 s r2=>?_,λc H' hc s=>hc⟩
 have k2:Kp p H1 H':=Kp.of s
 refine q _ d v H' h2 (A.go k2 (p.mono H1 H' A.pen λb o _ e=>s b o e)) (bB ?_)
 exact r2.mono (λa o=>A.free o) (λ_ _ _ e=>e) λ_ _ e=>e
def dcF[Gr]{f:FX}{t:DA}(C:Cal1 X.prog X.w X.K X.mg X.base k x ps (spX f))(hr:Room j X.A)(ha:PDA X (e::es) t)(hk:k<=j:=by decide)(hg:Gl X x:=by rfl)(hdb:zB x:=by decide)(he:zS X e es:=by rfl)(hpl:zP X pos es:=by rfl) :
  PD X (.Call (.Name x p) (e::es) [] pos) (vg f (λ_=>False) t):=PE.wk (pcX C hr MK ha hk hg hdb he hpl) Ds
def wB(R:Value->Prop)(C:Addr)(t:DA):DS:=λ_ ρ=>t ρ λks=>ks.length<=1000/\R (.ref C)
def j7{Hb:Hp}{t:DA}{C:Addr}{newId Bn initId:String}{bmB:List Value}{np cpos:Pos}(L:Lets X E)(hc:X.calm=true)(hg:Gl X x)(hm:X.mg x=some (.ref C))(hx:ExcCls X.K C newId bmB)(B:ExcBaseFacts Bn newId initId bmB)(ha:@PDA (grX Hb) X (e::es) t)(hdb:zB x:=by decide)(he:zS X e es:=by rfl)(hpl:(backTo cpos (starEach (e::es) X.env)).any (·.1)=false:=by rfl)(hcons:backTo cpos (starEach (e::es) X.env)=(false,eval e X.env)::backTo cpos (starEach es X.env):=by rfl) :
  @PDS (grX Hb) X (.Raise (some (.Call (.Name x np) (e::es) [] cpos)) none pos) (wB (Rz E Hb) C t):=PS.wk' (Bw L hc hg hm hx B ha hdb he hpl hcons) (by
 letI:=grX Hb
 rintro Q σ H ⟨p,H0,own,ρ,P,En,t,w⟩
 obtain⟨rfl,rfl⟩:=En.gr
 refine⟨fM,H0,own,ρ,_,En,t,λks vs H1 h A r=>?_⟩
 have h24:=ì
 have hl:vs.length=ks.length:=by
  have:=RpK.rps A r
  rw[this.length,Á]
 exact⟨by have:=h.1;omega,h.2 H1 λb o e=>A.kp b o (A.k0 b o e λz=>z) λz=>z⟩)
end
def enterX{f:FX}{T:DS}{N:List Str}{vs:List V}{H:Hp}{Q:VK}{E:XK}(h:spX f vs H Q E)(body:∀ds P,f ds P (Rz E H)->∃ρ,ds.map cF++È (N.length - ds.length) .any=ρ/\T { nx:=λ_=>P .none,rt:=P } ρ)(mono:∀ds P R R',(∀c,R c->R' c)->f ds P R->f ds P R'):@iT (grX H) T { nx:=λ_ H'=>Q .non H',rt:=Q } (L2.start N vs) H:=by
 letI:=grX H
 obtain⟨ds,P,R,r,t,q,qE⟩:=h
 have h:spD (λds' P'=>ds'=ds/\P'=P) vs H Q E:=⟨ds,P,r,⟨rfl,rfl⟩,q⟩
 refine fZ h (λds' P' ⟨e1,e2⟩=>?_) ⟨rfl,rfl⟩
 subst e1 e2
 exact body _ _ (mono _ _ R _ (λc hc H' s=>qE c H' hc s) t)
variable [Gr]
def boot_repr:bootBuiltins "repr"=some (.builtin "repr"):=by decide +kernel
section
variable {X:Cx}{pos:Pos}{a b e:Expr}{ta tb te:DE}{t:DA}
end
end Dl
namespace L2
open PySem PyProof.Rows
def ur:∀{ns:List Int}{us:List Value},Vals (ns.map V.int) us->IntsAre us ns
 |[],_,.nil=>.nil
 |n::ns,_,.cons r t=>by
  obtain⟨k,rfl⟩:=r
  exact .cons n k (ur t)
def once(ns:List Int):List Int:=ns.foldl ń []
def wu(ns:List Int){m:Nat}(hm:m=ns.length):firstMet (λi=>ns.getD i 0) m=once ns:=by
 subst hm
 unfold firstMet once
 congr 1
 refine List.ext_getElem (by simp) λi h1 h2=>?_
 simp at h1
 simp[ë,h1]
section
variable {X:Cx}
def uQ(hc:X.calm=true):aW X (.type "set") (λxs H Q=>∃p ns,xs=[.ref p]/\SqL X.K H p (ns.map V.int)/\ns.length<=1000/\∀l S,H l=none->Q (.ref l) (upd H l (.set S (once ns).length))):=by
 intro pins s σ H xs us Q I r h
 obtain⟨p,ns,rfl,hq,hl,q⟩:=h
 obtain⟨u,rfl,rx⟩:=vals1 r
 cases rx
 obtain⟨its,r',pl,hz⟩:=I.list hq
 have hlen:=r'.length
 rw[Á] at hlen
 refine call_set_list (items:=its.toArray) (ns:=ns) (I.ok.hd hc) pl.isList (by simpa using ur r') ?_ λh' tk st k=>?_
 ·show its.toArray.size+1<scanBound
  rw[Ë,←hlen]
  exact Nat.lt_of_le_of_lt (Nat.add_le_add_right hl 1) (by decide)
 ·rw[wu ns (by rw[Ë,←hlen])] at st
  refine⟨.ref s.heap.objs.size,_,I.laid (t':=tk) (λb o e=>k b o (Å e) e) (Æ _) (show aM X.prog X.w _ h' _ (.set _ (once ns).length) from st),rfl,q _ _ (I.hok.fresh (Æ _))⟩
def pC:aW X (.builtin "len") (λxs H Q=>∃p S n,xs=[.ref p]/\H p=some (.set S n)/\n<=1000/\Q (.int (n:Int)) H):=by
 intro pins s σ H xs us Q I r h
 obtain⟨p,S,n,rfl,hq,hl,q⟩:=h
 obtain⟨u,rfl,rx⟩:=vals1 r
 cases rx
 obtain⟨o,es,ep,t,e1,e2,e3,_,_,_,e6,e7⟩:=I.hok p _ hq
 refine call_len_set e1 e2 e3 e6 (by rw[e7];omega) ?_
 rw[e7]
 exact⟨.int n,H,I.tok _,⟨_,rfl⟩,q⟩
end
def iK:∀(ns acc:List Int),(ns.foldl ń acc).length<=acc.length+ns.length
 |[],acc=>Æ _
 |n::ns,acc=>by
  rw[List.foldl_cons]
  have h:=iK ns (ń acc n)
  have:(ń acc n).length<=acc.length+1:=by
   unfold ń
   split
   ·omega
   ·rw[Ð];exact Æ _
  rw[ç]
  omega
def tE:∀(ns acc:List Int),((ns.foldl ń acc).length=acc.length+ns.length)↔(ns.Nodup/\∀x∈ns,x∉acc)
 |[],acc=>by simp
 |n::ns,acc=>by
  rw[List.foldl_cons,ç,Ě]
  by_cases hn:n∈acc
  ·have e:ń acc n=acc:=by
    unfold ń
    rw[if_pos (List.any_eq_true.mpr ⟨n,hn,by simp⟩)]
   rw[e]
   have:=iK ns acc
   constructor
   ·intro h;omega
   ·rintro⟨_,h⟩
    exact absurd hn (h n Ì)
  ·have e:ń acc n=acc++[n]:=by
    unfold ń
    rw[if_neg (λz=>by
     obtain⟨x,hx,ex⟩:=List.any_eq_true.mp z
     have:x=n:=by simpa using ex
     exact hn (this ▸ hx))]
   rw[e]
   have ih:=tE ns (acc++[n])
   rw[Ð,í] at ih
   constructor
   ·intro h
    obtain⟨a,b⟩:=ih.mp (by omega)
    refine⟨⟨λz=>b n z (Ý _ (ý.mpr rfl)),a⟩,λx hx=>?_⟩
    rcases É.mp hx with z|z
    ·rw[z];exact hn
    ·exact λy=>b x z (Ş _ y)
   ·rintro⟨⟨a,b⟩,c⟩
    have:=ih.mpr ⟨b,λx hx z=>by
     rcases è.mp z with y|y
     ·exact c x (Ï _ hx) y
     ·rw[ý.mp y] at hx;exact a hx⟩
    omega
def nG(ns:List Int):(once ns).length=ns.length↔ns.Nodup:=by
 have:=tE ns []
 simp at this
 exact this
end L2
namespace Dl
open PySem L2 PyProof.Rows
variable [Gr]
section
variable {X:Cx}{pos pos':Pos}{a:Expr}{t:DA}
def boot_set:bootBuiltins "set"=some (.type "set"):=by decide +kernel
def xO:GC:=λks P=>∃k ns,ks=[(k,.list (ns.map Â))]/\ns.length<=1000/\P .imm (.int ((once ns).length:Nat))
def kY{ps ps':Pos}(hc:X.calm=true)(hs:X.mg "set"=none)(hl:X.mg "len"=none)(ha:PDA X [a] t)(hgs:Gl X "set":=by rfl)(hgl:Gl X "len":=by rfl)(he:zS X a []:=by rfl)(hpl:zP X pos []:=by rfl)(he':starEach [Expr.Call (.Name "set" ps) [a] [] pos] X.env=(false,eval (Expr.Call (.Name "set" ps) [a] [] pos) X.env)::starEach [] X.env:=by rfl)(hpl':(backTo pos' (starEach [] X.env)).any (·.1)=false:=by rfl) :
  PD X (.Call (.Name "len" ps') [.Call (.Name "set" ps) [a] [] pos] [] pos') (tCl xO t) :=
 PE.wk (bQ pC hgl hl PySem.boot_len (aF (jf (uQ hc) hgs hs boot_set ha (by decide) (by decide) he hpl) bA he') (by decide) (by decide) he' hpl') (by
  rintro σ H Q ⟨p,H0,own,ρ,P,E,t,q⟩
  refine⟨p,H0,own,ρ,_,E,t,λks vs H1 h A r=>?_⟩
  obtain⟨k,ns,rfl,hn,h⟩:=h
  obtain⟨v,rfl,r'⟩:=fB r
  obtain⟨c,ws,rfl,o,hc',rs⟩:=r'.cg
  have ew:=rs.ints
  subst ew
  refine⟨c,ns,rfl,SqL.of hc',hn,λl S hl'=>?_⟩
  obtain⟨k2,i2,nw⟩:=A.new hl' (.set S (once ns).length)
  have h1:=iK ns []
  exact⟨l,S,_,rfl,aA,by unfold once;simp at h1;omega,q _ _ _ _ h (A.go k2 i2) (.int _)⟩)
end
variable [Gr]
section
variable {X:Cx}{pos p2:Pos}{a b c e:Expr}{es:List Expr}{ta tb tc te:DE}{t:DA}{st:Stmt}
def OpR.or{f:Value->Value->Sem Value}{r r':R2}(h:OpR X f r)(h':OpR X f r'):OpR X f (λx y H Q=>r x y H Q\/r' x y H Q):=by
 intro pins s σ H x y v u Q I rx ry q
 rcases q with q|q
 ·exact h pins s σ H x y v u Q I rx ry q
 ·exact h' pins s σ H x y v u Q I rx ry q
def aW.or{f:Value}{r r':List V->Hp->VK->Prop}(h:aW X f r)(h':aW X f r'):aW X f (λx H Q=>r x H Q\/r' x H Q):=by
 intro pins s σ H x v Q I rx q
 rcases q with q|q
 ·exact h pins s σ H x v Q I rx q
 ·exact h' pins s σ H x v Q I rx q
def aQ(ha:PD X a ta)(hb:PD X b tb)(hs:sH b:=by exact λ_ _=>rfl):PD X (.Subscript a b pos) (t2 gIx ta tb):=PE.wk (BX (IxR.or rD Kg) ha hb hs) (xg (by
 intro p H0 own Hb H x y k1 d1 k2 d2 P Q A r1 r2 t q
 unfold gIx at t
 split at t
 ·rename_i ds i
  obtain⟨d,hd,t⟩:=t
  obtain⟨c,vs,rfl,o,hc,rs⟩:=r1.cg
  obtain⟨v,hv,rv⟩:=rs.atI hd
  exact .inl ⟨c,vs,i,v,rfl,r2.int',SqL.of hc,hv,q _ _ _ _ t Kp.refl A.pen (bB rv)⟩
 ·rename_i ds i
  obtain⟨d,hd,t⟩:=t
  obtain⟨c,vs,rfl,hc,rs⟩:=r1.dY
  obtain⟨v,hv,rv⟩:=rs.atI hd
  exact .inr ⟨c,vs,i,v,rfl,r2.int',SqT.of hc,hv,q _ _ _ _ t Kp.refl A.pen (bB rv)⟩
 ·exact t.elim))
def Ef:G2:=λk1 d1 k2 d2 P=>match d1 with
 |.int i=>(match d2 with
  |.int j=>P .imm (.int (i+j))
  |_=>False)
 |.list ds=>Ks k1 (.list ds) k2 d2 P
 |.tuple ds=>Ei k1 (.tuple ds) k2 d2 P
 |_=>False
def aR(ha:PD X a ta)(hb:PD X b tb):PD X (.BinOp a .Add b pos) (t2 Ef ta tb):=pN (OpR.or iJ (OpR.or JF Gp)) (by
 intro p H0 own Hb H x y k1 d1 k2 d2 P Q A r1 r2 t q
 cases d1 with
 |int i =>
  cases d2 with
  |int j=>exact .inl ⟨i,j,r1.int',r2.int',q _ _ _ _ t Kp.refl A.pen (.int _)⟩
  |_=>exact t.elim
 |list ds=>exact .inr (.inl (Ng p H0 own Hb H x y k1 _ k2 d2 P Q A r1 r2 t q))
 |tuple ds=>exact .inr (.inr (JM p H0 own Hb H x y k1 _ k2 d2 P Q A r1 r2 t q))
 |_=>exact t.elim) ha hb
def Ec:G2:=λk1 d1 k2 d2 P=>match d1 with
 |.int i=>(match d2 with
  |.int j=>Hv i j/\P .imm (.int (i * j))
  |_=>False)
 |.list ds=>Kq k1 (.list ds) k2 d2 P
 |_=>False
def iH(ha:PD X a ta)(hb:PD X b tb):PD X (.BinOp a .Mult b pos) (t2 Ec ta tb):=pN (OpR.or kZ JB) (by
 intro p H0 own Hb H x y k1 d1 k2 d2 P Q A r1 r2 t q
 cases d1 with
 |int i =>
  cases d2 with
  |int j=>exact .inl ⟨i,j,r1.int',r2.int',t.1,q _ _ _ _ t.2 Kp.refl A.pen (.int _)⟩
  |_=>exact t.elim
 |list ds=>exact .inr (M8 p H0 own Hb H x y k1 _ k2 d2 P Q A r1 r2 t q)
 |_=>exact t.elim) ha hb
def lH(neg:Bool):G2:=λk1 d1 k2 d2 P=>match scD d1 d2 with
 |some b=>P .imm (.bool (if neg then !b else b))
 |none=>NK neg k1 d1 k2 d2 P
def H9{K:Ê}:Ok2 (lH false) (λx y H Q=>rEq x y H Q\/Bs K false x y H Q):=by
 intro p H0 own Hb H x y k1 d1 k2 d2 P Q A r1 r2 t q
 cases e:scD d1 d2 with
 |some b =>
  have t':gEq false k1 d1 k2 d2 P:=by
   unfold lH at t
   unfold gEq
   rw[e] at t ⊢
   exact t
  exact .inl (O6 p H0 own Hb H x y k1 d1 k2 d2 P Q A r1 r2 t' q)
 |none =>
  unfold lH at t
  rw[e] at t
  exact .inr (HY false p H0 own Hb H x y k1 d1 k2 d2 P Q A r1 r2 t q)
def M9{K:Ê}:Ok2 (lH true) (λx y H Q=>rNe x y H Q\/Bs K true x y H Q):=by
 intro p H0 own Hb H x y k1 d1 k2 d2 P Q A r1 r2 t q
 cases e:scD d1 d2 with
 |some b =>
  have t':gEq true k1 d1 k2 d2 P:=by
   unfold lH at t
   unfold gEq
   rw[e] at t ⊢
   exact t
  exact .inl (O5 p H0 own Hb H x y k1 d1 k2 d2 P Q A r1 r2 t' q)
 |none =>
  unfold lH at t
  rw[e] at t
  exact .inr (HY true p H0 own Hb H x y k1 d1 k2 d2 P Q A r1 r2 t q)
def gK(hu:X.A.units+64<cLine)(ha:PD X a ta)(hb:PD X b tb):PD X (.Compare a [.Eq] [b] pos) (t2 (lH false) ta tb):=qY (OpR.or HS (Cq hu)) H9 ha hb (dR _)
def cO(hu:X.A.units+64<cLine)(ha:PD X a ta)(hb:PD X b tb):PDT X (.Compare a [.Eq] [b] pos) (jJ (t2 (lH false) ta tb)):=mD (OpR.or HS (Cq hu)) H9 ha hb (dR _)
def gG(hu:X.A.units+64<cLine)(ha:PD X a ta)(hb:PD X b tb):PDT X (.Compare a [.NotEq] [b] pos) (jJ (t2 (lH true) ta tb)):=mD (OpR.or MP (JD hu)) M9 ha hb (dR _)
end
section
variable {n:Nat}{g:DG}{tt:DT}{te:DE}{ρ:List Sl}{k:Kd}{ds:List D}{R:Kd->List D->Prop}
def GP{α β:Type}(f:α->β){l:List α}{i:Nat}{x:α}(h:l[i]?=some x):(l.take (i+1)).map f=(l.take i).map f++[f x]:=by
 rw[List.take_add_one,h]
 simp
def gO{α:Type}(xs:List α)(e f:α->D)(ke:Kd)(hd:ds=xs.map e)(hl:xs.length<=1000)(step:∀x∈xs,∀(A:D->Prop) (B:Prop),A (f x)->g (norm (elC k) (e x)) (e x) (È n .any++ρ) λρ'=>if true=true then te ρ' λk' d'=>(norm k' d').le ke=true/\A d' else B)(q:R ke (xs.map f)) :
  ds.length<=1000/\∃(ke:Kd) (Iv:Nat->List D->Prop),Iv 0 [] /\
   (∀i d ys,ds[i]?=some d->Iv i ys->g (norm (elC k) d) d (È n .any++ρ) λρ'=>if true=true then te ρ' λk' d'=>(norm k' d').le ke=true/\Iv (i+1) (ys++[d']) else Iv (i+1) ys) /\
   ∀ys,Iv ds.length ys->R ke ys:=by
 subst hd
 refine⟨by rw[Á];exact hl,ke,λi ys=>ys=(xs.take i).map f,rfl,?_,?_⟩
 ·rintro i d ys hd rfl
  rw[Þ] at hd
  cases hx:xs[i]? with
  |none=>rw[hx] at hd;cases hd
  |some x =>
   rw[hx] at hd
   have hd:=Ò hd
   subst hd
   exact step x (Ñ hx) (λd'=>(xs.take i).map f++[d']=(xs.take (i+1)).map f) _ (GP f hx).symm
 ·rintro ys rfl
  rw[Á,List.take_length]
  exact q
end
section
variable {g:DG}{tb:DS}{k:Kd}{ds:List D}{ρ:List Sl}{P:DEnds}
def mK{α:Type}(xs:List α)(e:α->D)(ok:List Sl->Prop)(hd:ds=xs.map e)(hk:k.le .shr=true)(h0:ok ρ)(step:∀x∈xs,∀ρ',ok ρ'->g (norm (elK k) (e x)) (e x) ρ' λρ2=>tb { nx:=ok,ct:=ok,bk:=P.nx,rt:=P.rt } ρ2)(q:∀ρ',ok ρ'->P.nx ρ') :
  k.le .shr=true/\∃Iv:Nat->List Sl->Prop,Iv 0 ρ /\
   (∀i d ρ',ds[i]?=some d->Iv i ρ'->g (norm (elK k) d) d ρ' λρ2=>tb { nx:=Iv (i+1),ct:=Iv (i+1),bk:=P.nx,rt:=P.rt } ρ2)/\∀ρ',Iv ds.length ρ'->P.nx ρ':=by
 subst hd
 refine⟨hk,λ_ ρ'=>ok ρ',h0,?_,q⟩
 intro i d ρ' hd h
 rw[Þ] at hd
 cases hx:xs[i]? with
 |none=>rw[hx] at hd;cases hd
 |some x =>
  rw[hx] at hd
  have hd:=Ò hd
  subst hd
  exact step x (Ñ hx) ρ' h
end
variable [Gr]
section
variable {X:Cx}{scope:Scope}{tg iter elt:Expr}{ifs:List Expr}{pos:Pos}{ti:DI}{g:DG}{tt:DT}{te:DE}
def Jm(own:List Str){i:Nat}{y:Str}{py spos:Pos}(hc:X.calm=true)(hN:X.N.Nodup)(hiN:X.N[i]?=some y)(hx:Loc X.env.scope y)(hi:PDI X tg iter ti)(hg:∀c,PDG (X.comp own scope c) tg g)(ht:∀c,Hu (X.comp own scope c) ifs tt)(he:∀c,PD (X.comp own scope c) elt te)(hsw:swapsWith (.ListComp elt [⟨tg,iter,ifs,0⟩] scope pos) (some (.Name y py)) spos.line X.env=pure true:=by rfl)(hk:gb X.env scope X.N=true:=by rfl)(hs:zF X iter:=by intro _;rfl)(hf:zL X y:=by first|exact .inl rfl|exact .inr rfl|assumption) :
  PS X (.Assign [.Name y py] (.ListComp elt [⟨tg,iter,ifs,0⟩] scope pos) spos) (vh (cV (dLC own.length ti g tt te)) (jx i)):=PS.wk' (Mz own hc hN hiN hx hi hg ht he hsw hk hs hf) λD σ H q=>w6 σ H _ q
end
section
variable {n:Nat}{g:DG}{tt:DT}{te:DE}{ρ:List Sl}{k:Kd}{ds:List D}{R:Kd->List D->Prop}
end
variable [Gr]
section
variable {X:Cx}{pos:Pos}{st:Stmt}{rest:List Stmt}{te tj:DE}{ti:DI}{t:DS}
def rQ(js:List Nat)(t:DS):DS:=λP ρ=>t P (js.foldl (λρ j=>ρ.set j .any) ρ)
def EnvD.drops{p:Pn}{H0 H:Hp}{own:Addr->Option Nat}{σ:L2.St}:∀(js:List Nat) {ρ:List Sl},EnvD p H0 own σ H ρ->EnvD p H0 own σ H (js.foldl (λρ j=>ρ.set j .any) ρ)
 |[],_,E=>E
 |_::js,_,E=>EnvD.drops js E.drop
def bU(js:List Nat)(h:oR X rest t):oR X rest (rQ js t):=PSs.wk' h (by
 rintro Q σ H ⟨p,H0,own,ρ,P,E,q,w⟩
 exact⟨p,H0,own,_,P,E.drops js,q,w⟩)
def qX:PD X (.Dict [] [] pos) (λ_ P=>P .new (.dict [])):=PE.wk BZ (by
 rintro σ H Q ⟨p,H0,own,ρ,P,E,t,q⟩
 have A:=E.at
 exact λd hd=>let ⟨k2,i2,nw⟩:=A.new hd (.dK []);q _ _ _ _ t (A.go k2 i2) (.dct nw aA .nil))
end
@[reducible] def grL(K:Ê)(sc:Addr)(ns:List Int):Gr:=⟨λp H0=>SqL K H0 sc (ns.map V.int)/\∀b,p.fp b->H0 b=none⟩
section
variable {X:Cx}{k1 k2 j:Nat}{x y z:Str}{ps1 ps2:List Str}{e:Expr}{es1 es2:List Expr}{p1 p2 p3 pos pos1:Pos}{K:Ê}{sc:Addr}{ns:List Int}{C:Pn->Prop}{pre:List D->Prop}{g:List D->(D->Prop)->Prop}{i:Nat}
end
variable [Gr]
section
variable {X:Cx}{pos pos':Pos}{a b:Expr}{t:DA}
def FN{ok:Addr->Prop}{H:Hp}(lo hi:Int):Rps ok H (sW lo hi) (gA lo (hi - lo).toNat):=by
 unfold sW gA
 exact Rps.ofMap (λx=>.int _) _
def Hj{p:Pn}{H0 H H1:Hp}{own:Addr->Option Nat}{P:DK}{Q:VK}{lo hi:Int}(A:At p H0 own H H1)(h:P .new (.list (gA lo (hi - lo).toNat)))(b:-1000<=lo/\lo<=1000/\-1000<=hi/\hi<=1000)(q:∀k d v H',P k d->At p H0 own H H'->Rp (okK p H0 own H k) H' v d->Q v H')(r:Addr)(hr:H1 r=none) :
  ∃p' lo' hi',[V.ref r]=[.ref p']/\upd H1 r (.rng lo hi) p'=some (.rng lo' hi')/\(-1000<=lo'/\lo'<=1000/\-1000<=hi'/\hi'<=1000)/\∀l,upd H1 r (.rng lo hi) l=none->Q (.ref l) (upd (upd H1 r (.rng lo hi)) l (.lst (sW lo' hi'))):=by
 refine⟨r,lo,hi,rfl,aA,b,λl hl=>?_⟩
 obtain⟨k2,i2,_⟩:=A.new hr (.rng lo hi)
 have A2:=A.go k2 i2
 obtain⟨k3,i3,nw⟩:=A2.new hl (.lst (sW lo hi))
 exact q _ _ _ _ h (A2.go k3 i3) (.lst nw aA (FN lo hi))
def Lz(t:DA):DE:=λρ P=>t ρ λks=>match ks with
 |[(_,.int j)]=>(-1000<=j/\j<=1000)/\P .new (.list (gA 0 (j - 0).toNat))
 |_=>False
def eO{ps ps':Pos}(hc:X.calm=true)(hml:X.mg "list"=none)(hmr:X.mg "range"=none)(ha:PDA X [a] t)(hgl:Gl X "list":=by rfl)(hgr:Gl X "range":=by rfl)(he:zS X a []:=by rfl)(hpl:(backTo pos' (starEach [] X.env)).any (·.1)=false:=by rfl)(he2:starEach [.Call (.Name "range" ps') [a] [] pos'] X.env=(false,eval (.Call (.Name "range" ps') [a] [] pos') X.env)::starEach [] X.env:=by rfl)(hpl2:zP X pos []:=by rfl) :
  PD X (.Call (.Name "list" ps) [.Call (.Name "range" ps') [a] [] pos'] [] pos) (Lz t):=PE.wk (jf (pB hc) hgl hml boot_list (aF (jf zJ hgr hmr boot_range ha (by decide) (by decide) he hpl) bA he2) (by decide) (by decide) he2 hpl2) (by
 rintro σ H Q ⟨p,H0,own,ρ,P,E,t,q⟩
 refine⟨p,H0,own,ρ,_,E,t,λks vs H1 h A rk=>?_⟩
 split at h
 ·rename_i k j
  obtain⟨v,rfl,r'⟩:=fB rk
  have e:=Rp.int' r'
  subst e
  exact⟨j,rfl,Hj A h.2 ⟨by omega,by omega,h.1.1,h.1.2⟩ q⟩
 ·exact h.elim)
end
variable [Gr]
mutual
inductive Tm where
 |int (i:Int)
 |neg (i:Int)
 |bl (b:Bool)
 |non
 |str (s:Str)
 |var (i:Nat)
 |lst (ts:Tms)
 |tup (ts:Tms)
 |dct
inductive Tms where
 |nil
 |cons (t:Tm) (ts:Tms)
end
def Og(sc:Scope)(x:Str):Bool:=sc.names.lookup x == some .local || sc.names.lookup x == some .cell || sc.names.lookup x == some .free
mutual
def okT(N:List Str)(sc:Scope):Tm->Expr->Bool
 |.int i,.Constant (.int j) _ _=>i == j
 |.neg i,.UnaryOp .USub (.Constant (.int j) _ _) _=>i == j
 |.bl b,.Constant (.bool c) _ _=>b == c
 |.non,.Constant .none _ _=>true
 |.str s,.Constant (.str u) _ _=>s == u
 |.var i,.Name x _=>N[i]? == some x&&(Og sc x&&(!(x == ("__debug__":Str))&&!(x == ("__classdict__":Str))))
 |.lst ts,.List es _=>JL N sc ts es
 |.tup ts,.Tuple es _ _=>JL N sc ts es
 |.dct,.Dict [] [] _=>true
 |_,_=>false
def JL(N:List Str)(sc:Scope):Tms->List Expr->Bool
 |.nil,[]=>true
 |.cons t ts,e::es=>okT N sc t e&&JL N sc ts es
 |_,_=>false
end
mutual
def evT(ρ:List Sl):Tm->Option (Kd×D)
 |.int i=>some (.imm,.int i)
 |.neg i=>some (.imm,.int (-i))
 |.bl b=>some (.imm,.bool b)
 |.non=>some (.imm,.none)
 |.str s=>some (.imm,.str s)
 |.var i=>match ρ[i]? with
  |some (.im d)=>some (.imm,d)
  |some (.sh d)=>some (.shr,d)
  |some (.sn d)=>some (.snw,d)
  |some (.dw r d)=>some (.reg r,d)
  |_=>none
 |.lst ts=>match KN ρ ts with
  |some ks=>some ((joins ks).join .new,.list (ks.map (·.2)))
  |none=>none
 |.tup ts=>match KN ρ ts with
  |some ks=>some (norm (joins ks) (.tuple (ks.map (·.2))),.tuple (ks.map (·.2)))
  |none=>none
 |.dct=>some (.new,.dict [])
def KN(ρ:List Sl):Tms->Option (List (Kd×D))
 |.nil=>some []
 |.cons t ts=>match evT ρ t,KN ρ ts with
  |some k,some ks=>some (k::ks)
  |_,_=>none
end
mutual
def smT:Tm->Bool
 |.lst ts=>Ja 1000 ts
 |.tup ts=>Ja 1000 ts
 |_=>true
def Ja:Nat->Tms->Bool
 |_,.nil=>true
 |n+1,.cons t ts=>smT t&&Ja n ts
 |0,.cons _ _=>false
end
section
variable {X:Cx}{e:Expr}{es:List Expr}
section
variable {N:List Str}{sc:Scope}
end
end
end Dl
namespace L2
open PySem PySem.Spec PyProof.Rows HT
section
variable {X:Cx}{e:Expr}{te:TE}{p1 p2 p3 pos:Pos}
end
end L2
namespace Dl
open PySem L2 PyProof.Rows
variable [Gr]
section
variable {X:Cx}{pos p1 p2 p3:Pos}{a b e:Expr}{es:List Expr}{ta tb te:DE}{t:DA}
def Iz(te:DE)(tl th:DO):DE:=λρ P=>te ρ λk d=>tl ρ λlo=>th ρ λhi=>match d with
 |.list ds=>newP k (cj ds lo hi) λk'=>P k' (.list (cj ds lo hi))
 |.tuple ds=>¬(HT.sIx ds.length 0 lo=0/\HT.sIx ds.length ds.length hi=ds.length)/\P (norm k (.tuple (cj ds lo hi))) (.tuple (cj ds lo hi))
 |_=>False
def fK{lo hi:Option Expr}{tl th:DO}(he:PD X e te)(hl:PO X lo (uf tl))(hh:PO X hi (uf th)):PD X (.Subscript e (.Slice lo hi none p2) pos) (Iz te tl th):=PE.wk (nq (SlR.or qC Jb) he hl hh) (by
 rintro σ H Q ⟨p,H0,own,ρ,P,E,t,q⟩
 refine⟨p,H0,own,ρ,_,E,t,λk d v H1 h A r=>?_⟩
 refine⟨p,H0,own,ρ,_,E.go A.kp A.pen,h,λo1 H2 h2 A2=>?_⟩
 refine⟨p,H0,own,ρ,_,(E.go A.kp A.pen).go A2.kp A2.pen,h2,λo2 H3 h3 A3=>?_⟩
 have A4:=(A.base A2).base A3
 have r3:=mY (A.base A2) A3.kp (mY A A2.kp r)
 cases d with
 |list ds =>
  obtain⟨x,xs,e1,o,h1,rs⟩:=Rp.cg r3
  subst e1
  refine .inl ⟨x,xs,rfl,SqL.of h1,λl hl=>?_⟩
  obtain⟨k2,i2,nw⟩:=A4.new hl (.lst (jE xs o1 o2))
  obtain⟨k',hk',rk'⟩:=mH A4 (cY A4 k2 (rs.cut o1 o2)) nw aA h3
  exact q _ _ _ _ hk' (A4.go k2 i2) rk'
 |tuple ds =>
  obtain⟨x,xs,e1,h1,rs⟩:=Rp.dY r3
  subst e1
  refine .inr ⟨x,xs,rfl,SqT.of h1,by rw[rs.length];exact h3.1,λl hl=>?_⟩
  obtain⟨k2,i2,nw⟩:=A4.new hl (.tup (jE xs o1 o2))
  exact q _ _ _ _ h3.2 (A4.go k2 i2) (bB (.tup aA (cY A4 k2 (rs.cut o1 o2))))
 |_=>exact h3.elim)
end
variable [Gr]
section
variable {X:Cx}{pos pos' p2:Pos}{a b e:Expr}{ta tb te tj tm:DE}{st st2:Stmt}{rest:List Stmt}{ti:DI}{g:DG}{t:DS}
end
variable [Gr]
section
variable {X:Cx}{te te1 te2 tj tm:DE}{st st2:Stmt}{rest:List Stmt}{t:DS}
end
variable [Gr]
section
variable {X:Cx}{te tj:DE}{st:Stmt}{t:DS}
end
end Dl
namespace L2
open PySem PySem.Spec PyProof.Rows
end L2
namespace Dl
open PySem L2 PyProof.Rows
variable [Gr]
section
variable {X:Cx}{tg:Expr}{pos:Pos}{ta:DA}
end
section
variable {X:Cx}
def zN(hc:X.calm=true):aW X (.builtin "min") (λxs H Q=>∃(p:Addr) (ns:List Int),xs=[.ref p]/\SqL X.K H p (ns.map V.int)/\ns≠[]/\∀M,M∈ns->(∀a∈ns,M<=a)->Q (.int M) H):=by
 intro pins s σ H xs us Q I r h
 obtain⟨p,ns,rfl,hp,hne,q⟩:=h
 obtain⟨u,rfl,rx⟩:=vals1 r
 cases rx
 obtain⟨its,rv,pl,hz⟩:=I.list hp
 have hi:IntsAre its ns:=intsAre_of rv
 obtain⟨zs,e⟩:=hi.allInts.items
 have hns:ns=zs.toList.map (·.1):=by rw[←hi.numsOf,←nums_intItems,←e]
 have hsz:0<zs.size:=by
  have h3:=Ť.mpr hne
  rw[hns,Á,Ă] at h3;exact h3
 have hl:=pl.isList
 rw[e] at hl
 refine min_intList (I.ok.hd hc) hl hsz λv h' tk hv hk=>?_
 obtain⟨t,rfl⟩:=intItems_at hv
 obtain⟨h1,h2⟩:=argBest_lt (numAt zs) (zs.size - 1)
 refine⟨.int _,H,I.kept λb o eb=>hk b o eb,⟨_,rfl⟩,q _ ?_ λa ha=>?_⟩
 ·rw[hns,numAt_eq];refine getD_mem ?_;rw[Á,Ă];omega
 ·rw[hns] at ha
  obtain⟨j,hj,rfl⟩:=mem_getD ha
  rw[Á,Ă] at hj
  have h3:=h2 j (by omega)
  rw[←numAt_eq];exact h3
def zT(hc:X.calm=true):aW X (.builtin "max") (λxs H Q=>∃(p:Addr) (ns:List Int),xs=[.ref p]/\SqL X.K H p (ns.map V.int)/\ns≠[]/\∀M,M∈ns->(∀a∈ns,a<=M)->Q (.int M) H):=by
 intro pins s σ H xs us Q I r h
 obtain⟨p,ns,rfl,hp,hne,q⟩:=h
 obtain⟨u,rfl,rx⟩:=vals1 r
 cases rx
 obtain⟨its,rv,pl,hz⟩:=I.list hp
 have hi:IntsAre its ns:=intsAre_of rv
 obtain⟨zs,e⟩:=hi.allInts.items
 have hns:ns=zs.toList.map (·.1):=by rw[←hi.numsOf,←nums_intItems,←e]
 have hsz:0<zs.size:=by
  have h3:=Ť.mpr hne
  rw[hns,Á,Ă] at h3;exact h3
 have hl:=pl.isList
 rw[e] at hl
 refine max_intList (I.ok.hd hc) hl hsz λv h' tk hv hk=>?_
 obtain⟨t,rfl⟩:=intItems_at hv
 obtain⟨h1,h2⟩:=argBest_gt (numAt zs) (zs.size - 1)
 refine⟨.int _,H,I.kept λb o eb=>hk b o eb,⟨_,rfl⟩,q _ ?_ λa ha=>?_⟩
 ·rw[hns,numAt_eq];refine getD_mem ?_;rw[Á,Ă];omega
 ·rw[hns] at ha
  obtain⟨j,hj,rfl⟩:=mem_getD ha
  rw[Á,Ă] at hj
  have h3:=h2 j (by omega)
  rw[←numAt_eq];exact h3
end
section
variable {prog:Program}{w:World}{A:Around}{E:Value->Shared->Prop}
end
section
variable {X:Cx}{pos:Pos}
variable [Gr]
end
section
variable {X:Cx}{pos:Pos}{a:Expr}{t:DA} [Gr]
def yZ(f:Int->Int->Int)(le:Int->Int->Prop):GC:=λks P=>match ks with
 |[(_,.tuple [.int i,.int j])]=>P .imm (.int (f i j))
 |[(_,.list ds)]=>∃ns:List Int,ds=ns.map Â/\ns≠[]/\∀M,M∈ns->(∀a∈ns,le M a)->P .imm (.int M)
 |_=>False
def qR{ps:Pos}(hc:X.calm=true)(hm:X.mg "min"=none)(ha:PDA X [a] t)(hg:Gl X "min":=by rfl)(he:zS X a []:=by rfl)(hpl:zP X pos []:=by rfl):PD X (.Call (.Name "min" ps) [a] [] pos) (tCl (yZ (λi j=>if j<i then j else i) (λM a=>M<=a)) t) :=
 dg (aW.or (zM hc) (zN hc)) (by
  intro p H0 own Hb H vs ks P Q A r t q
  unfold yZ at t
  split at t
  ·rename_i k i j
   obtain⟨v,rfl,r'⟩:=fB r
   obtain⟨x,xs,e1,h1,rs1⟩:=Rp.dY r'
   obtain⟨v1,v2,e2,q1,q2⟩:=Rps.two rs1
   subst e1 e2
   rw[q1.int',q2.int'] at h1
   exact .inl ⟨x,i,j,rfl,SqT.of h1,q _ _ _ _ t Kp.refl A.pen (.int _)⟩
  ·obtain⟨ns,rfl,hne,t⟩:=t
   obtain⟨v,rfl,r'⟩:=fB r
   obtain⟨x,xs,e1,o1,h1,rs1⟩:=Rp.cg r'
   subst e1
   have e2:=Rps.ints rs1
   subst e2
   exact .inr ⟨x,ns,rfl,SqL.of h1,hne,λM h1 h2=>q _ _ _ _ (t M h1 h2) Kp.refl A.pen (.int _)⟩
  ·exact t.elim) hg hm boot_min ha (by decide) (by decide) he hpl
def qU{ps:Pos}(hc:X.calm=true)(hm:X.mg "max"=none)(ha:PDA X [a] t)(hg:Gl X "max":=by rfl)(he:zS X a []:=by rfl)(hpl:zP X pos []:=by rfl):PD X (.Call (.Name "max" ps) [a] [] pos) (tCl (yZ (λi j=>if j > i then j else i) (λM a=>a<=M)) t) :=
 dg (aW.or (zR hc) (zT hc)) (by
  intro p H0 own Hb H vs ks P Q A r t q
  unfold yZ at t
  split at t
  ·rename_i k i j
   obtain⟨v,rfl,r'⟩:=fB r
   obtain⟨x,xs,e1,h1,rs1⟩:=Rp.dY r'
   obtain⟨v1,v2,e2,q1,q2⟩:=Rps.two rs1
   subst e1 e2
   rw[q1.int',q2.int'] at h1
   exact .inl ⟨x,i,j,rfl,SqT.of h1,q _ _ _ _ t Kp.refl A.pen (.int _)⟩
  ·obtain⟨ns,rfl,hne,t⟩:=t
   obtain⟨v,rfl,r'⟩:=fB r
   obtain⟨x,xs,e1,o1,h1,rs1⟩:=Rp.cg r'
   subst e1
   have e2:=Rps.ints rs1
   subst e2
   exact .inr ⟨x,ns,rfl,SqL.of h1,hne,λM h1 h2=>q _ _ _ _ (t M h1 h2) Kp.refl A.pen (.int _)⟩
  ·exact t.elim) hg hm boot_max ha (by decide) (by decide) he hpl
variable {b:Expr}{ta tb:DE}
end
section
variable {X:Cx}
end
section
variable {X:Cx}{pos:Pos}{a e:Expr}{te ta:DE}{t:DA}{st st2:Stmt}{rest:List Stmt} [Gr]
end
section
variable {X:Cx}{tg iter c:Expr}{pos pos1:Pos}{ret:Stmt}{ti:DI}{g:DG}{tc:DT} [Gr]
end
end Dl
namespace L2
open PySem PyProof.Rows
def Asc(xs:Array Nat):Prop:=xs.toList.Pairwise (·<·)
structure Good(w:World)(t:SetTable):Prop where
 asc:Asc t.place
 dum:t.dummies=#[]
 led:t.led=!w.params.followText "set-order"
section
variable {w:World}{t:SetTable}
end
section
variable {P:Program}{w:World}{A:Around}{E:Value->Shared->Prop}{s:Shared}
end
section
variable {P:Program}{w:World}{A:Around}{R:Result->Shared->Prop}{I:Addr}{fp wr:List Addr}{G:Array GenState->Array GenState->Prop}{n:Nat}{W:Nat->Value->Prop}{St:Nat->Shared->Prop}
end
section
variable {P:Program}{w:World}{A:Around}{E:Value->Shared->Prop}{s:Shared}
end
section
variable {P:Program}{w:World}{A:Around}{E:Value->Shared->Prop}{s:Shared}{I a:Addr}{f:Value}{i n ep:Nat}{o:Obj}{es:Array (Int×Value)}{t:SetTable}
end
section
variable {P:Program}{w:World}{A:Around}{E:Value->Shared->Prop}{s:Shared}
variable {a:Addr}{i ep:Nat}{o:Obj}{es:Array (Int×Value)}{t:SetTable}
end
section
variable {P:Program}{w:World}{A:Around}{E:Value->Shared->Prop}{s:Shared}{I a:Addr}{ep:Nat}{o:Obj}{es:Array (Int×Value)}{t:SetTable}
end
end L2
namespace L2
open PySem PySem.Spec PyProof.Rows
section
variable {P:Program}{w:World}{A:Around}{E:Value->Shared->Prop}{s:Shared}{a:Addr}{S:Int->Bool}{n:Nat}
end
end L2
set_option autoImplicit true
set_option relaxedAutoImplicit true
namespace Wr
open PySem L2 PyProof.Rows Dl
structure WD[Gr](X:Cx)(e:Expr)(t:DE):Prop where
 h:PD X e t
structure WDT[Gr](X:Cx)(e:Expr)(t:DT):Prop where
 h:PDT X e t
structure WDW[Gr](X:Cx)(e:Expr)(t:DT):Prop where
 h:PDW X e t
structure WDA[Gr](X:Cx)(e:List Expr)(t:DA):Prop where
 h:PDA X e t
structure WDS[Gr](X:Cx)(e:Stmt)(t:DS):Prop where
 h:PDS X e t
structure WDSs[Gr](X:Cx)(e:List Stmt)(t:DS):Prop where
 h:oR X e t
structure WDI[Gr](X:Cx)(tg e:Expr)(t:DI):Prop where
 h:PDI X tg e t
structure WDG[Gr](X:Cx)(e:Expr)(t:DG):Prop where
 h:PDG X e t
structure WDGs[Gr](X:Cx)(e:List Expr)(t:DGs):Prop where
 h:PGs X e (nR t)
structure WDTs[Gr](X:Cx)(e:List Expr)(t:DT):Prop where
 h:Hu X e t
structure WDO[Gr](X:Cx)(e:Option Expr)(t:DO):Prop where
 h:PO X e (uf t)
structure WV(X:Cx)(e:Expr)(i:Nat):Prop where
 h:PE X e (mQ i)
structure WC(X:Cx)(e:Expr)(v:V):Prop where
 h:PE X e (tC v)
section
variable [Gr]
def wv(i:Nat){x:Str}{pos:Pos}(hN:X.N[i]?=some x:=by rfl)(hv:Vis X.env.scope x:=by first|exact Ļ rfl|exact ź (Ļ rfl)|exact ź (ź rfl))(hd:zB x:=by decide)(hcd:(x == ("__classdict__":Str))=false:=by decide):WV X (.Name x pos) i:=⟨pv i hN hv hd hcd⟩
def wpt{t:DT}(h:WDW X e t):WDT X e t:=⟨PDW.pt h.h⟩
def wty{x:Str}{T:String}(hg:Gl X x)(hm:X.mg x=none)(hv:bootBuiltins x=some (.type T))(hn:x≠"__name__":=by decide)(hd:zB x:=by decide):WC X (.Name x ps) (.ty T):=⟨mz hg hm hv rfl hn hd⟩
def bV{i:Nat}{x:Str}{e:Expr}{te:DE}{pos' pos:Pos}(rg:Option Nat)(hN:X.N.Nodup)(hi:X.N[i]?=some x)(hx:Loc X.env.scope x)(he:WD X e te)(hs:swapsWith e (some (.Name x pos')) pos.line X.env=pure false:=by rfl)(hf:zL X x:=by first|exact .inl rfl|exact .inr rfl|assumption) :
  WDS X (.Assign [.Name x pos'] e pos) (Hq i rg te):=⟨Dl.bV rg (eF hN hi hx he.h hs hf)⟩
def uH(rg:Option Nat)(own:List Str){i:Nat}{y:Str}{py spos:Pos}(hc:X.calm=true)(hN:X.N.Nodup)(hiN:X.N[i]?=some y)(hx:Loc X.env.scope y)(hi:WDI X tg iter ti)(hg:∀c,WDG (X.comp own scope c) tg g)(ht:∀c,WDTs (X.comp own scope c) ifs tt)(he:∀c,WD (X.comp own scope c) elt te)(hsw:swapsWith (.ListComp elt [⟨tg,iter,ifs,0⟩] scope pos) (some (.Name y py)) spos.line X.env=pure true:=by rfl)(hk:gb X.env scope X.N=true:=by rfl)(hs:zF X iter:=by intro _;rfl)(hf:zL X y:=by first|exact .inl rfl|exact .inr rfl|assumption) :
  WDS X (.Assign [.Name y py] (.ListComp elt [⟨tg,iter,ifs,0⟩] scope pos) spos) (Hq i rg (dLC own.length ti g tt te)):=⟨Dl.bV rg (Jm own hc hN hiN hx hi.h (λc=>(hg c).h) (λc=>(ht c).h) (λc=>(he c).h) hsw hk hs hf)⟩
def jl{i:Nat}{x:Str}{e:Expr}{es:List Expr}{apos cpos np pos:Pos}(hv:WV X (.Name x np) i)(ha:WDA X (e::es) (dH te jF))(hbase:attributeBase (.Name x np) "append" X.env (eval (.Name x np) X.env)=eval (.Name x np) X.env:=by rfl)(hfew:zW X cpos (e::es):=by rfl)(hline:(apos.endLine == cpos.line)=true:=by rfl)(hst:zS X e es:=by rfl)(hplain:zP X cpos es:=by rfl)(hs:swapsWith (.Call (.Attribute (.Name x np) "append" apos) (e::es) [] cpos) none pos.line X.env=pure false:=by rfl) :
  WDS X (.Expr (.Call (.Attribute (.Name x np) "append" apos) (e::es) [] cpos) pos) (Hr i te):=⟨Dl.jl (gF (tu ħ ű Ű lE hv.h ha.h hbase hfew hline hst hplain) hs)⟩
def aN{i:Nat}{x:Str}(hN:X.N.Nodup)(hi:X.N[i]?=some x)(hx:Loc X.env.scope x)(hf:zL X x:=by first|exact .inl rfl|exact .inr rfl|assumption):WDG X (.Name x pos) (gNm i):=⟨Dl.aN (mq hN hi hx hf)⟩
def aq{i:Int}{j:Nat}:WD X (.Constant (.int i) j pos) (tK (.int i)):=⟨Dl.aq ⟩
def jr{i:Bool}{j:Nat}:WD X (.Constant (.bool i) j pos) (tK (.bool i)):=⟨Dl.jr ⟩
def kW{j:Nat}:WD X (.Constant .none j pos) (tK .none):=⟨Dl.kW ⟩
def nu{x:Str}{j:Nat}:WD X (.Constant (.str x) j pos) (tK (.str x)):=⟨Dl.nu ⟩
def cN{e:Expr}{t:DE}(h:WD X e t)(he:∀whole,isTrue e X.env whole=(do let v ←whole;standAt e.pos;holding [v] (truthy v)):=by intro _;rfl):WDT X e (jJ t):=⟨Dl.cN (h:=h.h) (he:=he)⟩
def fJ{t:DT}(ha:WDT X a t):WDT X (.UnaryOp .Not a pos) (K6 t):=⟨Dl.fJ (ha:=ha.h)⟩
def jg(ha:WDT X a t):WDW X (.BoolOp .Or [a] pos) t:=⟨Dl.jg (ha:=ha.h)⟩
def kO{rest:List Expr}(ha:WDT X a t)(hb:WDW X (.BoolOp .Or (b::rest) pos) u):WDW X (.BoolOp .Or (a::b::rest) pos) (dOr t u):=⟨Dl.kO (ha:=ha.h) (hb:=hb.h)⟩
def ak :WDA X [] jF:=⟨Dl.ak ⟩
def aj(ha:WD X e te)(hr:WDA X es t)(hs:zS X e es:=by rfl):WDA X (e::es) (dH te t):=⟨Dl.aj (ha:=ha.h) (hr:=hr.h) (hs:=hs)⟩
def aU(h:WDA X es t):WD X (.List es pos) (Hw t):=⟨Dl.aU (h:=h.h)⟩
def bR{x1}(h:WDA X es t):WD X (.Tuple es x1 pos) (vd t):=⟨Dl.bR (h:=h.h)⟩
def qM(ha:WD X a ta)(hb:WD X b tb):WD X (.BinOp a .Sub b pos) (t2 (gI0 λi j=>.int (i - j)) ta tb):=⟨Dl.qM (ha:=ha.h) (hb:=hb.h)⟩
def vJ(ha:WD X a ta)(hb:WD X b tb):WD X (.BinOp a .Mod b pos) (t2 (gI (λ_ j=>0<j) λi j=>.int (i % j)) ta tb):=⟨Dl.vJ (ha:=ha.h) (hb:=hb.h)⟩
def qP(ha:WD X a ta)(hb:WD X b tb):WD X (.BinOp a .Pow b pos) (t2 (gI Le λi j=>.int (i ^ j.toNat)) ta tb):=⟨Dl.qP (ha:=ha.h) (hb:=hb.h)⟩
def Ce(ha:WD X a ta)(hb:WD X b tb):WD X (.Compare a [.Lt] [b] pos) (t2 (gI0 λi j=>.bool (decide (i<j))) ta tb):=⟨Dl.Ce (ha:=ha.h) (hb:=hb.h)⟩
def Cg(ha:WD X a ta)(hb:WD X b tb):WD X (.Compare a [.Gt] [b] pos) (t2 (gI0 λi j=>.bool (decide (j<i))) ta tb):=⟨Dl.Cg (ha:=ha.h) (hb:=hb.h)⟩
def vI(ha:WD X a ta)(hb:WD X b tb):WDT X (.Compare a [.Gt] [b] pos) (jJ (t2 (gI0 λi j=>.bool (decide (j<i))) ta tb)):=⟨Dl.vI (ha:=ha.h) (hb:=hb.h)⟩
def fX{ps:Pos}(hm:X.mg "len"=none)(ha:WDA X [a] t)(hg:Gl X "len":=by rfl)(he:zS X a []:=by rfl)(hpl:zP X pos []:=by rfl):WD X (.Call (.Name "len" ps) [a] [] pos) (tCl Eh t):=⟨Dl.fX (hm:=hm) (ha:=ha.h) (hg:=hg) (he:=he) (hpl:=hpl)⟩
def jh{ps:Pos}(hm:X.mg "int"=none)(hv:bootBuiltins "int"=some (.type "int"))(ha:WDA X [a] t)(hg:Gl X "int":=by rfl)(he:zS X a []:=by rfl)(hpl:zP X pos []:=by rfl):WD X (.Call (.Name "int" ps) [a] [] pos) (tCl Kr t):=⟨Dl.jh (hm:=hm) (hv:=hv) (ha:=ha.h) (hg:=hg) (he:=he) (hpl:=hpl)⟩
def aL :WDSs X [] p7:=⟨Dl.aL ⟩
def aC{st:Stmt}{rest:List Stmt}(h1:WDS X st t)(h2:WDSs X rest u):WDSs X (st::rest) (uL t u):=⟨Dl.aC (h1:=h1.h) (h2:=h2.h)⟩
def aD{st:Stmt}(h1:WDS X st t):WDSs X [st] t:=⟨Dl.aD (h1:=h1.h)⟩
def aG(he:WD X e te):WDS X (.Return (some e) pos) (EY te):=⟨Dl.aG (he:=he.h)⟩
def bW{c:Expr}{a b:List Stmt}{tc:DT}(hc:WDT X c tc)(ha:WDSs X a t)(hb:WDSs X b u):WDS X (.If c a b pos) (dIf tc t u):=⟨Dl.bW (hc:=hc.h) (ha:=ha.h) (hb:=hb.h)⟩
def dM(he:WD X e te)(hs:swapsWith e none pos.line X.env=pure false:=by rfl):WDS X (.Expr e pos) (Fb te):=⟨Dl.dM (he:=he.h) (hs:=hs)⟩
def fU :WDGs X [] DW:=⟨Dl.fU ⟩
def dF{g:DG}{gs:DGs}(h1:WDG X e g)(h2:WDGs X es gs)(hs:(assignEach (e::es) X.env).map (·.2)=assign e X.env::(assignEach es X.env).map (·.2):=by rfl):WDGs X (e::es) (rG g gs):=⟨Dl.dF (h1:=h1.h) (h2:=h2.h) (hs:=hs)⟩
def iY{gs:DGs}{k n:Nat}(hc:X.calm=true)(h:WDGs X es gs)(hn:(assignEach es X.env).length=n:=by rfl)(hst:(assignEach es X.env).findIdx? (·.1)=none:=by rfl):WDG X (.Tuple es k pos) (gTp n gs):=⟨Dl.iY (hc:=hc) (h:=h.h) (hn:=hn) (hst:=hst)⟩
def dD(hl:WD X l tl):WDI X tg l (iSq tl):=⟨Dl.dD (hl:=hl.h)⟩
def cW{a:Expr}{ps:Pos}(hm:X.mg "range"=none)(ha:WDA X [a] ta)(hg:Gl X "range":=by rfl)(hs:starEach [a] X.env=[(false,eval a X.env)]:=by rfl):WDI X tg (.Call (.Name "range" ps) [a] [] pos) (iR1 ta):=⟨Dl.cW (hm:=hm) (ha:=ha.h) (hg:=hg) (hs:=hs)⟩
def iW{body:List Stmt}(hp:PassesOwn (model X.prog X.w) X.A X.env X.xe)(hc:X.calm=true)(hi:WDI X tg iter ti)(hg:WDG X tg g)(hb:WDSs X body tb)(hs:zF X iter:=by intro _;rfl):WDS X (.For tg iter body [] pos) (K7 ti g tb):=⟨Dl.iW (hp:=hp) (hc:=hc) (hi:=hi.h) (hg:=hg.h) (hb:=hb.h) (hs:=hs)⟩
def oA{body:List Stmt}{c:Expr}{tc:DT}(hp:PassesOwn (model X.prog X.w) X.A X.env X.xe)(hc:WDT X c tc)(hb:WDSs X body tb):WDS X (.While c body [] pos) (Ez tc tb):=⟨Dl.oA (hp:=hp) (hc:=hc.h) (hb:=hb.h)⟩
def bN{X:Cx}:WDTs X [] (λ_ P=>P true):=⟨Dl.bN ⟩
def cZ(own:List Str)(hc:X.calm=true)(hi:WDI X tg iter ti)(hg:∀c,WDG (X.comp own scope c) tg g)(ht:∀c,WDTs (X.comp own scope c) ifs tt)(he:∀c,WD (X.comp own scope c) elt te)(hk:gb X.env scope X.N=true:=by rfl)(hs:zF X iter:=by intro _;rfl):WD X (.ListComp elt [⟨tg,iter,ifs,0⟩] scope pos) (dLC own.length ti g tt te):=⟨Dl.cZ (own:=own) (hc:=hc) (hi:=hi.h) (hg:=λc=>(hg c).h) (ht:=λc=>(ht c).h) (he:=λc=>(he c).h) (hk:=hk) (hs:=hs)⟩
def gH{op}(h:WD X a ta):WD X (.BoolOp op [a] pos) ta:=⟨Dl.gH (h:=h.h)⟩
def fY{rest:List Expr}(ha:WD X a ta)(hb:WD X (.BoolOp .And (b::rest) pos) tb):WD X (.BoolOp .And (a::b::rest) pos) (wN ta tb):=⟨Dl.fY (ha:=ha.h) (hb:=hb.h)⟩
def qZ{ps:Pos}(hc:X.calm=true)(hm:X.mg "all"=none)(hv:bootBuiltins "all"=some (.builtin "all"))(ha:WDA X [a] t)(hg:Gl X "all":=by rfl)(he:zS X a []:=by rfl)(hpl:zP X pos []:=by rfl):WD X (.Call (.Name "all" ps) [a] [] pos) (tCl Ku t):=⟨Dl.qZ (hc:=hc) (hm:=hm) (hv:=hv) (ha:=ha.h) (hg:=hg) (he:=he) (hpl:=hpl)⟩
def qW{ps:Pos}(hc:X.calm=true)(hm:X.mg "max"=none)(ha:WDA X [a,b] t)(hg:Gl X "max":=by rfl)(he:starEach [a,b] X.env=(false,eval a X.env)::starEach [b] X.env:=by rfl)(hpl:(backTo pos (starEach [b] X.env)).any (·.1)=false:=by rfl):WD X (.Call (.Name "max" ps) [a,b] [] pos) (tCl (gMM λi j=>if j > i then j else i) t):=⟨Dl.qW (hc:=hc) (hm:=hm) (ha:=ha.h) (hg:=hg) (he:=he) (hpl:=hpl)⟩
def qT{ps:Pos}(hc:X.calm=true)(hm:X.mg "min"=none)(ha:WDA X [a,b] t)(hg:Gl X "min":=by rfl)(he:starEach [a,b] X.env=(false,eval a X.env)::starEach [b] X.env:=by rfl)(hpl:(backTo pos (starEach [b] X.env)).any (·.1)=false:=by rfl):WD X (.Call (.Name "min" ps) [a,b] [] pos) (tCl (gMM λi j=>if j<i then j else i) t):=⟨Dl.qT (hc:=hc) (hm:=hm) (ha:=ha.h) (hg:=hg) (he:=he) (hpl:=hpl)⟩
def gJ{ps:Pos}(hm:X.mg "list"=none)(ha:WDA X [a] t)(hg:Gl X "list":=by rfl)(he:zS X a []:=by rfl)(hpl:zP X pos []:=by rfl):WD X (.Call (.Name "list" ps) [a] [] pos) (tCl Hh t):=⟨Dl.gJ (hm:=hm) (ha:=ha.h) (hg:=hg) (he:=he) (hpl:=hpl)⟩
def dZ{ps:Pos}(hm:X.mg "tuple"=none)(ha:WDA X [a] t)(hg:Gl X "tuple":=by rfl)(he:zS X a []:=by rfl)(hpl:zP X pos []:=by rfl):WD X (.Call (.Name "tuple" ps) [a] [] pos) (tCl Eb t):=⟨Dl.dZ (hm:=hm) (ha:=ha.h) (hg:=hg) (he:=he) (hpl:=hpl)⟩
def eN{ps:Pos}(hm:X.mg "sorted"=none)(ha:WDA X [a] t)(hg:Gl X "sorted":=by rfl)(he:zS X a []:=by rfl)(hpl:zP X pos []:=by rfl):WD X (.Call (.Name "sorted" ps) [a] [] pos) (tCl rH t):=⟨Dl.eN (hm:=hm) (ha:=ha.h) (hg:=hg) (he:=he) (hpl:=hpl)⟩
def eG{ps:Pos}(hm:X.mg "sorted"=none)(ha:WDA X [a] t)(hg:Gl X "sorted":=by rfl)(he:zS X a []:=by rfl)(hpl:zP X pos []:=by rfl):WD X (.Call (.Name "sorted" ps) [a] [] pos) (tCl wg t):=⟨Dl.eG (hm:=hm) (ha:=ha.h) (hg:=hg) (he:=he) (hpl:=hpl)⟩
def cJ :WDO X none CZ:=⟨Dl.cJ ⟩
def bO(h:WD X e te):WDO X (some e) (CW te):=⟨Dl.bO (h:=h.h)⟩
def qQ(ha:WD X a ta):WD X (.UnaryOp .USub a pos) (Lx ta):=⟨Dl.qQ (ha:=ha.h)⟩
def dc{f:List D->(D->Prop)->Prop}(C:Cal X.prog X.w X.K X.mg X.base k x ps (spD f))(hr:Room j X.A)(ha:WDA X (e::es) t)(hk:k<=j:=by decide)(hg:Gl X x:=by rfl)(hdb:zB x:=by decide)(he:zS X e es:=by rfl)(hpl:zP X pos es:=by rfl):WD X (.Call (.Name x p) (e::es) [] pos) (tFn f t):=⟨Dl.dc (C:=C) (hr:=hr) (ha:=ha.h) (hk:=hk) (hg:=hg) (hdb:=hdb) (he:=he) (hpl:=hpl)⟩
def dcP{C:Pn->Prop}{i:Nat}{f:List D->(D->Prop)->Prop}{y:Str}{py:Pos}(CC:Cal X.prog X.w X.K X.mg X.base k x ps (spP C f))(hr:Room j X.A)(hi:WV X (.Name y py) i)(ha:WDA X es t)(hk:k<=j:=by decide)(hg:Gl X x:=by rfl)(hdb:zB x:=by decide)(he:starEach (.Name y py::es) X.env=(false,eval (.Name y py) X.env)::starEach es X.env:=by rfl)(hpl:zP X pos es:=by rfl):WD X (.Call (.Name x p) (.Name y py::es) [] pos) (IW C f i t):=⟨Dl.dcP (CC:=CC) (hr:=hr) (hi:=hi.h) (ha:=ha.h) (hk:=hk) (hg:=hg) (hdb:=hdb) (he:=he) (hpl:=hpl)⟩
def dv(i:Nat){x:Str}{pos:Pos}(hN:X.N[i]?=some x:=by rfl)(hv:Vis X.env.scope x:=by first|exact Ļ rfl|exact ź (Ļ rfl)|exact ź (ź rfl))(hd:zB x:=by decide)(hcd:(x == ("__classdict__":Str))=false:=by decide):WD X (.Name x pos) (tV i):=⟨Dl.dv (i:=i) (hN:=hN) (hv:=hv) (hd:=hd) (hcd:=hcd)⟩
def vK(ha:WD X a ta)(hb:WD X b tb):WD X (.Compare a [.Is] [b] pos) (t2 zj ta tb):=⟨Dl.vK (ha:=ha.h) (hb:=hb.h)⟩
def qL(ha:WD X a ta)(hb:WD X b tb):WDT X (.Compare a [.Is] [b] pos) (jJ (t2 zj ta tb)):=⟨Dl.qL (ha:=ha.h) (hb:=hb.h)⟩
def dcF[Gr]{f:FX}{t:DA}(C:Cal1 X.prog X.w X.K X.mg X.base k x ps (spX f))(hr:Room j X.A)(ha:WDA X (e::es) t)(hk:k<=j:=by decide)(hg:Gl X x:=by rfl)(hdb:zB x:=by decide)(he:zS X e es:=by rfl)(hpl:zP X pos es:=by rfl):WD X (.Call (.Name x p) (e::es) [] pos) (vg f (λ_=>False) t):=⟨Dl.dcF (C:=C) (hr:=hr) (ha:=ha.h) (hk:=hk) (hg:=hg) (hdb:=hdb) (he:=he) (hpl:=hpl)⟩
def kY{ps ps':Pos}(hc:X.calm=true)(hs:X.mg "set"=none)(hl:X.mg "len"=none)(ha:WDA X [a] t)(hgs:Gl X "set":=by rfl)(hgl:Gl X "len":=by rfl)(he:zS X a []:=by rfl)(hpl:zP X pos []:=by rfl)(he':starEach [Expr.Call (.Name "set" ps) [a] [] pos] X.env=(false,eval (Expr.Call (.Name "set" ps) [a] [] pos) X.env)::starEach [] X.env:=by rfl)(hpl':(backTo pos' (starEach [] X.env)).any (·.1)=false:=by rfl):WD X (.Call (.Name "len" ps') [.Call (.Name "set" ps) [a] [] pos] [] pos') (tCl xO t):=⟨Dl.kY (hc:=hc) (hs:=hs) (hl:=hl) (ha:=ha.h) (hgs:=hgs) (hgl:=hgl) (he:=he) (hpl:=hpl) (he':=he') (hpl':=hpl')⟩
def aQ(ha:WD X a ta)(hb:WD X b tb)(hs:sH b:=by exact λ_ _=>rfl):WD X (.Subscript a b pos) (t2 gIx ta tb):=⟨Dl.aQ (ha:=ha.h) (hb:=hb.h) (hs:=hs)⟩
def aR(ha:WD X a ta)(hb:WD X b tb):WD X (.BinOp a .Add b pos) (t2 Ef ta tb):=⟨Dl.aR (ha:=ha.h) (hb:=hb.h)⟩
def iH(ha:WD X a ta)(hb:WD X b tb):WD X (.BinOp a .Mult b pos) (t2 Ec ta tb):=⟨Dl.iH (ha:=ha.h) (hb:=hb.h)⟩
def gK(hu:X.A.units+64<cLine)(ha:WD X a ta)(hb:WD X b tb):WD X (.Compare a [.Eq] [b] pos) (t2 (lH false) ta tb):=⟨Dl.gK (hu:=hu) (ha:=ha.h) (hb:=hb.h)⟩
def cO(hu:X.A.units+64<cLine)(ha:WD X a ta)(hb:WD X b tb):WDT X (.Compare a [.Eq] [b] pos) (jJ (t2 (lH false) ta tb)):=⟨Dl.cO (hu:=hu) (ha:=ha.h) (hb:=hb.h)⟩
def gG(hu:X.A.units+64<cLine)(ha:WD X a ta)(hb:WD X b tb):WDT X (.Compare a [.NotEq] [b] pos) (jJ (t2 (lH true) ta tb)):=⟨Dl.gG (hu:=hu) (ha:=ha.h) (hb:=hb.h)⟩
def bU{rest:List Stmt}(js:List Nat)(h:WDSs X rest t):WDSs X rest (rQ js t):=⟨Dl.bU (js:=js) (h:=h.h)⟩
def qX :WD X (.Dict [] [] pos) (λ_ P=>P .new (.dict [])):=⟨Dl.qX ⟩
def eO{ps ps':Pos}(hc:X.calm=true)(hml:X.mg "list"=none)(hmr:X.mg "range"=none)(ha:WDA X [a] t)(hgl:Gl X "list":=by rfl)(hgr:Gl X "range":=by rfl)(he:zS X a []:=by rfl)(hpl:(backTo pos' (starEach [] X.env)).any (·.1)=false:=by rfl)(he2:starEach [.Call (.Name "range" ps') [a] [] pos'] X.env=(false,eval (.Call (.Name "range" ps') [a] [] pos') X.env)::starEach [] X.env:=by rfl)(hpl2:zP X pos []:=by rfl):WD X (.Call (.Name "list" ps) [.Call (.Name "range" ps') [a] [] pos'] [] pos) (Lz t):=⟨Dl.eO (hc:=hc) (hml:=hml) (hmr:=hmr) (ha:=ha.h) (hgl:=hgl) (hgr:=hgr) (he:=he) (hpl:=hpl) (he2:=he2) (hpl2:=hpl2)⟩
def fK{lo hi:Option Expr}{tl th:DO}(he:WD X e te)(hl:WDO X lo tl)(hh:WDO X hi th):WD X (.Subscript e (.Slice lo hi none p2) pos) (Iz te tl th):=⟨Dl.fK (he:=he.h) (hl:=hl.h) (hh:=hh.h)⟩
def qR{ps:Pos}(hc:X.calm=true)(hm:X.mg "min"=none)(ha:WDA X [a] t)(hg:Gl X "min":=by rfl)(he:zS X a []:=by rfl)(hpl:zP X pos []:=by rfl):WD X (.Call (.Name "min" ps) [a] [] pos) (tCl (yZ (λi j=>if j<i then j else i) (λM a=>M<=a)) t):=⟨Dl.qR (hc:=hc) (hm:=hm) (ha:=ha.h) (hg:=hg) (he:=he) (hpl:=hpl)⟩
def qU{ps:Pos}(hc:X.calm=true)(hm:X.mg "max"=none)(ha:WDA X [a] t)(hg:Gl X "max":=by rfl)(he:zS X a []:=by rfl)(hpl:zP X pos []:=by rfl):WD X (.Call (.Name "max" ps) [a] [] pos) (tCl (yZ (λi j=>if j > i then j else i) (λM a=>a<=M)) t):=⟨Dl.qU (hc:=hc) (hm:=hm) (ha:=ha.h) (hg:=hg) (he:=he) (hpl:=hpl)⟩
end
section
def dcX{f:FX}{Hb:Hp}{t:DA}{E:XK}{x:Str}{p pos:Pos}{e:Expr}{es:List Expr}(C:Cal1 X.prog X.w X.K X.mg X.base k x ps (spX f))(hr:Room j X.A)(hx:Passes (CX1 X.prog X.w) X E)(ha:@WDA (grX Hb) X (e::es) t)(hk:k<=j:=by decide)(hg:Gl X x:=by rfl)(hdb:zB x:=by decide)(he:zS X e es:=by rfl)(hpl:zP X pos es:=by rfl) :
  @WD (grX Hb) X (.Call (.Name x p) (e::es) [] pos) (vg f (Rz E Hb) t):=@WD.mk (grX Hb) _ _ _ (Dl.dcX C hr hx (@WDA.h (grX Hb) _ _ _ ha) hk hg hdb he hpl)
def j7{Hb:Hp}{t:DA}{C:Addr}{E:XK}{x:Str}{pos:Pos}{e:Expr}{es:List Expr}{newId Bn initId:String}{bmB:List Value}{np cpos:Pos}(L:Lets X E)(hc:X.calm=true)(hg:Gl X x)(hm:X.mg x=some (.ref C))(hx:ExcCls X.K C newId bmB)(B:ExcBaseFacts Bn newId initId bmB)(ha:@WDA (grX Hb) X (e::es) t)(hdb:zB x:=by decide)(he:zS X e es:=by rfl)(hpl:(backTo cpos (starEach (e::es) X.env)).any (·.1)=false:=by rfl)(hcons:backTo cpos (starEach (e::es) X.env)=(false,eval e X.env)::backTo cpos (starEach es X.env):=by rfl) :
  @WDS (grX Hb) X (.Raise (some (.Call (.Name x np) (e::es) [] cpos)) none pos) (wB (Rz E Hb) C t):=@WDS.mk (grX Hb) _ _ _ (Dl.j7 L hc hg hm hx B (@WDA.h (grX Hb) _ _ _ ha) hdb he hpl hcons)
def aV[Gr]{T:String}{x:Str}{e:Expr}{te:DE}{ps pt pos:Pos}(hk:∀t:Value,(t=.type "NoneType"\/t=.type "bool"\/t=.type "int"\/t=.type "str"\/t=.type "list"\/t=.type "tuple"\/t=.type "dict")->∃n,t=.type n/\Ĳ X.K t (.type T)=some (n == T || (T == "int"&&n == "bool")))(hm:X.mg "isinstance"=none)(he:WD X e te)(hT:WC X (.Name x pt) (.ty T))(hg:Gl X "isinstance":=by rfl)(h1:starEach [e,.Name x pt] X.env=(false,eval e X.env)::starEach [.Name x pt] X.env:=by rfl)(h2:starEach [.Name x pt] X.env=(false,eval (.Name x pt) X.env)::starEach [] X.env:=by rfl)(hpl:(backTo pos (starEach [.Name x pt] X.env)).any (·.1)=false:=by rfl) :
  WD X (.Call (.Name "isinstance" ps) [e,.Name x pt] [] pos) (tIs T te):=⟨Dl.aV hk hm he.h hT.h hg h1 h2 hpl⟩
def mG[Gr]{x y:Str}{ps pt pt' pp pos:Pos}{kk:Nat}{e:Expr}{te:DE}(hm:X.mg "isinstance"=none)(he:WD X e te)(hT:WC X (.Name x pt) (.ty "list"))(hT':WC X (.Name y pt') (.ty "tuple"))(hg:Gl X "isinstance":=by rfl)(h1:starEach [e,.Tuple [.Name x pt,.Name y pt'] kk pp] X.env=(false,eval e X.env)::starEach [.Tuple [.Name x pt,.Name y pt'] kk pp] X.env:=by rfl)(h2:starEach [.Tuple [.Name x pt,.Name y pt'] kk pp] X.env=(false,eval (.Tuple [.Name x pt,.Name y pt'] kk pp) X.env)::starEach [] X.env:=by rfl)(h3:starEach [.Name x pt,.Name y pt'] X.env=(false,eval (.Name x pt) X.env)::starEach [.Name y pt'] X.env:=by rfl)(h4:starEach [.Name y pt'] X.env=(false,eval (.Name y pt') X.env)::starEach [] X.env:=by rfl)(hpl:(backTo pos (starEach [.Tuple [.Name x pt,.Name y pt'] kk pp] X.env)).any (·.1)=false:=by rfl) :
  WD X (.Call (.Name "isinstance" ps) [e,.Tuple [.Name x pt,.Name y pt'] kk pp] [] pos) (LC te):=⟨Dl.mG hm he.h hT.h hT'.h hg h1 h2 h3 h4 hpl⟩
end
end Wr
set_option autoImplicit false
set_option autoImplicit true
namespace Wr
open PySem L2 PyProof.Rows Dl
section
variable [Gr] {X:Cx}{tj te:DE}
end
section
variable [Gr] {X:Cx}{tj te te1 te2 ta:DE}{t:DS}
end
end Wr
namespace Dl
open PySem L2 PyProof.Rows
section
variable {X:Cx}{pins:List (Addr×Obj)}{σ:L2.St}{H:Hp}{s:Shared}{ok ok':Addr->Prop}
mutual
def Rp.fW(I:Inv X pins σ H s):∀{v:V}{d:D}{u:Value},Rp ok H v d->RelV v u->∃as,Reads s.heap u d as/\∀a∈as,H a≠none
 |_,_,_,.non,r=>by cases r;exact⟨_,.none,λ_ h=>nomatch h⟩
 |_,_,_,.bl b,r=>by cases r;exact⟨_,.bool b,λ_ h=>nomatch h⟩
 |_,_,_,.int i,r=>by obtain⟨t,rfl⟩:=r;exact⟨_,.int i t,λ_ h=>nomatch h⟩
 |_,_,_,.str x,r=>by obtain⟨t,rfl⟩:=r;exact⟨_,.str x t,λ_ h=>nomatch h⟩
 |_,_,_,.lst o h rs,r=>by
  cases r
  obtain⟨its,rv,pl,_⟩:=I.list (SqL.of h)
  obtain⟨as,ra,na⟩:=Rps.fW I rs rv
  obtain⟨ob,ho,hc,n,hd⟩:=pl.isList
  refine⟨_,.list ho hc hd (by simpa using ra),λb hb=>?_⟩
  rcases É.mp hb with rfl|hb
  ·rw[h];exact λz=>nomatch z
  ·exact na b hb
 |_,_,_,.tup h rs,r=>by
  cases r
  obtain⟨its,rv,pl,_⟩:=I.tuple (SqT.of h)
  obtain⟨as,ra,na⟩:=Rps.fW I rs rv
  obtain⟨ob,ho,hc,n,hd⟩:=pl
  exact⟨_,.tuple ho hc hd (by simpa using ra),na⟩
 |_,_,_,.dct (a:=a) (kvs:=kvs) (ds:=ds) o h rs,r=>by
  cases r
  obtain⟨_,_,vs,rel,ob,es,ep,ho,hc,hd,_,hp,_⟩:=Eu I.hok h
  obtain⟨as,bs,ra,rb,na⟩:=Rkv.fW I rs rel hp
  refine⟨_,.dict ho hc.1 hd ra rb,λb hb=>?_⟩
  rcases è.mp hb with hb|hb
  ·rcases É.mp hb with rfl|hb
   ·rw[h];exact λz=>nomatch z
   ·exact na b (.inl hb)
  ·exact na b (.inr hb)
def Rps.fW(I:Inv X pins σ H s):∀{v:List V}{d:List D}{u:List Value},Rps ok H v d->Vals v u->∃as,ReadsAll s.heap u d as/\∀a∈as,H a≠none
 |_,_,_,.nil,r=>by cases r;exact⟨[],.nil,λ_ h=>nomatch h⟩
 |_,_,_,.cons h t,r=>by
  cases r with
  |cons a b =>
   obtain⟨as,ra,na⟩:=Rp.fW I h a
   obtain⟨bs,rb,nb⟩:=Rps.fW I t b
   exact⟨_,.cons ra rb,λc hc=>(è.mp hc).elim (na c) (nb c)⟩
def Rkv.fW(I:Inv X pins σ H s):∀{kvs:List (Key×V)}{ds:List (D×D)}{vs:List (Key×Value)}{es:List DictEntry},Rkv ok H kvs ds->KV kvs vs->Pairs (bF X.prog X.w) es vs->∃as bs,ReadsAll s.heap (es.map (·.key)) (ds.map (·.1)) as/\ReadsAll s.heap (es.map (·.val)) (ds.map (·.2)) bs/\∀a,a∈as\/a∈bs->H a≠none
 |_,_,_,_,.nil,r,p=>by
  cases r
  cases p
  exact⟨[],[],.nil,.nil,λ_ h=>h.elim (λh=>nomatch h) λh=>nomatch h⟩
 |_,_,_,_,.cons h t,r,p=>by
  cases r with
  |cons a b =>
   cases p with
   |cons p1 p2 p3 =>
    obtain⟨a1,a2⟩:=a
    obtain⟨as,bs,ra,rb,nb⟩:=Rkv.fW I t b p3
    obtain⟨cs,rc,nc⟩:=Rp.fW I h a2
    have p1':nZ _ _=true:=p1
    rw[←a1] at p1'
    rw[←p2] at rc
    rcases aX p1' with ⟨i,tk,e1,e2⟩|⟨x,tk,e1,e2⟩
    ·refine⟨_,_,.cons (as:=[]) ?_ ra,.cons rc rb,λc hc=>?_⟩
     ·dsimp only at e1 ⊢;rw[e2,e1]
      exact .int i tk
     ·rcases hc with hc|hc
      ·exact nb c (.inl hc)
      ·exact(è.mp hc).elim (nc c) λz=>nb c (.inr z)
    ·refine⟨_,_,.cons (as:=[]) ?_ ra,.cons rc rb,λc hc=>?_⟩
     ·dsimp only at e1 ⊢;rw[e2,e1]
      exact .str x tk
     ·rcases hc with hc|hc
      ·exact nb c (.inl hc)
      ·exact(è.mp hc).elim (nc c) λz=>nb c (.inr z)
end
mutual
def Rp.jt(f:∀a o,ok a->((∀xs,o≠.tup xs)/\¬Fxd o)->H a=some o->ok' a):∀{v:V}{d:D},Rp ok H v d->Rp ok' H v d
 |_,_,.non=>.non
 |_,_,.bl b=>.bl b
 |_,_,.int i=>.int i
 |_,_,.str x=>.str x
 |_,_,.lst o h r=>.lst (f _ _ o ⟨(λ_ z=>by cases z),λ⟨_,_,z⟩=>by cases z⟩ h) h (Rps.jt f r)
 |_,_,.tup h r=>.tup h (Rps.jt f r)
 |_,_,.dct o h r=>.dct (f _ _ o ⟨(λ_ z=>by cases z),λ⟨_,_,z⟩=>by cases z⟩ h) h (Rkv.jt f r)
def Rps.jt(f:∀a o,ok a->((∀xs,o≠.tup xs)/\¬Fxd o)->H a=some o->ok' a):∀{v:List V}{d:List D},Rps ok H v d->Rps ok' H v d
 |_,_,.nil=>.nil
 |_,_,.cons h r=>.cons (Rp.jt f h) (Rps.jt f r)
def Rkv.jt(f:∀a o,ok a->((∀xs,o≠.tup xs)/\¬Fxd o)->H a=some o->ok' a):∀{v:List (Key×V)}{d:List (D×D)},Rkv ok H v d->Rkv ok' H v d
 |_,_,.nil=>.nil
 |_,_,.cons h r=>.cons (Rp.jt f h) (Rkv.jt f r)
end
end
def Gz(d:D):Prop:=d.showable=true/\d.depth<=50/\d.shown.length<=sizeLine
def uX(base:Heap):Prop:=∃o,base.get? sysModules=some o
section
variable {X:Cx}{pos:Pos}{a e:Expr}{te:DE}{t:DA} [Gr]
def wH(hS:uX X.base)(hg:X.A.guards=some [])(hu:X.A.units+64<cLine):aW X (.builtin "repr") (λxs H Q=>∃ok v d,xs=[v]/\Rp ok H v d/\Gz d/\Q (.str d.shown) H):=by
 intro pins s σ H xs us Q I r h
 obtain⟨ok,v,d,rfl,rd,⟨o2,o3,o4⟩,q⟩:=h
 obtain⟨u,rfl,r1⟩:=vals1 r
 have fin:∀(x:Str) (tk:Tok),x=d.shown->EP X pins σ Q (.str x tk) { s with toks:=s.toks+1 }:=λx tk e=>by subst e;exact⟨.str d.shown,H,I.tok _,⟨tk,rfl⟩,q⟩
 have big:∀a,v=.ref a->wpAny (model X.prog X.w) X.A (call (.builtin "repr") [u]) (EP X pins σ Q) X.xe s:=λa ea=>by
  subst ea
  obtain⟨as,ra,na⟩:=rd.fW I r1
  cases r1
  obtain⟨o,ho⟩:=hS
  refine repr_of_reads' (h₀:=s.heap) ra o2 (λ_ hm=>na _ hm (I.bs _ _ ho).2) hg (by omega) (λ_ _ e=>e) (λh' u tk k=>?_) o4
  exact⟨.str d.shown,H,I.kept k,⟨_,rfl⟩,q⟩
 cases rd with
 |non=>cases r1;exact PySem.P.repr_of_none (fin _ _ rfl)
 |bl b=>cases r1;exact PySem.P.repr_of_bool (fin _ _ (by cases b <;> rfl))
 |int i =>
  obtain⟨t,rfl⟩:=r1
  exact PySem.P.repr_of_int (of_decide_eq_true o2) (fin _ _ rfl)
 |str x =>
  obtain⟨t,rfl⟩:=r1
  exact PySem.P.repr_of_str (fin _ _ rfl) o4
 |lst o h rs=>exact big _ rfl
 |tup h rs=>exact big _ rfl
 |dct o h rs=>exact big _ rfl
def wj:GC:=λks P=>∃k d,ks=[(k,d)]/\Gz d/\P .imm (.str d.shown)
def jQ{ps:Pos}(hS:uX X.base)(hgd:X.A.guards=some [])(hu:X.A.units+64<cLine)(hm:X.mg "repr"=none)(ha:PDA X [a] t)(hg:Gl X "repr":=by rfl)(he:zS X a []:=by rfl)(hpl:zP X pos []:=by rfl):PD X (.Call (.Name "repr" ps) [a] [] pos) (tCl wj t) :=
 dg (wH hS hgd hu) (by
  intro p H0 own Hb H vs ks P Q A r t q
  obtain⟨k,d,rfl,o,t⟩:=t
  obtain⟨v,rfl,r'⟩:=fB r
  exact⟨_,v,d,rfl,r',o,q _ _ _ _ t Kp.refl A.pen (.str _)⟩) hg hm boot_repr ha (by decide) (by decide) he hpl
end
def spR(f:List D->(D->Prop)->Prop):Sp:=λvs H Q _=>∃ok ds P,Rps ok H vs ds/\f ds P/\∀d v H',P d->Same H H'->Rp (λa=>ok a\/H a=none) H' v d->Q v H'
def G4{f:List D->(D->Prop)->Prop}{n:Nat}(hn:∀ds P,f ds P->ds.length=n:=by intro _ _ h;repeat (first|(obtain⟨rfl,_⟩:=h;rfl)|obtain⟨_,h⟩:=h)):∀vs H Q E,spR f vs H Q E->vs.length=n:=λvs H Q E h=>by
 obtain⟨ok,ds,P,r,t,_⟩:=h
 rw[r.length]
 exact hn ds P t
section
variable [Gr]
abbrev DR:=(D->Prop)->List Sl->Prop
structure WishR(p:Pn)(own:Addr->Option Nat)(H:Hp)(P:D->Prop)(Q:Ends):Prop where
 rt:∀d v H',P d->p.PI H'->(∀b o,H b=some o->¬p.fp b->own b=none->H' b=some o)->Rp (λa=>¬p.fp a) H' v d->Q.rt v H'
def Ia(t:DR):TS:=λQ σ H=>∃p H0 own ρ P,EnvD p H0 own σ H ρ/\t P ρ/\WishR p own H P Q
structure WR(X:Cx)(ss:List Stmt)(t:DR):Prop where
 h:PSs X ss (Ia t)
def Ox(te:DE):DR:=λP ρ=>te ρ λ_ d=>P d
def Ms(t:DS)(u:DR):DR:=λP ρ=>t { nx:=u P,rt:=λ_=>False } ρ
variable {X:Cx}{pos:Pos}{e:Expr}{te:DE}{st:Stmt}{rest:List Stmt}{t:DS}{u:DR}
def Jh(he:Wr.WD X e te):WR X [.Return (some e) pos] (Ox te):=⟨PSs.wk' (cH (iC he.h)) (by
 rintro Q σ H ⟨p,H0,own,ρ,P,E,t,w⟩
 exact⟨p,H0,own,ρ,_,E,t,λk d v H' h A r=>w.rt d v H' h A.pen (λb o e n _=>A.kp b o e n) (r.mono (λa o=>jW A o) (λ_ _ _ e=>e) λ_ _ e=>e)⟩)⟩
def lY(h1:Wr.WDS X st t)(h2:WR X rest u):WR X (st::rest) (Ms t u):=⟨PSs.wk' (aO h1.h h2.h) (by
 rintro Q σ H ⟨p,H0,own,ρ,P,E,t,w⟩
 refine⟨p,H0,own,ρ,_,E,t,⟨λo s h r e g n=>⟨p,H0,o,r,P,e,n,⟨λd v H' hP hI hk rp=>w.rt d v H' hP hI (λb ob e1 n1 o1=>?_) rp⟩⟩,λ_ _ _ n=>n.elim,λ_ _ _ _ _ _ n=>n.elim,λ_ _ _ _ _ _ n=>n.elim⟩⟩
 obtain⟨e2,o2⟩:=g.keep b ob e1 n1 o1
 exact hk b ob e2 n1 o2)⟩
def KR{f:List D->(D->Prop)->Prop}{T:DR}{N:List Str}{vs:List V}{H:Hp}{Q:VK}{E:XK}(h:spR f vs H Q E)(body:∀ds P,f ds P->∃ρ,ds.map cF++È (N.length - ds.length) .any=ρ/\T P ρ)(g:∀p,Gr.G p H:=by intro _;trivial):Ia T { nx:=λ_ H'=>Q .non H',rt:=Q } (L2.start N vs) H:=by
 obtain⟨ok,ds,P,r,t,q⟩:=h
 obtain⟨ρ,e,b⟩:=body ds P t
 let p:Pn:=⟨λa=>¬ok a/\∃o,H a=some o/\(∀xs,o≠.tup xs)/\¬Fxd o,λH'=>∀b o,¬ok b->H b=some o->((∀xs,o≠.tup xs)/\¬Fxd o)->H' b=some o,.non,
  λH1 H2 h1 h2 b o n e1 e2=>h2 b o (.inl ⟨n,o,e1,e2⟩) (h1 b o n e1 e2),λH1 b h1 ⟨n,o,e1,e2⟩=>⟨o,h1 b o n e1 e2,e2⟩⟩
 have E:=jk (p:=p) (N:=N) (g p) (λb o _ e _=>e) (r.mono (ok':=λa=>¬p.fp a) (λa o z=>z.1 o) (λ_ _ _ e=>e) λ_ _ e=>e)
 rw[r.length] at E
 rw[e] at E
 refine⟨p,H,λ_=>none,_,_,E,b,⟨λd v H' hP hI hk rp=>?_⟩⟩
 have sm:Same H H':=λb o e=>by
  by_cases hf:p.fp b
  ·obtain⟨n,o',e1,e2⟩:=hf
   rw[e] at e1
   cases e1
   exact hI b o n e e2
  ·exact hk b o e hf rfl
 refine q d v H' hP sm (rp.jt λa o n1 n2 e1=>?_)
 cases hx:H a with
 |none=>exact .inr rfl
 |some o' =>
  have e2:=sm a o' hx
  rw[e1] at e2
  cases e2
  exact .inl (Classical.byContradiction λz=>n1 ⟨z,o,hx,n2⟩)
def LQ(f:List D->(D->Prop)->Prop)(t:DA):DE:=λρ P=>t ρ λks=>(ks.all λk=>k.1.le .shr)=true/\f (ks.map (·.2)) λd=>P (norm .shr d) d
def wU{p:Pn}{H0 Hb H H2:Hp}{own:Addr->Option Nat}(A:At p H0 own Hb H):∀{vs:List V}{ks:List (Kd×D)},RpK p H0 own Hb H2 vs ks->(ks.all λk=>k.1.le .shr)=true->Rps (okK p H0 own Hb .shr) H2 vs (ks.map (·.2))
 |_,_,.nil,_=>.nil
 |_,_,.cons h t,q=>by
  rw[List.all_cons,â] at q
  exact .cons (gW A q.1 h) (wU A t q.2)
variable {k j:Nat}{x:Str}{ps:List Str}{es:List Expr}{ta:DA}{p:Pos}
def dcR{f:List D->(D->Prop)->Prop}(C:Cal X.prog X.w X.K X.mg X.base k x ps (spR f))(hr:Room j X.A)(ha:Wr.WDA X (e::es) ta)(hk:k<=j:=by decide)(hg:Gl X x:=by rfl)(hdb:zB x:=by decide)(he:zS X e es:=by rfl)(hpl:zP X pos es:=by rfl) :
  Wr.WD X (.Call (.Name x p) (e::es) [] pos) (LQ f ta):=⟨PE.wk (pcS C hr ha.h hk hg hdb he hpl) (by
 rintro σ H Q ⟨p,H0,own,ρ,P,E,t,q⟩
 refine⟨p,H0,own,ρ,_,E,t,λks vs H1 h A r=>?_⟩
 show spR f (vs++[]) H1 Q E0
 rw[ą]
 refine⟨_,ks.map (·.2),_,wU A r h.1,h.2,λd v H' h2 s r2=>?_⟩
 have k2:Kp p H1 H':=Kp.of s
 refine q _ d v H' h2 (A.go k2 (p.mono H1 H' A.pen λb o _ e=>s b o e)) (bB ?_)
 refine r2.mono (λa o=>?_) (λ_ _ _ e=>e) λ_ _ e=>e
 rcases o with o|o
 ·exact o
 ·exact dh A (j:=.new) (k:=.shr) rfl (A.free o))⟩
end
end Dl
namespace Wr
open PySem L2 PyProof.Rows Dl
variable [Gr] {X:Cx}{pos:Pos}{a:Expr}{t:DA}
def jQ{ps:Pos}(hS:uX X.base)(hgd:X.A.guards=some [])(hu:X.A.units+64<cLine)(hm:X.mg "repr"=none)(ha:WDA X [a] t)(hg:Gl X "repr":=by rfl)(he:zS X a []:=by rfl)(hpl:zP X pos []:=by rfl):WD X (.Call (.Name "repr" ps) [a] [] pos) (tCl wj t):=⟨Dl.jQ hS hgd hu hm ha.h hg he hpl⟩
end Wr
namespace Dl
open PySem L2 PyProof.Rows
variable [Gr]
section
variable {X:Cx}{pos:Pos}{st:Stmt}{rest:List Stmt}{t u:DS}{te tj t1 t2:DE}
end
end Dl
namespace Wr
open PySem L2 PyProof.Rows Dl
section
variable [Gr] {X:Cx}{tj te t1 t2:DE}{t u:DS}
end
end Wr
set_option autoImplicit false
namespace L2
open PySem PySem.Spec PyProof.Rows
section
variable {X:Cx}{k:Nat}{f CF:Addr}{fd:FuncData}{ps:List Str}{sp:Sp}{E:XK}{x hx n:Str}{p np cpos epos hpos pos:Pos}{e:Expr}{es:List Expr}{t:TA}{b₀:Stmt}{suite:List Stmt}{ts:TS}{j:Nat}
end
section
variable {X:Cx}{k:Nat}{f CF:Addr}{fd:FuncData}{ps:List Str}{sp:Sp}{E:XK}{x hx n:Str}{p np cpos epos hpos pos:Pos}{e:Expr}{es:List Expr}{t:TA}{b₀:Stmt}{suite:List Stmt}{ts:TS}{j:Nat}
end
end L2
namespace Dl
open PySem L2 PyProof.Rows
section
variable [Gr] {X:Cx}{pos:Pos}{a:Expr}{t:DA}
def boot_str:bootBuiltins "str"=some (.type "str"):=by decide +kernel
def Ed:GC:=λks P=>match ks with
 |[(_,.int i)]=>i.natAbs.log2<1920/\P .imm (.str (toString i))
 |_=>False
def qO{ps:Pos}(hm:X.mg "str"=none)(ha:PDA X [a] t)(hg:Gl X "str":=by rfl)(he:zS X a []:=by rfl)(hpl:zP X pos []:=by rfl):PD X (.Call (.Name "str" ps) [a] [] pos) (tCl Ed t) :=
 jT rT (by
  intro p H0 own Hb H vs ks P Q A r t q
  unfold Ed at t
  split at t
  ·rename_i k i
   obtain⟨v,rfl,r'⟩:=fB r
   rw[r'.int']
   exact⟨i,rfl,t.1,q _ _ _ _ t.2 Kp.refl A.pen (.str _)⟩
  ·exact t.elim) hg hm boot_str ha (by decide) (by decide) he hpl
end
end Dl
namespace Wr
open PySem L2 PyProof.Rows Dl
section
variable [Gr] {X:Cx}{pos:Pos}{a:Expr}{t:DA}
def qO{ps:Pos}(hm:X.mg "str"=none)(ha:WDA X [a] t)(hg:Gl X "str":=by rfl)(he:zS X a []:=by rfl)(hpl:zP X pos []:=by rfl):WD X (.Call (.Name "str" ps) [a] [] pos) (tCl Ed t):=⟨Dl.qO hm ha.h hg he hpl⟩
end
end Wr
namespace Dl
open PySem L2 PyProof.Rows
structure Ext(p q:Pn):Prop where
 pv:q.pv=p.pv
 fp:∀a,p.fp a->q.fp a
 pi:∀H,q.PI H->p.PI H
 go:∀H H',q.PI H->Kp p H H'->p.PI H'->q.PI H'
def CE(C:Pn->Prop)(q:Pn):Prop:=∃p,C p/\Ext p q
section
variable [Gr]
variable {X:Cx}{pos:Pos}{c:Expr}{a rest:List Stmt}{tc:DT}{t u:DR}
variable {k j i:Nat}{x y:Str}{ps:List Str}{es:List Expr}{ta:DA}{pp py:Pos}
end
end Dl
namespace L2
open PySem PySem.Spec PyProof.Rows Builtin
section
variable {X:Cx}
end
end L2
namespace Dl
open PySem L2 PyProof.Rows
section
variable [Gr]
variable {X:Cx}{pos:Pos}{a b e:Expr}{ta tb te:DE}{p1 p2 p3:Pos}
end
end Dl
namespace Wr
open PySem L2 PyProof.Rows Dl
section
variable [Gr] {X:Cx}{pos:Pos}{a b e:Expr}{ta tb te:DE}{p1 p2 p3:Pos}
end
end Wr
namespace L2
open PySem PySem.Spec PyProof.Rows Builtin
section
variable {X:Cx}
end
end L2
namespace Dl
open PySem L2 PyProof.Rows
section
variable [Gr] {X:Cx}{pos p2:Pos}{a b e:Expr}{t:DA}{ta tb te:DE}
end
end Dl
namespace Wr
open PySem L2 PyProof.Rows Dl
section
variable [Gr] {X:Cx}{pos p2:Pos}{a b e:Expr}{t:DA}{ta tb te:DE}
end
end Wr
namespace Dl
open PySem L2 PyProof.Rows
variable [Gr]
section
variable {X:Cx}{st st2:Stmt}{rest:List Stmt}{te1 te2:DE}{tt:DT}{tr:TS}{t:DS}
end
section
variable {X:Cx}{own:List Str}{scope:Scope}{tg iter elt:Expr}{ifs:List Expr}{pos:Pos}{g:DG}{tt:DT}{te:DE}
end
end Dl
namespace Wr
open PySem L2 PyProof.Rows Dl
variable [Gr]
section
variable {X:Cx}{te1 te2:DE}{tt:DT}{tr:TS}{t:DS}
end
end Wr
namespace PySem
open PySem.W PyProof.Rows PySem.Spec
section
variable {prog:Program}{w:World}{A:Around}{E:Value->Shared->Prop}{s:Shared}{it l:Addr}{items:Array Value}
end
end PySem
namespace L2
open PySem PySem.Spec PyProof.Rows
section
variable {X:Cx}
end
end L2
namespace Dl
open PySem L2 PyProof.Rows
section
variable [Gr] {X:Cx}{a:Expr}{t:DA}
end
end Dl
namespace Wr
open PySem L2 PyProof.Rows Dl
section
variable [Gr] {X:Cx}{a:Expr}{t:DA}
end
end Wr
namespace L2
open PySem PyProof.Rows
section
variable {X:Cx}{pins:List (Addr×Obj)}{σ:List (Option V)}{H:Hp}{s:Shared}
end
end L2
namespace Dl
open PySem L2 PyProof.Rows
variable [Gr]
section
variable {X:Cx}{pos pos':Pos}{a:Expr}{t:DA}
end
end Dl
namespace Wr
open PySem L2 PyProof.Rows Dl
section
variable [Gr] {X:Cx}{pos pos':Pos}{a:Expr}{t:DA}
end
end Wr
namespace L2
open PySem PySem.Spec PyProof.Rows
open PySem.AutoSeq1 (wpAny_loadPart')
open PySem.MeetsSeq PySem.MeetsSeq3
section
variable {prog:Program}{w:World}{A:Around}{E:Value->Shared->Prop}{s:Shared}
end
section
variable {X:Cx}
end
end L2
namespace Dl
open PySem L2 PyProof.Rows
section
variable {X:Cx}{pos:Pos}{a:Expr}{t:DA} [Gr]
end
end Dl
namespace L2
open PySem PySem.Spec PyProof.Rows
section
variable {prog:Program}{w:World}{A:Around}{E:Value->Shared->Prop}{s:Shared}
end
section
variable {X:Cx}
end
end L2
namespace Dl
open PySem L2 PyProof.Rows
section
variable {X:Cx}{pos:Pos}{a e:Expr}{t:DA} [Gr]
end
end Dl
namespace L2
open PySem PySem.Spec PyProof.Rows
open AutoSeq1 in
section
variable {X:Cx}
end
end L2
namespace Dl
open PySem L2 PyProof.Rows
variable [Gr]
section
variable {X:Cx}{st:Stmt}{te:DE}{pos:Pos}{ta:DA}
end
end Dl
namespace Wr
open PySem L2 PyProof.Rows Dl
section
variable [Gr] {X:Cx}{pos:Pos}{a:Expr}{ta t:DA}{te:DE}
end
end Wr
namespace Dl
open PySem L2 PyProof.Rows
variable [Gr]
section
variable {X:Cx}{st st2:Stmt}{rest:List Stmt}{tj te1 te2:DE}{tt:DT}{t:DS}{K:Ê}
end
end Dl
namespace Wr
open PySem L2 PyProof.Rows Dl
section
variable [Gr] {X:Cx}{tj te1 te2:DE}
end
end Wr
namespace L2
open PySem PySem.Spec PyProof.Rows
structure LamScope(ps ys:List Str)(sc:Scope)(cl:List (Str×Addr)):Prop where
 kind:sc.kind=.function
 co:sc.isCoroutine=false
 gen:sc.isGenerator=false
 nd:(ps++ys).Nodup
 par:∀x∈ps,sc.names.lookup x=some .local
 fre:∀y∈ys,sc.names.lookup y=some .free
 nocell:∀x∈sc.names,x.2≠.cell
 all:∀x,sc.names.lookup x=some .free->∃c,cl.lookup x=some c
 inj:∀x y c,cl.lookup x=some c->cl.lookup y=some c->x=y
def cxL(CX:CXT)(P:Program)(w:World)(K:Ê)(mg:Str->Option Value)(base:Heap)(N:List Str)(qual:Str)(scope:Scope)(f:Addr)(cd:Value)(cl:List (Str×Addr))(A:Around)(outer:List Env)(s:Shared)(H:Hp)(E:XK):Cx where
 prog:=P
 w:=w
 K:=K
 mg:=mg
 base:=base
 A:=A.deeper (W.envX qual scope s.heap.objs.size f cd cl)
 N:=N
 s₀:=s
 H₀:=H
 env:=W.envX qual scope s.heap.objs.size f cd cl
 outer:=outer
 stack:=W.envX qual scope s.heap.objs.size f cd cl::outer
 ex:=[]
 calm:=true
 fn:=λ_=>false
 pn:=[]
 xe:=λe s'=>wpAny (model P w) (A.deeper (W.envX qual scope s.heap.objs.size f cd cl)) (leaving (W.envX qual scope s.heap.objs.size f cd cl) e) (λ_ s''=>CX outer H s E e s'') (λe' s''=>CX outer H s E e' s'') s'
structure Caps(base:Heap)(cl:List (Str×Addr))(ys:List Str)(cvs:List V):Prop where
 len:cvs.length=ys.length
 cells:∀x c,cl.lookup x=some c->∃v,base.IsCell c v
 val:∀(j:Nat) (y:Str) (v:V),ys[j]?=some y->cvs[j]?=some v->∃c u,cl.lookup y=some c/\base.IsCell c (some u)/\RelV v u
def vX{CX:CXT}{P:Program}{w:World}{K:Ê}{mg:Str->Option Value}{base:Heap}{ps ys:List Str}{qual:Str}{scope:Scope}{f:Addr}{cd:Value}{cl:List (Str×Addr)}{A:Around}{outer:List Env}{s:Shared}{h1:Heap}{tk:Nat}{H:Hp}{E:XK}{us:List Value}{vs cvs:List V}(S:LamScope ps ys scope cl)(hd:A.handled=none)(e0:Env0 P w K mg base A outer s H)(hl:vs.length=ps.length)(r:Vals vs us)(C:Caps base cl ys cvs)(hn:h1.Ns s.heap.objs.size (λx=>(ps.zip us).reverse.lookup x))(hk:∀b o,s.heap.get? b=some o->h1.get? b=some o) :
  Inv (cxL CX P w K mg base (ps++ys) qual scope f cd cl A outer s H E) [] (start (ps++ys) (vs++cvs)) H { s with heap:=h1,toks:=tk }:=by
 have noA:∀b:Addr,b∉(cxL CX P w K mg base (ps++ys) qual scope f cd cl A outer s H E).ex:=λb z=>absurd (show b∈([]:List Addr) from z) (by simp)
 have bk:∀b o,base.get? b=some o->h1.get? b=some o:=λb o e=>hk b o (e0.bs b o e).1
 have cne:∀x c,cl.lookup x=some c->H c=none:=λx c e=>by
  obtain⟨v,o,ho,_⟩:=C.cells x c e
  exact(e0.bs c o ho).2
 refine⟨⟨e0.mod,S.kind,rfl,rfl,Æ _,S.inj,λy hy=>?_,(λy c z _=>(nomatch z)),λ_=>hd,Around.frames_deeper e0.frames,.inr ⟨rfl,rfl⟩,λb z=>absurd z (noA b),e0.bs,e0.bsz,λb _ _=>noA b,λb z=>absurd z (noA b),e0.jC,e0.frf,λq z=>nomatch (show q∈([]:List (Addr×Obj×HO)) from z)⟩,
  rfl,e0.bare,Un.kept hk,⟨_,hn,λi y v h1 h2 h3=>?_⟩,λy c h=>?_,e0.hok.fresh (Æ _),λy c h=>cne y c h,λp hp=>absurd (show p∈([]:List (Addr×Obj)) from hp) (by simp),e0.hok.kept hk,?_⟩
 ·have hy:scope.names.lookup y=some .cell\/scope.names.lookup y=some .free:=hy
  rcases hy with hy|hy
  ·exact absurd rfl (S.nocell _ (Ā hy))
  ·exact S.all y hy
 ·have ha:(vs++cvs)[i]?=some v:=by
   unfold start at h2
   by_cases hi:i<(vs++cvs).length
   ·rw[ü (by simpa using hi),Þ] at h2
    cases e:(vs++cvs)[i]? with
    |none=>rw[e] at h2;cases h2
    |some a=>rw[e] at h2;cases h2;rfl
   ·rw[ê (by simpa using hi)] at h2
    rw[ę] at h2
    split at h2 <;> cases h2
  have h1:(ps++ys)[i]?=some y:=h1
  by_cases hi:i<ps.length
  ·rw[ü (by omega)] at h1 ha
   obtain⟨u,hu,rv⟩:=r.get ha
   have ndP:ps.Nodup:=(List.nodup_append.mp S.nd).1
   refine⟨u,rv,.inl ⟨S.par y (Ñ h1),?_⟩⟩
   have rl:∀(l:List (Str×Value)) (x:Str) (u:Value),(l.map (·.1)).Nodup->(x,u)∈l->l.lookup x=some u:=λl x u=>by
    induction l with
    |nil=>intro _ z;cases z
    |cons p l ih =>
     intro nd z
     obtain⟨a,b⟩:=p
     rw[Ą,Ě] at nd
     rcases É.mp z with z|z
     ·cases z;rw[Ü];simp
     ·have:x≠a:=λe=>nd.1 (by rw[←e];exact List.mem_map.mpr ⟨(x,u),z,rfl⟩)
      rw[Ü,show(x == a)=false by simpa using this]
      exact ih nd.2 z
   refine rl _ _ _ ?_ (List.mem_reverse.mpr ?_)
   ·rw[List.map_reverse,List.map_fst_zip (by rw[←r.length,hl];exact Æ _)]
    exact List.pairwise_reverse.mpr (ndP.imp λh e=>h e.symm)
   ·exact Ñ (i:=i) (by rw[ġ];exact⟨h1,hu⟩)
  ·rw[ê (by omega)] at h1 ha
   rw[hl] at ha
   obtain⟨c,u,e,hc,rv⟩:=C.val _ _ _ h1 ha
   exact⟨u,rv,.inr ⟨.inr (S.fre y (Ñ h1)),c,e,hc.keeps bk⟩⟩
 ·obtain⟨v,hc⟩:=C.cells y c h
  exact⟨v,hc.keeps bk⟩
 ·unfold start
  show _=(ps++ys).length
  rw[Ð,Á,ğ,Ð,Ð,C.len,hl]
  omega
def N7(x:Obj)(qual:Str):Prop:=∃vs t,x.data=.fields vs/\vs[1]?=some (.str qual t)
def qw(H:Hp)(c':Addr)(qual:Str):Prop:=∃x φ,H c'=some (.frz x (.ext φ))/\N7 x qual
def Kw{CX:CXT}{P:Program}{w:World}{K:Ê}{mg:Str->Option Value}{base:Heap}{k:Nat}{f c':Addr}{name qual:Str}{params:Arguments}{body:Expr}{scope:Scope}{pm ctv:Value}{cl:List (Str×Addr)}{ps ys:List Str}{cvs:List V}{sp:Sp}(lk:base.get? f=some (ŵ name qual params body scope cl pm c' ctv))(hcd:∀vs H Q E,sp vs H Q E->qw H c' qual)(S:LamScope ps ys scope cl)(C:Caps base cl ys cvs)(len:∀vs H Q E,sp vs H Q E->vs.length=ps.length)(hbody:∀(A:Around) (outer:List Env) (s:Shared) (H:Hp) (vs:List V) (Q:VK) (E:XK),Room k (A.deeper (W.envX qual scope s.heap.objs.size f (.ref c') cl))->sp vs H Q E ->
   ∃t,PE (cxL CX P w K mg base (ps++ys) qual scope f (.ref c') cl A outer s H E) body t/\t (start (ps++ys) (vs++cvs)) H Q) :
  FnOk P w K mg base CX (k+1) f (W.kla_fn name qual params body scope cl pm (.ref c') ctv) ps sp:=by
 refine⟨len,λA outer s H args us vs Q E hr e0 hb r hsp=>?_⟩
 have hl:=len _ _ _ _ hsp
 have bk:∀b o,base.get? b=some o->s.heap.get? b=some o:=λb o e=>(e0.bs b o e).1
 have lim:s.heap.NoLimit:=e0.mod.nolimit.keeps bk
 have hcd':s.heap.CodeRec (.ref c') qual:=by
  obtain⟨x,φ,e,vs,t,h1,h2⟩:=hcd _ _ _ _ hsp
  exact⟨c',x,vs,t,rfl,(e0.hok _ _ e).1,h1,h2⟩
 refine W.kla_callFunE hr.depth (bk _ _ lk) rfl S.co S.gen rfl hcd' (hb _ _ _ _ ?_)
 have hloc:∀y∈ps.zip us,scope.names.lookup y.1=some .local:=λ⟨n,v⟩ hy=>S.par n (List.of_mem_zip hy).1
 refine wpAny_newFunctionEnv S.nocell hloc (λh₁ hns hsb=>?_) S.kind
 have hk₁:∀b o,s.heap.get? b=some o->h₁.get? b=some o:=λb o e=>hsb.extBut b o (Û (Å e)) (Ä _ e)
 refine⟨lim.keeps hk₁,?_⟩
 show codeAny _ _ (.expr body (W.envX qual scope s.heap.objs.size f (.ref c') cl)) _ _
 obtain⟨t,ht,hq⟩:=hbody A outer s H vs Q E (hr.deeper _) hsp
 have I:Inv (cxL CX P w K mg base (ps++ys) qual scope f (.ref c') cl A outer s H E) [] (start (ps++ys) (vs++cvs)) H { s with heap:=h₁,toks:=s.toks+(ps.zip us).length }:=vX S hr.hd e0 hl r C hns hk₁
 refine W.kla_codeExpr (č (ht [] _ _ H _ I hq) (λu s' hs=>?_) λe s' hs=>hs)
 obtain⟨v,H',J,rv,q⟩:=hs
 exact⟨v,H',J.os,J.bare,J.base,J.hok,rv,q⟩
def reb(base h:Heap)(L:List Addr):Heap:=ł h ((Ø h.objs.size).filter λb=>(base.get? b).isNone&&!decide (b∈L))
def qH{base h:Heap}{L:List Addr}{b:Addr}:b∉((Ø h.objs.size).filter λb=>(base.get? b).isNone&&!decide (b∈L))↔(h.objs.size<=b\/(∃o,base.get? b=some o)\/b∈L):=by
 rw[List.mem_filter,List.mem_range,â,Option.isNone_iff_eq_none,Bool.not_eq_true',decide_eq_false_iff_not]
 constructor
 ·intro z
  by_cases h1:b<h.objs.size
  ·cases e:base.get? b with
   |some o=>exact .inr (.inl ⟨o,rfl⟩)
   |none =>
    by_cases h2:b∈L
    ·exact .inr (.inr h2)
    ·exact absurd ⟨h1,e,h2⟩ z
  ·exact .inl (Nat.le_of_not_lt h1)
 ·rintro(z|⟨o,z⟩|z) ⟨a,b,c⟩
  ·exact absurd a (Nat.not_lt.mpr z)
  ·rw[z] at b;cases b
  ·exact c z
def Bl{base h:Heap}{L:List Addr}{b:Addr}{o:Obj}(e:h.get? b=some o)(m:b∈L):(reb base h L).get? b=some o:=Ţ _ e (qH.mpr (.inr (.inr m)))
def Bm{base h:Heap}{L:List Addr}(bk:∀b o,base.get? b=some o->h.get? b=some o):∀b o,base.get? b=some o->(reb base h L).get? b=some o:=λb o e=>Ţ _ (bk b o e) (qH.mpr (.inr (.inl ⟨o,e⟩)))
def CK{base h:Heap}{L:List Addr}{b:Addr}{o:Obj}(e:(reb base h L).get? b=some o):h.get? b=some o/\((∃o,base.get? b=some o)\/b∈L):=by
 have e1:=W.of_hideAll _ e
 refine⟨e1,?_⟩
 have n:b∉((Ø h.objs.size).filter λb=>(base.get? b).isNone&&!decide (b∈L)):=λz=>by
  have:=W.hideAll_none (h:=h) _ z
  rw[show(ł h ((Ø h.objs.size).filter λb=>(base.get? b).isNone&&!decide (b∈L))).get? b=some o from e] at this
  cases this
 exact(qH.mp n).resolve_left (λz=>absurd (Å e1) (Nat.not_lt.mpr z))
def Mod.reb{K:Ê}{mg:Str->Option Value}{base h:Heap}{L:List Addr}(m:Mod K mg base)(bk:∀b o,base.get? b=some o->h.get? b=some o):Mod K mg (reb base h L):=by
 have k:=Bm (L:=L) bk
 obtain⟨mb,hb,hx⟩:=m.blt
 exact⟨m.kin.keeps k,m.glob.keeps k,⟨mb,hb.keeps k,hx⟩,m.nolimit.keeps k⟩
def Env0.reb{P:Program}{w:World}{K:Ê}{mg:Str->Option Value}{base:Heap}{A:Around}{outer:List Env}{s:Shared}{H:Hp}{L:List Addr}(e:Env0 P w K mg base A outer s H)(hL:∀b∈L,H b=none)(hf:∀b∈L,b∉frs outer):Env0 P w K mg (reb base s.heap L) A outer s H:=by
 have bk:∀b o,base.get? b=some o->s.heap.get? b=some o:=λb o z=>(e.bs b o z).1
 refine⟨e.frames,e.mod.reb bk,λb o z=>?_,?_,?_,e.frf,e.hok,e.bare⟩
 ·obtain⟨h1,h2⟩:=CK z
  refine⟨h1,?_⟩
  rcases h2 with ⟨o',h2⟩|h2
  ·exact(e.bs b o' h2).2
  ·exact hL b h2
 ·unfold L2.reb
  rw[W.hideAll_size]
  exact Æ _
 ·have all:∀l:List Env,(∀b∈L,b∉frs l)->s.heap.FunFrames base l->s.heap.FunFrames (L2.reb base s.heap L) l:=by
   intro l
   induction l with
   |nil=>intro _ _;trivial
   |cons env r ih =>
    intro hs hl
    obtain⟨hk,⟨F,o,hf,hn,ho,hd⟩,hr⟩:=hl
    refine⟨hk,⟨F,o,hf,?_,ho,hd⟩,ih (λb hb z=>hs b hb ?_) hr⟩
    ·cases q:(L2.reb base s.heap L).get? F with
     |none=>rfl
     |some u =>
      obtain⟨_,h2⟩:=CK q
      rcases h2 with ⟨o',h2⟩|h2
      ·rw[hn] at h2;cases h2
      ·exact absurd (by unfold frs;rw[ď,hf];exact Ì) (hs F h2)
    ·unfold frs at z ⊢
     rw[ď,hf]
     exact Ï _ z
  exact all outer hf e.jC
section
variable {X:Cx}{CX:CXT}{k i:Nat}{f:Addr}{fd:FuncData}{ps:List Str}{sp:Sp}{E:XK}{x:Str}{p pos:Pos}{e:Expr}{es:List Expr}{t:TA}
end
def uW(P:Addr)(pos:Pos)(qual:Str)(H:Hp):Prop:=∃ps,H P=some (.tbl ps)/\(ps=#[]\/∃c',ps=#[rawInt pos.line,rawInt pos.col,.ref c']/\qw H c' qual)
def Ob{h h':Heap}{L:Addr}{m:Str->Option Value}(x:h.Ns L m)(k:∀o,h.get? L=some o->h'.get? L=some o):h'.Ns L m:=by
 obtain⟨o,es,ep,ho,r⟩:=x
 exact⟨o,es,ep,k o ho,r⟩
section
variable {X:Cx}{pins:List (Addr×Obj)}{σ:St}{H:Hp}{s:Shared}{c P:Addr}{pos:Pos}{qual:Str}{params:Arguments}{body:Expr}{scope:Scope}{cl:List (Str×Addr)}{Q:Value->Shared->Prop}{E:Value->Shared->Prop}
def yL(I:Inv X pins σ H s)(hq:X.env.qual++"<lambda>"=qual)(hdef:defaultsOf params X.env=([],[]))(hcl:closureFor scope X.env=pure cl)(hcode:X.env.code=.ref c)(hC:X.K.In X.base->W.CodeHd X.base c P)(hB:X.K.In X.base->X.base.BuiltinsAt X.mg P)(T:uW P pos qual H)(h:∀f c' ctv pm s' H',Inv X pins σ H' s'->uW P pos qual H'->qw H' c' qual->H' f=none->s'.heap.get? f=some (ŵ "<lambda>" qual params body scope cl pm c' ctv)->f∉frs X.stack->(∀b o,H b=some o->b≠P->H' b=some o) ->
   (∀b o,s.heap.get? b=some o->H b=none->s'.heap.get? b=some o/\H' b=none)->Q (.ref f) s') :
  wpAny (model X.prog X.w) X.A (eval (.Lambda params body scope pos) X.env) Q E s:=by
 have hC:=hC I.ok.mod.kin
 have hB:=hB I.ok.mod.kin
 obtain⟨ps,hP,hps⟩:=T
 have hPh:s.heap.get? P=some (ţ ps):=I.hok P _ hP
 have neP:∀b,H b=none->b≠P:=λb e z=>by rw[z,hP] at e;cases e
 have hgs:s.heap.Ns mainGlobals X.mg:=I.mod.glob.keeps I.bk
 have hgP:mainGlobals≠P:=by
  obtain⟨o,_,_,ho,_⟩:=I.mod.glob
  exact neP _ (I.bs _ _ ho).2
 have hB':s.heap.BuiltinsAt X.mg P:=by
  obtain⟨bm,o,h1,h2,h3,h4,h5,r⟩:=hB
  exact⟨bm,o,h1,h2,h3,h4,I.bk _ _ h5,r⟩
 have fsz:∀b,s.heap.objs.size<=b->b∉frs X.stack:=λb hb z=>by
  obtain⟨_,o,ho,_⟩:=I.stack.mem z
  exact absurd (Å ho) (Nat.not_lt.mpr hb)
 refine W.kla_eval hdef ?_
 rw[hq]
 rcases hps with rfl|⟨c',rfl,kn⟩
 ·refine W.kla_makeFunction (mg:=X.mg) hcl I.ok.glob hgs hcode (hC.keeps I.bk) hPh (by trivial) (by rfl) hgP hB' λc' ctv h' tk hx hge hlt hrec htb=>?_
  obtain⟨c₂,oc,vs,t,e2,hoc,hd,hv⟩:=hrec
  cases e2
  have keep:∀b o,b≠P->s.heap.get? b=some o->(h'.push (ŵ "<lambda>" qual params body scope cl ((X.mg "__name__").getD .none) c' ctv)).get? b=some o:=λb o n e=>Ä _ (hx b o n e)
  have hc0:H c'=none:=I.hok.fresh hge
  have cP:c'≠P:=neP c' hc0
  have cS:∀b o,s.heap.get? b=some o->b≠c':=λb o e z=>by subst z;exact absurd (Å e) (Nat.not_lt.mpr hge)
  have htb':(h'.push (ŵ "<lambda>" qual params body scope cl ((X.mg "__name__").getD .none) c' ctv)).get? P=some (ţ (#[]++#[rawInt pos.line,rawInt pos.col,.ref c'])):=Ä _ htb
  have hoc':=Ä (ŵ "<lambda>" qual params body scope cl ((X.mg "__name__").getD .none) c' ctv) hoc
  let H':Hp:=upd (upd H P (.tbl #[rawInt pos.line,rawInt pos.col,.ref c'])) c' (.frz oc (.ext λ_=>True))
  have u0:∀b,b≠P->b≠c'->H' b=H b:=λb h1 h2=>by show upd _ _ _ b=_;rw[ao h2,ao h1]
  have uP:H' P=some (.tbl #[rawInt pos.line,rawInt pos.col,.ref c']):=by show upd _ _ _ P=_;rw[ao (é cP),aA]
  have uc:H' c'=some (.frz oc (.ext λ_=>True)):=aA
  have nc:∀b o,H b=some o->b≠c':=λb o e z=>by rw[z,hc0] at e;cases e
  have kn:qw H' c' qual:=⟨oc,_,uc,vs,t,hd,hv⟩
  have J:Inv X pins σ H' { s with heap:=h'.push (ŵ "<lambda>" qual params body scope cl ((X.mg "__name__").getD .none) c' ctv),toks:=tk }:=by
   refine I.step (g':=s.gens) (d':=s.drawn) (ch:=[]) (λ_ z=>nomatch z) (λb o _ _ _ e n=>keep b o (neP b n) e) (λb o _ _ _ e n=>⟨o.slots,keep b o (neP b n) e⟩) (λb o _ e n=>by rw[u0 b (neP b n) (cS b o e)];exact n) (λb o _ e=>?_) (λb xs e=>?_) (λb o u e=>?_) (λb ps e=>?_) (λm hm=>Ob hm λo e=>keep _ o (neP _ I.free) e) (λa o e=>?_) I.bare
   ·by_cases z:b=P
    ·subst z;exact⟨_,htb'⟩
    ·exact⟨o,keep b o z e⟩
   ·rw[u0 b (λz=>by rw[z,hP] at e;cases e) (nc b _ e)];exact e
   ·rw[u0 b (λz=>by rw[z,hP] at e;cases e) (nc b _ e)];exact e
   ·by_cases z:b=P
    ·subst z
     rw[hP] at e
     cases e
     exact⟨#[rawInt pos.line,rawInt pos.col,.ref c'],by rw[uP];simp⟩
    ·exact⟨#[],by rw[u0 b z (nc b _ e),e];simp⟩
   ·by_cases z:a=c'
    ·subst z
     rw[uc] at e
     cases e
     exact⟨hoc',trivial,⟨_,hoc'⟩,λ_ _ _ _=>trivial⟩
    ·by_cases z2:a=P
     ·subst z2
      rw[uP] at e
      cases e
      exact htb'
     ·rw[u0 a z2 z] at e
      have ow:∀b,H b=some (.own a)->b≠P:=λb q y=>by rw[y,hP] at q;cases q
      exact(I.hok a o e).stay (λb u hb q=>keep b u (hb.elim (λy=>y ▸ z2) (ow b)) q) (λb q=>by rw[u0 b (ow b q) (nc b _ q)];exact q) λb xs q=>by rw[u0 b (λy=>by rw[y,hP] at q;cases q) (nc b _ q)];exact q
  have hsz:s.heap.objs.size<=h'.objs.size:=Nat.le_of_lt (Nat.lt_of_le_of_lt hge hlt)
  have fP:h'.objs.size≠P:=λz=>absurd (Å hPh) (Nat.not_lt.mpr (z ▸ hsz))
  refine h h'.objs.size c' ctv _ _ H' J ⟨_,uP,.inr ⟨c',rfl,kn⟩⟩ kn (by rw[u0 _ fP (ļ hlt)];exact I.hok.fresh hsz) (Ô _ rfl) (fsz _ hsz) (λb o e n=>by rw[u0 b n (nc b _ e)];exact e) λb o e n=>⟨keep b o (neP b n) e,by rw[u0 b (neP b n) (cS b o e)];exact n⟩
 ·refine W.kla_makeFunctionHit (mg:=X.mg) (cv:=.ref c') hcl I.ok.glob hgs hcode (hC.keeps I.bk) hPh (by trivial) (codeAmong_snoc (pos:=pos) (c:=.ref c') [] trivial rfl) hB' λctv h' tk hk hsz=>?_
  have keep:∀b o,s.heap.get? b=some o->(h'.push { cls:=.type "function",data:=.func (W.kla_fn "<lambda>" qual params body scope cl ((X.mg "__name__").getD .none) (.ref c') ctv) }).get? b=some o:=λb o e=>Ä _ (hk b o e)
  exact h h'.objs.size c' ctv _ _ H (I.kept (t':=tk) keep) ⟨_,hP,.inr ⟨c',rfl,kn⟩⟩ kn (I.hok.fresh hsz) (Ô _ rfl) (fsz _ hsz) (λb o e _=>e) λb o e n=>⟨keep b o e,n⟩
end
structure LamAt(base:Heap)(f c':Addr)(qual:Str)(params:Arguments)(body:Expr)(scope:Scope)(cl:List (Str×Addr))(ys:List Str)(cvs:List V)(H:Hp):Prop where
 fn:∃pm ctv,base.get? f=some (ŵ "<lambda>" qual params body scope cl pm c' ctv)
 caps:Caps base cl ys cvs
 kn:qw H c' qual
section
variable {X:Cx}{k:Nat}{fh c P:Addr}{fdh:FuncData}{ps ys:List Str}{sp:Heap->Sp}{x:Str}{p pos lpos:Pos}{e:Expr}{te:TE}{qual:Str}{params:Arguments}{body:Expr}{scope:Scope}{cl:List (Str×Addr)}
end
end L2
namespace Dl
open PySem L2 PyProof.Rows
def O1(P:Addr)(pos:Pos)(qual:Str):Pn where
 fp:=λb=>b=P
 PI:=uW P pos qual
 pv:=.non
 mono:=λH H' ⟨ps,h,r⟩ k=>⟨ps,k _ _ (.inl rfl) h,r.imp id λ⟨c',e,x,φ,hc,cx⟩=>⟨c',e,x,φ,k _ _ (.inr ⟨x,φ,rfl⟩) hc,cx⟩⟩
 is:=λH b ⟨ps,h,_⟩ hb=>by
  subst hb
  exact⟨_,h,(λxs z=>(nomatch z)),λ⟨_,_,z⟩=>(nomatch z)⟩
def spT(T:Pn)(f:List D->(D->Prop)->Prop):Sp:=λvs H Q _=>∃ds P,T.PI H/\Rps (λa=>¬T.fp a) H vs ds/\f ds P/\∀d v H',P d->Kp T H H'->T.PI H'->Rp (λa=>H a=none) H' v d->Q v H'
def G3{T:Pn}{f:List D->(D->Prop)->Prop}{n:Nat}(hn:∀ds P,f ds P->ds.length=n:=by intro _ _ h;repeat (first|(obtain⟨rfl,_⟩:=h;rfl)|obtain⟨_,h⟩:=h)):∀vs H Q E,spT T f vs H Q E->vs.length=n:=λvs H Q E ⟨ds,P,_,r,t,_⟩=>by
 rw[r.length]
 exact hn ds P t
def Pn.plus(p T:Pn):Pn where
 fp:=λb=>p.fp b\/T.fp b
 PI:=λH=>p.PI H/\T.PI H
 pv:=p.pv
 mono:=λH H' h k=>⟨p.mono H H' h.1 λb o z e=>k b o (z.imp .inl id) e,T.mono H H' h.2 λb o z e=>k b o (z.imp .inr id) e⟩
 is:=λH b h z=>z.elim (p.is H b h.1) (T.is H b h.2)
def Apart(p T:Pn):Prop:=∀H,p.PI H->T.PI H->∀b,p.fp b->¬T.fp b
def CT(C:Pn->Prop)(T:Pn):Pn->Prop:=λq=>∃p,C p/\Apart p T/\q=p.plus T
def Dc{p:Pn}{H:Hp}{b:Addr}{o:HO}(h:p.PI H)(e:H b=some o)(c:Fxd o):¬p.fp b:=λz=>by
 obtain⟨o',e',n⟩:=p.is H b h z
 rw[e] at e'
 cases e'
 exact n.2 c
def Ax{C:Pn->Prop}{T:Pn}{f:List D->(D->Prop)->Prop}:∀vs H Q E,spP (CT C T) f vs H Q E->spP C f vs H Q E:=by
 rintro vs H Q E ⟨q,vs',ds,P,⟨p,c,ap,rfl⟩,rfl,pi,r,t,k⟩
 refine⟨p,vs',ds,P,c,rfl,pi.1,r.mono (λa o z=>o (.inl z)) (λ_ _ _ e=>e) (λ_ _ e=>e),t,λd v H' hP kp pi' rp=>k d v H' hP (λb o e n=>kp b o e λz=>n (.inl z)) ⟨pi',T.mono H H' pi.2 λb o z e=>kp b o e λy=>?_⟩ rp⟩
 rcases z with z|z
 ·exact ap H pi.1 pi.2 b y z
 ·exact Dc pi.1 e z y
def Cal.plus{P:Program}{w:World}{K:Ê}{mg:Str->Option Value}{base:Heap}{k:Nat}{x:Str}{ps:List Str}{C:Pn->Prop}{T:Pn}{f:List D->(D->Prop)->Prop}(c:Cal P w K mg base k x ps (spP C f)):Cal P w K mg base k x ps (spP (CT C T) f):=by
 obtain⟨g,fd,F,r⟩:=c.ex
 exact⟨g,fd,F.imp Ax,r⟩
section
variable [Gr] {X:Cx}{k j:Nat}{x:Str}{ps:List Str}{e:Expr}{es:List Expr}{t:DA}{p pos:Pos}{C:Pn->Prop}{T:Pn}{i:Nat}{f:List D->(D->Prop)->Prop}
def IV(C:Pn->Prop)(T:Pn)(i:Nat)(f:List D->(D->Prop)->Prop)(t:DA):DE:=λρ P=>ρ[i]?=some (.pen (CT C T))/\t ρ λks=>f (ks.map (·.2)) λd=>P (norm .new d) d
def Dq:∀σ H Q,cV (IV C T i f t) σ H Q->jK (spT T f) [] E0 (ju t) σ H Q:=by
 rintro σ H Q ⟨q,H0,own,ρ,P,E,⟨hi,t⟩,k⟩
 obtain⟨_,p,c,ap,rfl⟩:=E.slot i _ hi
 refine⟨_,H0,own,ρ,_,E,t,λks vs H1 h A r=>?_⟩
 show spT T f (vs++[]) H1 Q E0
 rw[ą]
 refine⟨ks.map (·.2),_,A.pen.2,(RpK.rps A r).mono (λ_ o z=>o (.inr z)) (λ_ _ _ e=>e) (λ_ _ e=>e),h,λd v H' h2 kp pi' r2=>?_⟩
 have k2:Kp (p.plus T) H1 H':=λb o e n=>kp b o e λz=>n (.inr z)
 refine k _ d v H' h2 (A.go k2 ⟨p.mono H1 H' A.pen.1 λb o z e=>kp b o e λy=>?_,pi'⟩) (bB ?_)
 ·rcases z with z|z
  ·exact ap H1 A.pen.1 A.pen.2 b z y
  ·exact Dc A.pen.2 e z y
 ·exact r2.mono (λa o=>A.free o) (λ_ _ _ e=>e) λ_ _ e=>e
def dcT(CC:Cal X.prog X.w X.K X.mg X.base k x ps (spT T f))(hr:Room j X.A)(ha:PDA X (e::es) t)(hk:k<=j:=by decide)(hg:Gl X x:=by rfl)(hdb:zB x:=by decide)(he:zS X e es:=by rfl)(hpl:zP X pos es:=by rfl) :
  PD X (.Call (.Name x p) (e::es) [] pos) (IV C T i f t):=PE.wk (pcS CC hr ha hk hg hdb he hpl) Dq
end
section
variable {X:Cx}{k j:Nat}{x:Str}{ps:List Str}{e:Expr}{es:List Expr}{t:DA}{p pos:Pos}{Z:Hp->Prop}{i:Nat}{f:Addr}{fd:FuncData}{g:List D->(D->Prop)->Prop}
end
end Dl
namespace Wr
open PySem L2 PyProof.Rows Dl
variable {X:Cx}{k j:Nat}{x:Str}{ps:List Str}{e:Expr}{es:List Expr}{t:DA}{p pos:Pos}{Z:Hp->Prop}{i:Nat}{f:Addr}{fd:FuncData}{g:List D->(D->Prop)->Prop}
def dcT[Gr]{C:Pn->Prop}{T:Pn}(CC:Cal X.prog X.w X.K X.mg X.base k x ps (spT T g))(hr:Room j X.A)(ha:WDA X (e::es) t)(hk:k<=j:=by decide)(hg:Gl X x:=by rfl)(hdb:zB x:=by decide)(he:zS X e es:=by rfl)(hpl:zP X pos es:=by rfl) :
  WD X (.Call (.Name x p) (e::es) [] pos) (IV C T i g t):=⟨Dl.dcT CC hr ha.h hk hg hdb he hpl⟩
end Wr
namespace Dl
open PySem L2 PyProof.Rows
section
variable [Gr] {X:Cx}{st:Stmt}{i k a b:Nat}{f:List D->(D->Prop)->Prop}
end
end Dl
namespace Wr
open PySem L2 PyProof.Rows Dl
section
variable [Gr] {X:Cx}{i k a b lv j:Nat}{f:List D->(D->Prop)->Prop}{x g y z1 z2:Str}{ps:List Str}{apos cpos np pos gp gpos py px pa pb:Pos}
end
end Wr
namespace L2
open PySem PySem.Spec PyProof.Rows
def yO{P:Program}{w:World}{K:Ê}{mg mb:Str->Option Value}{k:Nat}{fa a c PT:Addr}{fd:FuncData}{x:Str}{sp:Sp}{s₁:Shared}{vs:List Value}{ns:List Int}(KX:K.In s₁.heap)(hKP:K.lookup PT=none)(hC:W.CodeHd s₁.heap c PT)(hPT:s₁.heap.get? PT=some (ţ #[]))(hns:s₁.heap.Ns mainGlobals mg)(hb:s₁.heap.Ns builtinsNs mb)(hbb:∀x:Str,x≠"__name__"->mb x=bootBuiltins x)(hlim:s₁.heap.NoLimit)(hBm:s₁.heap.BuiltinsAt mg PT)(hg:s₁.gens=#[])(ha:s₁.heap.get? a=some { cls:=.type "list",data:=.seq vs.toArray })(hi:IntsAre vs ns)(hl:ns.length<=sizeLine)(hr:Room k callerA)(F:∀base:Heap,K.In base->base.Ns mainGlobals mg->base.BuiltinsAt mg PT->(∀(b:Addr) (m:Str->Option Value),s₁.heap.Ns b m->base.Ns b m)->FnOk P w K mg base CX0 k fa fd [x] sp)(hbind:∀(s:Shared) (u:Value),BindsTo s fd ⟨[u],[]⟩ [(x,u)])(hsp:∀H:Hp,SqL K H a (ns.map V.int)->H PT=some (.tbl #[])->sp [.ref a] H (λv _=>v=.bl true) λ_ _ _=>False) :
  codeAny (model P w) callerA (.call (.ref fa) ⟨[.ref a],[]⟩) (λr s'=>r=.ok (.ret (.bool true))/\OldK s₁.heap s'.heap/\s'.os=s₁.os/\AllBare s'.gens) s₁:=by
 have rv:=kh hi
 have lenV:=hi.length
 have aP:a≠PT:=λz=>by rw[z,hPT] at ha;cases ha
 have core:∀H:Hp,SqL K H a (ns.map V.int)->HOk P w H s₁.heap->H PT=some (.tbl #[])->(∀b u,H b=some u->b≠PT->b=a/\K.lookup a=none/\∃o u',u=.frz o u') ->
   codeAny (model P w) callerA (.call (.ref fa) ⟨[.ref a],[]⟩) (λr s'=>r=.ok (.ret (.bool true))/\OldK s₁.heap s'.heap/\s'.os=s₁.os/\AllBare s'.gens) s₁:=by
  intro H hS hok hT hA
  have nD:∀{b:Addr}{o:Obj}{es:Array DictEntry}{ep:Nat},s₁.heap.get? b=some o->o.data=.dict es ep->H b=none:=λ{b o es ep} e d=>by
   cases q:H b with
   |none=>rfl
   |some u =>
    by_cases z:b=PT
    ·rw[z,hPT] at e;cases e;cases d
    ·have:=(hA b u q z).1
     subst this
     rw[ha] at e;cases e;cases d
  have nsK:∀{b:Addr}{m:Str->Option Value},s₁.heap.Ns b m->(rE s₁.heap H).Ns b m:=λ{b m} ⟨o,es,ep,e,d,r⟩=>⟨o,es,ep,n6 e (nD e d),d,r⟩
  have hKb:K.In (rE s₁.heap H):=λb o e=>n6 (KX b o e) (by
   cases q:H b with
   |none=>rfl
   |some u =>
    by_cases z:b=PT
    ·rw[z,hKP] at e;cases e
    ·obtain⟨z1,z2,_⟩:=hA b u q z
     rw[z1,z2] at e;cases e)
  have hM:Mod K mg (rE s₁.heap H):=⟨hKb,nsK hns,⟨mb,nsK hb,hbb⟩,let ⟨mc,h1,h2⟩:=hlim;⟨mc,nsK h1,h2⟩⟩
  have e0:Env0 P w K mg (rE s₁.heap H) callerA [] s₁ H:=⟨rfl,hM,λb o e=>GD e,Nat.le_of_eq (yX _ _),trivial,λb hb=>absurd (show b∈([]:List Addr) from hb) (by simp),hok,.of_eq hg⟩
  have hBb:(rE s₁.heap H).BuiltinsAt mg PT:=by
   obtain⟨bm,o,h1,h2,h3,h4,h5,h6,h7⟩:=hBm
   refine⟨bm,o,h1,h2,h3,h4,n6 h5 ?_,h6,h7⟩
   cases q:H bm with
   |none=>rfl
   |some u =>
    have:=(hA bm u q h4).1
    subst this
    rw[ha] at h5;cases h5
    have h6:đ "list"=đ "module":=h6
    exact absurd h6 (by decide)
  refine Ŷ ((F _ hKb (nsK hns) hBb λb m z=>nsK z).run callerA [] s₁ H ⟨[.ref a],[]⟩ [.ref a] [.ref a] _ _ hr e0 (hbind s₁ (.ref a)) (.cons rfl .nil) (hsp H hS hT)) λr s' h=>?_
  cases r with
  |error e=>exact h.elim
  |ok fl =>
   cases fl with
   |next=>exact ø h
   |brk=>exact ø h
   |cont=>exact ø h
   |ret u =>
    obtain⟨v,H',os,bare,un,hok',r',q⟩:=h
    have q':v=.bl true:=q
    subst q'
    obtain rfl:u=ū true:=r'
    obtain⟨more,hT'⟩:=un.tbls PT _ hT
    have eT:s'.heap.get? PT=some { cls:=.none,data:=.fields (#[]++more) }:=hok' PT _ hT'
    have kept:∀b o,s₁.heap.get? b=some o->b≠PT->s'.heap.get? b=some o:=λb o e nb=>by
     cases q:H b with
     |none=>exact un.keep b o e q (by intro z;exact absurd (show b∈([]:List Addr) from z) (by simp)) (by simp)
     |some u =>
      obtain⟨_,_,ob,u',rfl⟩:=hA b u q nb
      have e1:=(hok b _ q).1
      rw[e] at e1;cases e1
      exact(hok' b _ (un.frzs b _ _ q)).1
    refine⟨rfl,⟨λb o e=>?_,λb o e=>?_⟩,os,bare⟩
    ·by_cases z:b=PT
     ·subst z
      rw[hPT] at e
      cases e
      exact .inr (.inl ⟨(hC.tab hPT).isCodeTable,rfl,#[],more,rfl,eT⟩)
     ·exact .inl (kept b o e z)
    ·by_cases z:b=PT
     ·subst z;exact⟨_,eT⟩
     ·exact⟨o,kept b o e z⟩
 cases hk:K.lookup a with
 |some o =>
  have e:=KX a o hk
  rw[ha] at e
  cases e
  refine core (λb=>if b=PT then some (.tbl #[]) else none) (.inr ⟨_,vs.toArray,_,hk,rfl,rfl,rfl,by rw[Ë,lenV];exact hl,by simpa using rv⟩) (λb u z=>?_) (if_pos rfl) λb u z nb=>?_
  ·by_cases hb:b=PT
   ·have z':=(if_pos hb).symm.trans z
    cases z'
    subst hb
    exact hPT
   ·have z':=(if_neg hb).symm.trans z
    cases z'
  ·have z':=(if_neg nb).symm.trans z
   cases z'
 |none =>
  let H:Hp:=λb=>if b=PT then some (.tbl #[]) else if b=a then some (.frz { cls:=.type "list",data:=.seq vs.toArray } (.lst (ns.map V.int))) else none
  have hP1:H PT=some (.tbl #[]):=if_pos rfl
  have hA1:H a=some (.frz { cls:=.type "list",data:=.seq vs.toArray } (.lst (ns.map V.int))):=(if_neg aP).trans (if_pos rfl)
  have hN1:∀b,b≠PT->b≠a->H b=none:=λb h1 h2=>(if_neg h1).trans (if_neg h2)
  refine core H (.inl (.inr ⟨_,hA1⟩)) (λb u z=>?_) hP1 λb u z nb=>?_
  ·by_cases hb:b=PT
   ·subst hb
    rw[hP1] at z
    cases z
    exact hPT
   ·by_cases hb2:b=a
    ·subst hb2
     rw[hA1] at z
     cases z
     exact⟨ha,by rw[Á];exact hl,vs,_,rv,ha⟩
    ·rw[hN1 b hb hb2] at z;cases z
  ·by_cases hb2:b=a
   ·subst hb2
    rw[hA1] at z
    cases z
    exact⟨rfl,hk,_,_,rfl⟩
   ·rw[hN1 b nb hb2] at z;cases z
def Af{l:W.OpenLaw}{n k:Nat}{q:Program}{loose:List Str}{XP:(Str->Option Value)->Heap->Prop}{YP:World->Heap->Prop}{d:DefRec}{K:Params->Ê}{x:Str}(hi:importsNone q=true)(hn:l.most=some n)(hn2:n<=sizeLine)(hdf:d.params.defaults=[])(hr:Room k callerA)(hY:∀(w:World) (h:Heap),YP w h->(K w.params).In h)(F:∀(w:World) (mg:Str->Option Value) (fa:Addr) (h:Heap),(K w.params).In h->h.Ns mainGlobals mg->mg d.name=some (.ref fa) ->
   ∃(K':Ê) (c PT:Addr) (fd:FuncData) (sp:Sp),K'.In h/\K'.lookup PT=none/\W.CodeHd h c PT/\h.get? PT=some (ţ #[])/\(∀(s:Shared) (u:Value),BindsTo s fd ⟨[u],[]⟩ [(x,u)]) /\
    (∀base:Heap,K'.In base->base.Ns mainGlobals mg->base.BuiltinsAt mg PT->(∃o,base.get? sysModules=some o)->FnOk l.prog w K' mg base CX0 k fa fd [x] sp)/\∀(H:Hp) (a:Addr) (ns:List Int),SqL K' H a (ns.map V.int)->H PT=some (.tbl #[])->sp [.ref a] H (λv _=>v=.bl true) λ_ _ _=>False) :
  W.WalkO q loose XP YP l.row.toRowW d [] (λf vs=>PySem.call f vs):=by
 refine Att.uV hn hdf λw s₀ s₁ mg mb fa o pm cd doc a vs ns G Y ho hd hcd hmg hobj hints hlen hg=>?_
 obtain⟨K',c,PT,fd,sp,k1,k2,k3,k4,hb,hF,hsp⟩:=F w mg fa _ (hY w _ Y) G.T.g hmg
 have hBm:s₁.heap.BuiltinsAt mg PT:=by
  obtain⟨bm,ob,b1,b2,b3,b4,b5,b6⟩:=G.T.bmain
  have n1:bm≠PT:=λz=>by rw[z,k4] at b3;cases b3;cases b4
  have n2:bm≠mainGlobals:=λz=>by
   obtain⟨o,es,ep,e,hd,_⟩:=G.T.g
   rw[z,e] at b3;cases b3;rw[hd] at b6;cases b6
  exact⟨bm,ob,b1,b2,n2,n1,b3,b4,b5,b6⟩
 obtain⟨mm,hm,_⟩:=(G.T.seer hi).mods
 exact yO k1 k2 k3 k4 G.T.g G.T.b G.T.builtins G.T.nolimit hBm hg hobj hints (ô hlen hn2) hr (λbase h1 h2 h3 h4=>hF base h1 h2 h3 (let ⟨o,_,_,e,_⟩:=h4 _ _ hm;⟨o,e⟩)) hb λH hS hT=>hsp H a ns hS hT
section
variable {K:Ê}{PT b f:Addr}{h:Heap}
end
def Iu{K:Ê}{PT:Addr}{h:Heap}(X:W.Frag.In ((([PT]:List Addr).map λa=>(a,ţ #[]))++K) h)(n:K.lookup PT=none):K.In h/\h.get? PT=some (ţ #[]):=by
 refine⟨λa o e=>X a o ?_,X PT _ ?_⟩
 ·have:a≠PT:=λz=>by rw[z,n] at e;cases e
  show Ĭ a ((PT,ţ #[])::K)=some o
  rw[Ü,show(a == PT)=false by simpa using this]
  exact e
 ·show Ĭ PT ((PT,ţ #[])::K)=_
  rw[Ü,beq_self_eq_true]
end L2
namespace L2
open PySem PySem.Spec PyProof.Rows PySem.Builtin PySem.Builtin.Str
section
variable {X:Cx}
end
end L2
namespace L2
open PySem PySem.Spec PyProof.Rows
section
variable {X:Cx}
abbrev FP:=List (Str ⊕ Nat)
inductive FPs(X:Cx):List Expr->FP->Prop
 |nil:FPs X [] []
 |str {c:Str}{k:Nat}{ps:Pos}{es:List Expr}{r:FP} (t:FPs X es r):FPs X (.Constant (.str c) k ps::es) (.inl c::r)
 |val {e:Expr}{i:Nat}{ps:Pos}{es:List Expr}{r:FP} (h:PE X e (mQ i)) (t:FPs X es r):FPs X (.FormattedValue e (-1) none ps::es) (.inr i::r)
end
end L2
namespace Dl
open PySem L2 PyProof.Rows
section
variable [Gr] {X:Cx}{pos:Pos}{a b e o tg l:Expr}{ta tb te tl to:DE}{t:DA}
end
end Dl
namespace Wr
open PySem L2 PyProof.Rows Dl
section
variable [Gr] {X:Cx}{pos:Pos}{a b tg l:Expr}{ta tb te tl:DE}{t:DA}
end
end Wr
set_option autoImplicit true
namespace Dl
open PySem L2 PyProof.Rows
class Tb where
 T:Pn
instance (priority:=low) noTb:Tb:=⟨fM⟩
def oW[Tb](a:Addr)(n:Nat):Pn where
 fp:=λb=>b=a\/Tb.T.fp b
 PI:=λH=>(∃x y c:Int,H a=some (.lst [.int x,.int y,.int c])/\0<=c/\c+(n:Int)<=1152921504606846976)/\Tb.T.PI H/\¬Tb.T.fp a
 pv:=.ref a
 mono:=λH H' ⟨⟨x,y,c,h,r⟩,t,na⟩ k=>⟨⟨x,y,c,k _ _ (.inl (.inl rfl)) h,r⟩,Tb.T.mono H H' t λb o z e=>k b o (z.imp .inr id) e,na⟩
 is:=λH b ⟨⟨x,y,z,h,_⟩,t,_⟩ hb=>hb.elim (λhb=>by
  subst hb
  exact⟨_,h,(λxs z=>(nomatch z)),λ⟨_,_,z⟩=>(nomatch z)⟩) (Tb.T.is H b t)
def TP:Pn->Prop:=λ_=>True
def Ou:Sl->Sl
 |.pen _=>.pen TP
 |s=>s
def stp(ρ:List Sl):List Sl:=ρ.map Ou
section
variable [Tb] {X:Cx}{a:Addr}{n m m1 m2 m3:Nat}{H0 Hb H H1 H':Hp}{own:Addr->Option Nat}{σ:L2.St}{ρ:List Sl}
structure EnvB(a:Addr)(n m:Nat)(H0:Hp)(own:Addr->Option Nat)(σ:L2.St)(H:Hp)(ρ:List Sl):Prop where
 st:stp ρ=ρ
 pi:(oW a (n+m)).PI H
 env:EnvD (oW a n) H0 own σ H ρ
def J1(m:Nat)(t:DE):TE:=λσ H Q=>∃a n H0 own ρ P,EnvB a n m H0 own σ H ρ/\t ρ P/\∀k d v H',P k d->At (oW a n) H0 own H H'->Rp (okK (oW a n) H0 own H k) H' v d->Q v H'
def J2(m:Nat)(t:DA):TA:=λσ H Q=>∃a n H0 own ρ P,EnvB a n m H0 own σ H ρ/\t ρ P/\∀ks vs H',P ks->At (oW a n) H0 own H H'->RpK (oW a n) H0 own H H' vs ks->Q vs H'
def vR(m:Nat)(t:DT):TT:=λσ H Q=>∃a n H0 own ρ P,EnvB a n m H0 own σ H ρ/\t ρ P/\∀b H',P b->At (oW a n) H0 own H H'->Q b H'
def J0(m:Nat)(t:DI):TI:=λσ H R=>∃a n H0 own ρ P,EnvB a n m H0 own σ H ρ/\t ρ P/\∀k ds J H1 Ok,P k ds->At (oW a n) H0 own H H1->Wlk Ok J ds (okA (oW a n) H0 own H k H1)->Ok H1->R J H1
def Dt(m:Nat)(t:DS):TS:=λQ σ H=>∃a n H0 own ρ P,EnvB a n m H0 own σ H ρ/\t P ρ/\Wish (oW a n) H0 own H P Q
end
end Dl
namespace Wb
open PySem L2 PyProof.Rows Dl Wr
section
variable [Tb]
structure BE(X:Cx)(m:Nat)(e:Expr)(t:DE):Prop where
 h:PE X e (J1 m t)
structure BA(X:Cx)(m:Nat)(e:List Expr)(t:DA):Prop where
 h:PA X e (J2 m t)
structure BT(X:Cx)(m:Nat)(e:Expr)(t:DT):Prop where
 h:PT X e (vR m t)
structure BW(X:Cx)(m:Nat)(e:Expr)(t:DT):Prop where
 h:PW X e (vR m t)
structure BTs(X:Cx)(m:Nat)(e:List Expr)(t:DT):Prop where
 h:PTs X e (vR m t)
structure BI(X:Cx)(m:Nat)(tg e:Expr)(t:DI):Prop where
 h:PI X tg e (J0 m t)
structure BS(X:Cx)(m:Nat)(s:Stmt)(t:DS):Prop where
 h:PS X s (Dt m t)
structure BSs(X:Cx)(m:Nat)(s:List Stmt)(t:DS):Prop where
 h:PSs X s (Dt m t)
end
section
variable [Tb] {X:Cx}{n m m1 m2 m3:Nat}{H0 Hb H H1 H':Hp}{own:Addr->Option Nat}{σ:L2.St}{ρ:List Sl}{pos:Pos}{a b e:Expr}{es:List Expr}{ta tb te:DE}{t:DA}
section
variable {rest:List Expr}{t u:DT}
end
end
end Wb
namespace Dl
open PySem L2 PyProof.Rows
section
variable [Tb]
end
end Dl
namespace Wb
open PySem L2 PyProof.Rows Dl Wr
section
variable [Tb]
def sT(t:DT):DT:=λρ P=>t (stp ρ) P
end
section
variable [Tb] {X:Cx}{n m m1 m2 m3:Nat}{H0 Hb H H1 H':Hp}{own:Addr->Option Nat}{σ:L2.St}{ρ:List Sl}{pos:Pos}{a b e:Expr}{es:List Expr}{ta tb te:DE}
def uL(t u:DS):DS:=λP ρ=>t { nx:=λr=>u P (stp r),rt:=P.rt,bk:=λr=>P.bk (stp r),ct:=λr=>P.ct (stp r) } ρ
section
variable {st:Stmt}{rest:List Stmt}{t u:DS}
end
end
variable {X:Cx}{K:Ê}{sc:Addr}{ns:List Int}{pre:List D->Prop}
end Wb
namespace Wr
open PySem L2 PyProof.Rows Dl
variable [Gr] {X:Cx}{pos:Pos}{a b:Expr}{ta tb:DE}
end Wr
namespace Dl
open PySem L2 PyProof.Rows
@[reducible] def grE(a CN:Addr):Gr:=⟨λp H0=>p=fM/\H0 a=some (uF a (.ref CN))⟩
variable {X:Cx}{pos:Pos}
structure RefK(K:Ê)(mg:Str->Option Value)(xN:Str)(xs:List Str)(CN CF c1 c2 c3 c4 c5 c6 c7 c8 c9:Addr):Prop where
 mF:mg "FallError"=some (.ref CF)
 mN:mg xN=some (.ref CN)
 m1:mg (xs.getD 0 "")=some (.ref c1)
 m2:mg (xs.getD 1 "")=some (.ref c2)
 m3:mg (xs.getD 2 "")=some (.ref c3)
 m4:mg (xs.getD 3 "")=some (.ref c4)
 m5:mg (xs.getD 4 "")=some (.ref c5)
 m6:mg (xs.getD 5 "")=some (.ref c6)
 m7:mg (xs.getD 6 "")=some (.ref c7)
 m8:mg (xs.getD 7 "")=some (.ref c8)
 m9:mg (xs.getD 8 "")=some (.ref c9)
 mV:mg "ValueError"=none
 exm:W.exmOne K (.ref CN) (.ref CF)=some true
 kx:ExcK K CN
 no:∀c∈[æ c1,.ref c2,.ref c3,.ref c4,.ref c5,.ref c6,.ref c7,.ref c8,.ref c9],Ĳ K (.ref CN) c=some false
 one:Ĳ K (.ref CN) (.ref CN)=some true
 val:Ĳ K (.ref CN) (.type "ValueError")=some true
def pF:bootBuiltins "ValueError"=some (.type "ValueError"):=by decide +kernel
end Dl
namespace L2
open PySem PySem.Spec PyProof.Rows
variable {X:Cx}{k:Nat}{f CF:Addr}{fd:FuncData}{ps:List Str}{sp:Sp}{x hx n:Str}{p np cpos epos hpos:Pos}{e:Expr}{es:List Expr}{t:TA}{b₀:Stmt}{suite:List Stmt}{ts:TS}{j:Nat}
end L2
namespace PySem
open PyProof.Rows
section
variable {prog:Program}{w:World}{A:Around}{E:Value->Shared->Prop}{s:Shared}
end
end PySem
namespace L2
open PySem PySem.Spec PyProof.Rows
def SC(X:Cx):Prop:=∃q,q∈X.sf
def NoC(o:Obj):Prop:=∃ws,o.data=.fields ws/\ws[2]?=some .none
section
variable {X:Cx}{tg:Expr}
end
structure RoomD(k:Nat)(A:Around):Prop where
 dp:A.depth+3 * k+5<recursionLimit
 un:A.units+16 * k+200<cLine
structure FnOkH(P:Program)(w:World)(K:Ê)(mg:Str->Option Value)(base:Heap)(k:Nat)(f:Addr)(fd:FuncData)(ps:List Str)(sp:Addr×Obj×HO->Sp):Prop where
 len:∀q vs H Q E,sp q vs H Q E->vs.length=ps.length
 run:∀(A:Around) (outer:List Env) (s:Shared) (H:Hp) (args:Args) (us:List Value) (vs:List V) (Q:VK) (q:Addr×Obj×HO),A.handled=some (.ref q.1)->H q.1=some (.frz q.2.1 q.2.2)->NoC q.2.1->RoomD k A->Env0 P w K mg base A outer s H->BindsTo s fd args (ps.zip us)->Vals vs us->sp q vs H Q E0 ->
  codeAny (model P w) A (.call (.ref f) args) (CR CX0 outer P w H s Q E0) s
structure CalH(P:Program)(w:World)(K:Ê)(mg:Str->Option Value)(base:Heap)(k:Nat)(x:Str)(ps:List Str)(sp:Addr×Obj×HO->Sp):Prop where
 ex:∃f fd,FnOkH P w K mg base k f fd ps sp/\Binds K fd ps []/\ň K (.ref f)=true/\mg x=some (.ref f)
section
variable {X:Cx}{k:Nat}{f CF:Addr}{fd:FuncData}{ps:List Str}{sp:Sp}{x hx n:Str}{p np cpos epos hpos pos:Pos}{e:Expr}{es:List Expr}{t:TA}{b₀:Stmt}{suite:List Stmt}{ts:Addr->TS}{j:Nat}
end
end L2
namespace Dl
open PySem L2 PyProof.Rows
@[reducible] def grH(q:Addr×Obj×HO):Gr:=⟨λp H0=>p=fM/\H0 q.1=some (.frz q.2.1 q.2.2)⟩
section
variable {X:Cx}{pos:Pos}
end
section
variable [Gr] {X:Cx}{tg l iter elt:Expr}{ifs:List Expr}{scope:Scope}{pos:Pos}{tl:DE}{ti:DI}{g:DG}{tt:DT}{te:DE}{es:List Expr}
end
end Dl
namespace Wr
open PySem L2 PyProof.Rows Dl
section
variable [Gr] {X:Cx}{tg l iter elt:Expr}{ifs:List Expr}{scope:Scope}{pos:Pos}{tl:DE}{ti:DI}{g:DG}{tt:DT}{te:DE}{es:List Expr}
structure WDIH(X:Cx)(tg e:Expr)(t:DI):Prop where
 h:PIG SC X tg e (Du t)
end
end Wr
namespace L2
open PySem PySem.Spec PyProof.Rows
section
variable {X:Cx}{st:Stmt}{rest:List Stmt}{t:TS}
def Bu(h1:PS X st t):PSs X (st::rest) (λD σ H=>t { D with nx:=λ_ _=>False } σ H):=by
 intro pins s σ H D I h
 refine wpAny_execs_cons (thn (h1 pins s σ H _ I h) λf s1 q=>?_)
 cases f with
 |next =>
  obtain⟨_,_,_,q⟩:=q
  exact q.elim
 |ret v=>exact q
 |brk=>exact q
 |cont=>exact q
end
section
variable {P:Program}{w:World}{K:Ê}{mg:Str->Option Value}{base:Heap}{CX:CXT}{k:Nat}{f:Addr}{fd:FuncData}{ps:List Str}{sp sp':Sp}
def FnOk.up1(F:FnOk P w K mg base CX0 k f fd ps sp):FnOk P w K mg base (CX1 P w) k f fd ps sp:=⟨F.len,λA outer s H args us vs Q E hr he hb hv hs=>Ŷ (F.run A outer s H args us vs Q E hr he hb hv hs) λr s' h=>by
 cases r with
 |ok fl=>cases fl <;> exact h
 |error e=>exact ø h⟩
def FnOk.or(F:FnOk P w K mg base CX k f fd ps sp)(G:FnOk P w K mg base CX k f fd ps sp'):FnOk P w K mg base CX k f fd ps (λvs H Q E=>sp vs H Q E\/sp' vs H Q E):=⟨λvs H Q E h=>h.elim (F.len vs H Q E) (G.len vs H Q E),λA outer s H args us vs Q E hr he hb hv hs=>hs.elim (F.run A outer s H args us vs Q E hr he hb hv) (G.run A outer s H args us vs Q E hr he hb hv)⟩
end
end L2
namespace Wr
open PySem L2 PyProof.Rows Dl
variable [Gr] {X:Cx}{pos:Pos}{a b:Expr}{ta tb:DE}
end Wr
namespace Dl
open PySem L2 PyProof.Rows
structure Spo(ok:Addr->Prop)(H H':Hp):Prop where
 keep:∀b o,H b=some o->¬ok b->H' b=some o
 tup:∀b xs,H b=some (.tup xs)->H' b=some (.tup xs)
 al:∀b,H b≠none->H' b≠none
 fx:∀b o,Fxd o->H b=some o->H' b=some o
def Spo.trans{ok:Addr->Prop}{H H1 H2:Hp}(a:Spo ok H H1)(b:Spo ok H1 H2):Spo ok H H2:=⟨λc o h n=>b.keep c o (a.keep c o h n) n,λc xs h=>b.tup c xs (a.tup c xs h),λc h=>b.al c (a.al c h),λc o n h=>b.fx c o n (a.fx c o n h)⟩
def Spo.new{ok:Addr->Prop}{H:Hp}{l:Addr}(h:H l=none)(o:HO):Spo ok H (upd H l o):=⟨λb u e _=>by rw[ao (au e h)];exact e,λb u e=>by rw[ao (au e h)];exact e,λb e=>by
 by_cases z:b=l
 ·subst z;exact absurd h e
 ·rw[ao z];exact e,λb u _ e=>by rw[ao (au e h)];exact e⟩
def Spo.write{ok:Addr->Prop}{H:Hp}{l:Addr}{vs ws:List V}(h:H l=some (.lst vs))(hl:ok l):Spo ok H (upd H l (.lst ws)):=⟨λb u e n=>by rw[ao (a:=l) (b:=b) (λz=>n (by rw[z];exact hl))];exact e,λb u e=>by rw[ao (λz=>by subst z;rw[h] at e;cases e)];exact e,λb e=>by
 by_cases z:b=l
 ·subst z;rw[aA];exact λq=>nomatch q
 ·rw[ao z];exact e,λb u n e=>by rw[ao (λz=>by subst z;rw[h] at e;obtain⟨_,_,y⟩:=n;subst y;cases e)];exact e⟩
def LiI(ok:Addr->Prop)(H:Hp)(k:Nat)(a:Addr):Prop:=ok a/\∃ns:List Int,H a=some (.lst (ns.map V.int))/\ns.length<=k
inductive Part(ok:Addr->Prop)(H:Hp)(k:Nat):V->Prop
 |int (i:Int):Part ok H k (.int i)
 |lst {a:Addr} (h:LiI ok H k a):Part ok H k (.ref a)
 |two {t a b:Addr} (h:H t=some (.tup [.ref a,.ref b])) (ha:LiI ok H k a) (hb:LiI ok H k b):Part ok H k (.ref t)
section
variable [Gr] {p:Pn}{H0 H:Hp}{own:Addr->Option Nat}{σ:L2.St}{ρ:List Sl}
def EnvD.many{r:Nat}{H':Hp}(E:EnvD p H0 own σ H ρ)(S:Spo (λa=>own a=some r) H H'):EnvD p H0 own σ H' (forget r ρ):=by
 have tp:=S.tup
 refine⟨λb o e n=>?_,p.mono H _ E.pen λb o f e=>?_,λa q e=>?_,λj s e=>?_,by unfold forget;rw[Á];exact E.len,E.gr⟩
 ·exact S.keep b o (E.k0 b o e n) λz=>by
   rw[(E.ow b r z).1] at e
   cases e
 ·exact f.elim (λf=>S.keep b o e λz=>(E.ow b r z).2.1 f) λc=>S.fx b o c e
 ·obtain⟨x,y,z⟩:=E.ow a q e
  exact⟨x,y,S.al a z⟩
 ·unfold forget at e
  rw[Þ] at e
  cases hr:ρ[j]? with
  |none=>rw[hr] at e;cases e
  |some s0 =>
   rw[hr] at e
   have e:=Ò e
   have q:=E.slot j s0 hr
   cases s0 with
   |any=>simp only[Sl.region] at e;subst e;trivial
   |im d =>
    have e:Sl.im d=s:=e
    subst e
    exact let ⟨v,a,b⟩:=q;⟨v,a,b.mono (λ_ o=>o) (λ_ _ o=>o.elim) tp⟩
   |sh d =>
    have e:Sl.sh d=s:=e
    subst e
    exact let ⟨v,a,b⟩:=q;⟨v,a,b.mono (λ_ o=>o) (λc o n e=>S.keep _ _ e (by rw[n.2];exact λz=>nomatch z)) tp⟩
   |sn d =>
    have e:Sl.sn d=s:=e
    subst e
    exact let ⟨v,a,b⟩:=q;⟨v,a,b.mono (λ_ o=>o) (λc o n e=>S.keep _ _ e (by rw[n.2.2];exact λz=>nomatch z)) tp⟩
   |dw r' d =>
    by_cases hrr:r'=r
    ·subst hrr
     have e:(if (some r':Option Nat)=some r' then Sl.any else Sl.dw r' d)=s:=e
     rw[if_pos rfl] at e
     subst e
     trivial
    ·have e:(if (some r':Option Nat)=some r then Sl.any else Sl.dw r' d)=s:=e
     rw[if_neg (by simpa using hrr)] at e
     subst e
     exact let ⟨v,a,b⟩:=q;⟨v,a,b.mono (λ_ o=>o) (λc o n e=>S.keep _ _ e (by rw[n];simpa using hrr)) tp⟩
   |pen C =>
    have e:Sl.pen C=s:=e
    subst e
    exact q
   |scr v b =>
    have e:Sl.scr v b=s:=e
    subst e
    exact q
   |sp r' b ds =>
    by_cases hrr:r'=r
    ·subst hrr
     have e:(if (some r':Option Nat)=some r' then Sl.any else Sl.sp r' b ds)=s:=e
     rw[if_pos rfl] at e
     subst e
     trivial
    ·have e:(if (some r':Option Nat)=some r then Sl.any else Sl.sp r' b ds)=s:=e
     rw[if_neg (by simpa using hrr)] at e
     subst e
     exact let ⟨l',vs,a,o,h,y⟩:=q;⟨l',vs,a,o,S.keep _ _ h (by rw[o];simpa using hrr),y.mono (λ_ o=>o) (λc o n e=>S.keep _ _ e (by rw[n.2.2];exact λz=>nomatch z)) tp⟩
   |rw r' L =>
    by_cases hrr:r'=r
    ·subst hrr
     have e:(if (some r':Option Nat)=some r' then Sl.any else Sl.rw r' L)=s:=e
     rw[if_pos rfl] at e
     subst e
     trivial
    ·have e:(if (some r':Option Nat)=some r then Sl.any else Sl.rw r' L)=s:=e
     rw[if_neg (by simpa using hrr)] at e
     subst e
     exact let ⟨st,as,a,b⟩:=q;⟨st,as,a,b.mono (λc o n e=>⟨n,S.keep _ _ e (by rw[n];simpa using hrr)⟩) tp⟩
   |tw r' L =>
    by_cases hrr:r'=r
    ·subst hrr
     have e:(if (some r':Option Nat)=some r' then Sl.any else Sl.tw r' L)=s:=e
     rw[if_pos rfl] at e
     subst e
     trivial
    ·have e:(if (some r':Option Nat)=some r then Sl.any else Sl.tw r' L)=s:=e
     rw[if_neg (by simpa using hrr)] at e
     subst e
     exact let ⟨st,as,a,b⟩:=q;⟨st,as,a,b.mono (λc o n e=>⟨n,S.keep _ _ e (by rw[n];simpa using hrr)⟩) tp⟩
def Fy{r:Nat}{H':Hp}(S:Spo (λa=>own a=some r) H H'):FrS p own H own H':=⟨λb o h n e=>⟨S.keep b o h (λz=>by rw[z] at e;cases e),e⟩,S.tup⟩
end
end Dl
namespace Wr
open PySem L2 PyProof.Rows Dl
variable [Gr] {X:Cx}{pos p1 p2 p3:Pos}
end Wr
namespace L2
open PySem PySem.Spec PyProof.Rows
def tD{X:Cx}:OpR X (binaryOp .FloorDiv) (rI (λ_ j=>0<j/\j<1267650600228229401496703205376) λi j=>.int (i / j)):=opI λi j _ _ _ _ _ hc q=>by
 have h1:(0:Int)<j:=hc.1
 have h2:j<1267650600228229401496703205376:=hc.2
 refine floordiv_int (by omega) (by rw[Int.fdiv_eq_ediv_of_nonneg i (by omega)];exact q) (.inl (PyProof.noPylong_of_log2 ?_))
 have h3:j.natAbs<2 ^ 100:=by
  have:(2:Nat) ^ 100=1267650600228229401496703205376:=by decide
  omega
 have:=(Nat.log2_lt (by omega)).mpr h3
 omega
end L2
namespace Dl
open PySem L2 PyProof.Rows
def grU(T:Pn):Gr:=⟨λp _=>p=T⟩
section
variable {X:Cx}{k j:Nat}{x:Str}{ps:List Str}{e:Expr}{es:List Expr}{t:DA}{p pos:Pos}{T:Pn}{f:List D->(D->Prop)->Prop}
def KQ{Tm:DS}{N:List Str}{vs:List V}{H:Hp}{Q:VK}{E:XK}(h:spT T f vs H Q E)(body:∀ds P,f ds P->∃ρ,ds.map cF++È (N.length - ds.length) .any=ρ/\Tm { nx:=λ_=>P .none,rt:=P } ρ):@iT (grU T) Tm { nx:=λ_ H'=>Q .non H',rt:=Q } (L2.start N vs) H:=by
 letI:=grU T
 obtain⟨ds,P,pi,r,t,q⟩:=h
 obtain⟨ρ,e,b⟩:=body ds P t
 have E:=jk (p:=T) (N:=N) rfl pi r
 rw[r.length,e] at E
 exact⟨T,H,λ_=>none,_,_,E,b,⟨λo s h' r' e' _ n=>q _ _ h' n e'.k0 e'.pen .non,λd v h' n w=>q d v h' n w.k0 w.pen (w.rp.mono (λ_ o=>o.1) (λ_ _ _ e=>e) λ_ _ e=>e),λ_ _ _ _ _ _ n=>n.elim,λ_ _ _ _ _ _ n=>n.elim⟩⟩
end
end Dl
namespace Wr
open PySem L2 PyProof.Rows Dl
variable {X:Cx}{k j:Nat}{x:Str}{ps:List Str}{e:Expr}{es:List Expr}{t:DA}{p pos:Pos}{T:Pn}{f:List D->(D->Prop)->Prop}
end Wr
namespace L2
open PySem PySem.Spec PyProof.Rows
def Lj(i:Nat)(f:Addr)(sp:Sp)(E:XK)(ts:TS)(j:Nat):TS:=λD σ H=>σ[i]?=some (some (.ref f))/\sp [] H (λ_ H2=>D.nx σ H2) E/\∀cls H2 a,E cls none H2->H2 a=none ->
 ts { nx:=λσ3 H3=>D.nx (σ3.set j none) H3,rt:=D.rt } (σ.set j (some (.ref a))) (upd H2 a (uF a cls))
section
variable {X:Cx}{k i:Nat}{f CF:Addr}{fd:FuncData}{sp:Sp}{E:XK}{x hx n:Str}{p np cpos epos hpos pos:Pos}{b₀:Stmt}{suite:List Stmt}{ts:TS}{j:Nat}
def Gb(hstk:X.stack=X.env::X.outer)(hfr:X.env.frame=some X.env.locals)(F:FnOk X.prog X.w X.K X.mg X.base (CX1 X.prog X.w) k f fd [] sp)(hf:W.FnAt f X.base)(hr:Room k X.A)(hb:Binds X.K fd [] [])(hv:PE X.nox (.Name x p) (mQ i))(hgF:Gl X hx)(hmF:X.mg hx=some (.ref CF))(hE:∀cls H',E cls none H'->W.exmOne X.K cls (.ref CF)=some true)(hN:X.N.Nodup)(hj:X.N[j]?=some n)(hloc:X.env.kindOf n=some .local)(hsu:∀ev,PSs (X.handling ev) (b₀::suite) ts)(hdF:zB hx:=by decide)(hs:swapsWith (.Call (.Name x p) [] [] cpos) none epos.line X.env=pure false:=by rfl)(hex:X.ex=[]:=by rfl):PS X (.Try [.Expr (.Call (.Name x p) [] [] cpos) epos] [.ExceptHandler (some (.Name hx np)) (some n) (b₀::suite) hpos] [] [] pos) (Lj i f sp E ts j):=by
 intro pins s σ H D I ⟨hi,q,qE⟩
 have fk:∀{σ':St}{H':Hp}{s':Shared},Inv X pins σ' H' s'->W.FnAt f s'.heap:=λ{σ' H' s'} I'=>by
  obtain⟨oc,od,fd,sl,e⟩:=hf
  exact⟨oc,od,fd,sl,I'.bk _ _ e⟩
 refine wpAny_Try_except (wpAny_execs_cons (wpAny_Expr_any (ŕ (č (hv pins s σ H (λv H'=>v=.ref f/\H'=H) (I.wish _) ⟨_,hi,rfl,rfl⟩) (λu s1 ⟨v,H1,I1,rv,ev,eH⟩=>?_) λ_ _ z=>ø z)) I.quiet hs))
 subst ev
 subst eH
 obtain rfl:u=æ f:=rv
 have I1:=I1.gC
 refine W.callWith_F0 (fk I1) ?_
 have hb1:=hb s1 [] I1.kIn rfl
 refine wpAny_call (Ŷ (F.run X.A X.stack s1 H1 ⟨[],[]⟩ [] [] _ E hr I1.env0 hb1 .nil q) λrr s' hq=>?_)
 cases rr with
 |ok fl =>
  cases fl with
  |ret u =>
   obtain⟨v,H',I',r',q'⟩:=I1.after hq
   exact œ (œ ⟨σ,H',I',q'⟩)
  |next=>exact ø hq
  |brk=>exact ø hq
  |cont=>exact ø hq
 |error er =>
  obtain⟨a,cls,a0,H2,hb',rfl,os,bare,un,hok,⟨st,hn,fs,tr,nc⟩,k1,k4,hq⟩:=hq
  have hmem:∀b∈frs X.stack,∃o,s'.heap.get? b=some o/\∀vs,o.data≠.fields vs:=λb z=>(fs.mem z).2
  have fs':s'.heap.FunFrames hb' (X.env::X.outer):=hstk ▸ fs
  refine wpAny_noteFrame_onW (base:=hb') (by rw[I.ok.frames,hstk]) fs' hfr tr st hn λh2 ⟨n1,n2,n3,n4⟩=>?_
  refine wpAny_setFlight_noneW (base:=hb') (l:=X.env::X.outer) n1 n2 n3 λh3 m1 m2 m3 m4=>?_
  -- the state where the handler is asked
  have up3:∀b o,s'.heap.get? b=some o->(∀vs,o.data≠.fields vs)->∃sl,h3.get? b=some { o with slots:=sl }:=λb o e nf=>by
   obtain⟨sl,e2⟩:=n4 b o e nf
   exact⟨sl,m4 b _ e2 nf⟩
  have un3:Un (frs X.stack) [] H1 H2 s1.heap h3:=wM un k1 k4 m1 hmem up3
  have I3:Inv X pins σ H2 { s' with heap:=h3 }:=I1.call' (s':={ s' with heap:=h3 }) os un3 (hok.kept m1) bare (λb z=>absurd z (by simp))
  have hH2:H2 a=none:=by
   cases z:H2 a with
   |none=>rfl
   |some u=>obtain⟨ob,e⟩:=(hok a u z).there;rw[hn] at e;cases e
  obtain⟨oe',vs',T',oT',ts',tr1,_,tr3,_⟩:=id tr
  have newA:∀ob,s1.heap.get? a≠some ob:=λob e=>by
   by_cases hf:a∈frs X.stack
   ·obtain⟨o,e2,nf⟩:=hmem a hf
    rw[tr1] at e2
    cases e2
    exact nf _ tr3
   ·obtain⟨o',e'⟩:=k4 a ob e hf
    rw[hn] at e'
    cases e'
  have lookT:W.Looks (model X.prog X.w) h3 (typeOf (.ref a)) cls:=λA Q E' s k q=>by
   obtain⟨oe,vs,_,_,_,e1,⟨e2,_⟩,_⟩:=m3
   refine wpAny_typeOf_ref (k _ _ e1) ?_
   rw[e2]
   exact q
  refine wpAny_handleBy_cons (codeAny_handlers_test (jZ (X:=X.handling (.ref a)) (I3.handling _) hgF hmF ?_ hdF)) (by intro z;cases z)
  refine W.exm_one (K:=X.K) I3.kIn lookT (hE cls H2 hq) _ _ _ _ (λ_ _ z=>z) ?_
  refine codeAny_handlers_suite_as ?_
  refine wpAny_setFlight_noneW (base:=hb') (l:=X.env::X.outer) m1 m2 m3 λh4 p1 p2 p3 p4=>?_
  have up4:∀b o,s'.heap.get? b=some o->(∀vs,o.data≠.fields vs)->∃sl,h4.get? b=some { o with slots:=sl }:=λb o e nf=>by
   obtain⟨sl,e2⟩:=up3 b o e nf
   exact⟨sl,p4 b _ e2 nf⟩
  have un4:Un (frs X.stack) [] H1 H2 s1.heap h4:=wM un k1 k4 p1 hmem up4
  have I4:Inv X pins σ H2 { s' with heap:=h4 }:=I1.call' (s':={ s' with heap:=h4 }) os un4 (hok.kept p1) bare (λb z=>absurd z (by simp))
  have isE:gY a cls h4:=by
   obtain⟨oe,vs,_,_,_,e1,⟨e2,_⟩,e3,_⟩:=p3
   exact⟨oe,vs,e1,e2,e3⟩
  have J4:Inv X pins σ (upd H2 a (uF a cls)) { s' with heap:=h4 }:=I4.track hH2 (λob e=>by
    obtain⟨o',e'⟩:=I1.base.there a ob e (by rw[hex];simp)
    exact newA o' e') (λz=>by
    obtain⟨m,⟨o,_,_,e,_⟩,_⟩:=I1.loc
    exact newA o (by rw[z];exact e)) (λy c e z=>by
    obtain⟨v,o,eo,_⟩:=I1.cell y c e
    exact newA o (by rw[←z];exact eo)) (λp hp z=>newA p.2 (by rw[←z];exact(I1.pin p hp).1)) isE.ok
  refine mR (X:=X.handling (.ref a)) (v:=.ref a) (J4.handling _) hN hj (Ļ hloc) rfl (λs5 J5=>?_) (.inr hloc)
  refine č (hsu (.ref a) pins s5 _ _ _ J5 (qE cls H2 a hq hH2)) (λfl s6 sp6=>?_) λ_ _ z=>ø z
  have hknd:(X.env.scope.kind == .class || (X.env.scope.kind == .module&&X.env.locals != X.env.globals))=false:=by rw[I.ok.kind];rfl
  cases fl with
  |next =>
   obtain⟨σ6,H6,I6,q6⟩:=sp6
   have I6:=I6.handled I.ok
   obtain⟨m,hm6,_⟩:=id I6.loc
   exact wpAny_nameGoes_keeps hloc hm6 hknd λh7 v hns hsb=>⟨_,H6,I6.unbound hN hj hm6 hns hsb,q6⟩
  |ret u =>
   obtain⟨v6,σ6,H6,I6,r6,q6⟩:=sp6
   have I6:=I6.handled I.ok
   obtain⟨m,hm6,_⟩:=id I6.loc
   exact wpAny_nameGoes_keeps hloc hm6 hknd λh7 v hns hsb=>⟨v6,_,H6,I6.unbound hN hj hm6 hns hsb,r6,q6⟩
  |brk =>
   obtain⟨_,_,_,q6⟩:=sp6
   exact ø q6
  |cont =>
   obtain⟨_,_,_,q6⟩:=sp6
   exact ø q6
end
def Dv{P:Program}{w:World}{K:Ê}{mg:Str->Option Value}{base:Heap}{N:List Str}{qual:Str}{scope:Scope}{f:Addr}{cd:Value}{cl:List (Str×Addr)}{A:Around}{outer:List Env}{s:Shared}{H:Hp}{E:XK}:Lets (cxL (CX1 P w) P w K mg base N qual scope f cd cl A outer s H E) E:=⟨λ_ _ h=>h,rfl,rfl,rfl⟩
def Ly(N:List Str)(P:Addr)(lpos:Pos)(qual:Str)(params:Arguments)(body:Expr)(scope:Scope)(cl:List (Str×Addr))(ys:List Str)(sp:Heap->Sp):TE:=λσ H Q=>uW P lpos qual H /\
 ∃cvs:List V,cvs.length=ys.length/\(∀(j:Nat) (y:Str) (v:V),ys[j]?=some y->cvs[j]?=some v->∃i:Nat,N[i]?=some y/\σ[i]?=some (some v)) /\
  ∀base' f c' H',LamAt base' f c' qual params body scope cl ys cvs H'->uW P lpos qual H'->(∀b o,H b=some o->b≠P->H' b=some o)->sp base' [.ref f] H' Q E0
section
variable {X:Cx}{k:Nat}{fh c P:Addr}{fdh:FuncData}{ps ys:List Str}{sp:Heap->Sp}{x:Str}{p pos lpos:Pos}{qual:Str}{params:Arguments}{body:Expr}{scope:Scope}{cl:List (Str×Addr)}
def sZ(F:∀base,FnOk X.prog X.w X.K X.mg base CX0 k fh fdh ps (sp base))(hr:Room k X.A)(hg:Gl X x)(hm:X.mg x=some (.ref fh))(hk:ň X.K (.ref fh)=true)(hb:Binds X.K fdh ps [])(hq:X.env.qual++"<lambda>"=qual)(hdef:defaultsOf params X.env=([],[]))(hcl:closureFor scope X.env=pure cl)(hcode:X.env.code=.ref c)(hC:X.K.In X.base->W.CodeHd X.base c P)(hB:X.K.In X.base->X.base.BuiltinsAt X.mg P)(hfn:∀x,X.fn x=true)(hsub:∀x c,cl.lookup x=some c->X.env.cells.lookup x=some c)(hys:∀y∈ys,X.env.scope.names.lookup y=some .cell/\∃c,cl.lookup y=some c)(hdb:zB x:=by decide)(he:starEach [.Lambda params body scope lpos] X.env=(false,eval (.Lambda params body scope lpos) X.env)::[]:=by rfl)(hpl:zP X pos []:=by rfl)(he1:starEach [.Lambda params body scope lpos] X.env=(false,eval (.Lambda params body scope lpos) X.env)::starEach [] X.env:=by rfl) :
  PE X (.Call (.Name x p) [.Lambda params body scope lpos] [] pos) (Ly X.N P lpos qual params body scope cl ys sp):=by
 intro pins s σ H Q I h
 refine ŕ (jZ I hg hm ?_ hdb)
 refine W.callWith_K (h₀:=X.base) I.ok.mod.kin hk ?_ he1 hpl
 rw[he]
 obtain⟨T1,cvs,cl1,hcv,q1⟩:=h
 show wpAny _ _ (spliced ((false,eval (.Lambda params body scope lpos) X.env)::[])) _ _ s
 refine Calls.spliced_cons ?_
 refine yL I hq hdef hcl hcode hC hB T1 λf c' ctv pm s2 H2 J T2 kn fn hfo nfs kp kb=>?_
 refine Calls.spliced_nil ⟨J.kIn,?_⟩
 have ncell:∀y c,X.env.cells.lookup y=some c->c∉frs X.stack:=λy c e z=>by
  rcases É.mp (J.mU c z) with z|z
  ·exact J.cne y c e z
  ·obtain⟨_,o,ho,_⟩:=J.ok.jC.mem z
   exact absurd (Å ho) (Nat.not_lt.mpr (J.ok.cab y c (hfn y) e))
 have inL:∀y c,cl.lookup y=some c->c∈f::cl.filterMap λq=>cl.lookup q.1:=λy c e=>Ï _ (Ň.mpr ⟨(y,c),Ā e,e⟩)
 have hL:∀b∈f::cl.filterMap (λq=>cl.lookup q.1),(H2 b=none/\b∉frs X.stack):=λb hb=>by
  rcases É.mp hb with rfl|hb
  ·exact⟨fn,nfs⟩
  ·obtain⟨⟨y,c1⟩,_,e1⟩:=Ň.mp hb
   have e2:=hsub y b e1
   exact⟨J.freeC y b e2,ncell y b e2⟩
 have e0:=J.env0.reb (L:=f::cl.filterMap λq=>cl.lookup q.1) (λb hb=>(hL b hb).1) λb hb=>(hL b hb).2
 have cellB:∀y c w,cl.lookup y=some c->s2.heap.IsCell c w->(reb X.base s2.heap (f::cl.filterMap λq=>cl.lookup q.1)).IsCell c w:=λy c w e ⟨o,ho,hd⟩=>⟨o,Bl ho (inL y c e),hd⟩
 have lam:LamAt (reb X.base s2.heap (f::cl.filterMap λq=>cl.lookup q.1)) f c' qual params body scope cl ys cvs H2:=by
  refine⟨⟨pm,ctv,Bl hfo Ì⟩,⟨cl1,λy c e=>?_,λj y w h1 h2=>?_⟩,kn⟩
  ·obtain⟨w,hw⟩:=J.cell y c (hsub y c e)
   exact⟨w,cellB y c w e hw⟩
  ·obtain⟨i,n1,n2⟩:=hcv j y w h1 h2
   obtain⟨k1,c,e⟩:=hys y (Ñ h1)
   obtain⟨m,_,hl⟩:=J.loc
   obtain⟨u',rv,l⟩:=hl i y w n1 n2 (.inr (.inl k1))
   rcases l with ⟨k2,_⟩|⟨_,c2,e2,hc⟩
   ·have k2:X.env.scope.names.lookup y=some .local:=k2
    rw[k1] at k2;cases k2
   ·rw[hsub y c e] at e2
    cases e2
    exact⟨c,u',e,cellB y c _ e hc,rv⟩
 have hsp:=q1 _ f c' H2 lam T2 kp
 have FF:=F (reb X.base s2.heap (f::cl.filterMap λq=>cl.lookup q.1))
 have hl:[æ f].length=ps.length:=FF.len _ _ _ _ hsp
 refine wpAny_call (Ŷ (FF.run X.A X.stack s2 H2 ⟨[.ref f],[]⟩ [.ref f] [.ref f] Q E0 hr e0 ?_ (.cons rfl .nil) hsp) λr s' hq=>?_)
 ·have:=hb s2 [.ref f] J.kIn (by rw[ą];exact hl)
  rw[ą] at this
  exact this
 ·cases r with
  |error e=>exact hq.elim
  |ok fl =>
   cases fl with
   |ret u=>exact J.after hq
   |next=>exact ø hq
   |brk=>exact ø hq
   |cont=>exact ø hq
end
def Ld(K:Ê)(a b:Addr):It :=
 ⟨λi H=>∃xs ys x y,SqL K H a xs/\SqL K H b ys/\xs[i]?=some x/\ys[i]?=some y,λi H v H'=>∃t x y,v=.ref t/\H t=none/\H'=upd H t (.tup [x,y])/\(∀xs,SqL K H a xs->xs[i]?=some x)/\∀ys,SqL K H b ys->ys[i]?=some y,λi H=>∃xs ys,SqL K H a xs/\SqL K H b ys/\(xs.length<=i\/ys.length<=i)⟩
def Ak{P:Program}{w:World}{K:Ê}{elts:List Expr}{kk:Nat}{pos:Pos}{a b z TI TO i1 i2:Addr}(D:ZipApart z TI TO i1 i2 a b) :
  Turn P w K (.Tuple elts kk pos) (Ld K a b) [z,TI,TO,i1,i2] z (λi h=>IsZip h z TI TO .none/\IsPair h TI (.ref i1) (.ref i2)/\(∃u v,IsPair h TO u v)/\h.IsListIter i1 a i/\h.IsListIter i2 b i) where
 mem:=by simp
 obj:=λi h st c hc=>by
  obtain⟨hz,hTI,⟨u,v,hTO⟩,⟨o1,j1,c1,d1⟩,⟨o2,j2,c2,d2⟩⟩:=st
  simp only[É,Ö,or_false] at hc
  rcases hc with rfl|rfl|rfl|rfl|rfl
  ·exact⟨_,hz,λv z=>nomatch z⟩
  ·exact⟨_,hTI,λv z=>nomatch z⟩
  ·exact⟨_,hTO,λv z=>nomatch z⟩
  ·exact⟨o1,j1,λv z=>by rw[d1] at z;cases z⟩
  ·exact⟨o2,j2,λv z=>by rw[d2] at z;cases z⟩
 keep:=λi h h' st k=>by
  obtain⟨hz,hTI,⟨u,v,hTO⟩,⟨o1,j1,r1⟩,⟨o2,j2,r2⟩⟩:=st
  exact⟨k z (by simp) _ hz,k TI (by simp) _ hTI,⟨u,v,k TO (by simp) _ hTO⟩,⟨o1,k i1 (by simp) _ j1,r1⟩,⟨o2,k i2 (by simp) _ j2,r2⟩⟩
 item:=by
  intro X hP hw hK hc i pins s σ H E I hf st hg
  subst hP hw hK
  obtain⟨xs,ys,x,y,hq,hq2,hx,hy⟩:=hg
  obtain⟨its,rv,pl,hz1⟩:=I.list hq
  obtain⟨its2,rv2,pl2,hz2⟩:=I.list hq2
  obtain⟨u,hu,ru⟩:=rv.get hx
  obtain⟨u2,hu2,ru2⟩:=rv2.get hy
  obtain⟨hz,hTI,hTO,h1,h2⟩:=st
  have W:=WalksT.zip2 (prog:=X.prog) (w:=X.w) (A:=X.A) (I.ok.hd hc) z TI TO i1 i2 a b D its.toArray its2.toArray
  have l1:=(Ù.mp hu).1
  have l2:=(Ù.mp hu2).1
  refine W.item i s _ _ (by simp;omega) ⟨hz,hTI,hTO,h1,h2,pl.isList,pl2.isList⟩ λT vals h' tk hP hTs hTup hMid hk=>⟨_,rfl,?_⟩
  obtain⟨x',y',e1,e2,rfl⟩:=hP
  have ex:x'=u:=by
   have:its[i]?=some x':=by simpa using e1
   rw[hu] at this
   exact(Ò this).symm
  have ey:y'=u2:=by
   have:its2[i]?=some y':=by simpa using e2
   rw[hu2] at this
   exact(Ò this).symm
  subst ex ey
  have ap:=W.apart i T h' hMid
  refine W.go elts kk pos i T _ _ _ hMid λh3 hst3 hk3=>?_
  have hTn:H T=none:=I.hok.fresh hTs
  have keep2:∀c o,c∉[z,TO,i1,i2]->s.heap.get? c=some o->h3.get? c=some o:=λc o hc q=>hk3 c o hc (hk c o hc q)
  have fz:∀c∈[z,TO,i1,i2],jo X pins H c:=λc hc=>hf c (by
   simp only[É,Ö,or_false] at hc ⊢
   rcases hc with h|h|h|h <;> simp[h])
  have nT:∀{c:Addr}{y:HO},H c=some y->c∉[z,TO,i1,i2]:=λ{c y} q hc=>by
   have:=(fz c hc).1
   rw[this] at q
   cases q
  obtain⟨oT,hT1,hT2,nn,hT3⟩:=hTup
  have hTup3:IsTup h3 T #[x',y']:=⟨oT,hk3 T oT ap hT1,hT2,nn,hT3⟩
  have J:Inv X pins σ (upd H T (.tup [x,y])) { s with heap:=h3,toks:=tk }:=by
   refine I.step (g':=s.gens) (d':=s.drawn) (t':=tk) (ch:=[z,TO,i1,i2]) (λc hc=>?_) (λc o _ _ hcb q _=>keep2 c o hcb q)
    (λc o _ _ hcb q _=>⟨o.slots,keep2 c o hcb q⟩) (λc o _ q n=>by rw[ao (Û (Ó (Å q) hTs))];exact n)
    (λc o hcb q=>⟨o,keep2 c o hcb q⟩) (λc ys q=>by rw[ao (au q hTn)];exact q) (λc o y q=>by rw[ao (au q hTn)];exact q)
    (λc ps q=>⟨#[],by rw[ao (au q hTn),q];simp⟩) (λm hm=>?_) ?_ I.bare
   ·obtain⟨e0,e1,e2,e3,e4,e5⟩:=fz c hc
    exact⟨e3,e1,e4,e5⟩
   ·obtain⟨o,es,ep,ho',r⟩:=hm
    refine⟨o,es,ep,keep2 _ o (λhc=>?_) ho',r⟩
    exact(fz _ hc).2.1 rfl
   ·intro c u' q
    by_cases hb:c=T
    ·subst hb
     rw[aA] at q
     cases q
     exact⟨(by show 2<=sizeLine;decide),[x',y'],.cons ru (.cons ru2 .nil),hTup3⟩
    ·rw[ao hb] at q
     refine(I.hok c u' q).stay (λd v hcv y=>keep2 d v ?_ y) (λd y=>by rw[ao (au y hTn)];exact y) λd ys y=>by rw[ao (au y hTn)];exact y
     rcases hcv with rfl|z
     ·exact nT q
     ·exact nT z
  obtain⟨a1,a2,a3,a4,a5,_,_⟩:=hst3
  refine⟨.ref T,_,J,rfl,⟨T,x,y,rfl,hTn,rfl,λxs' hy'=>by rw[I.nQ hy' hq];exact hx,λys' hy'=>by rw[I.nQ hy' hq2];exact hy⟩,⟨a1,a2,a3,a4,a5⟩,λc hc=>?_⟩
  rw[ao]
  ·exact(hf c hc).1
  ·rintro rfl
   simp only[É,Ö,or_false] at hc
   have lt:∀{d:Addr}{o:Obj},s.heap.get? d=some o->c≠d:=λe=>ļ (Ó (Å e) hTs)
   obtain⟨w1,w2,hTO'⟩:=hTO
   obtain⟨o1,j1,_⟩:=h1
   obtain⟨o2,j2,_⟩:=h2
   rcases hc with h|h|h|h|h
   ·exact lt hz h
   ·exact lt hTI h
   ·exact lt hTO' h
   ·exact lt j1 h
   ·exact lt j2 h
 done:=by
  intro X hP hw hK hc i pins s σ H E I hf st hg
  subst hP hw hK
  obtain⟨xs,ys,hq,hq2,he⟩:=hg
  obtain⟨its,rv,pl,hz1⟩:=I.list hq
  obtain⟨its2,rv2,pl2,hz2⟩:=I.list hq2
  obtain⟨hz,hTI,⟨u,v,hTO⟩,h1,h2⟩:=st
  have r1:=rv.length
  have r2:=rv2.length
  refine wpAny_pyNext_zip_end (I.ok.hd hc) D hz hTI hTO h1 h2 pl.isList pl2.isList (xs:=its.toArray) (ys:=its2.toArray) ?_ λh' hk=>⟨rfl,?_⟩
  ·rcases he with he|he
   ·left;simp;omega
   ·right;simp;omega
  have fz:∀c∈[z,TO,i1,i2],jo X pins H c:=λc hc=>hf c (by
   simp only[É,Ö,or_false] at hc ⊢
   rcases hc with h|h|h|h <;> simp[h])
  have keep2:∀c o,c∉[z,TO,i1,i2]->s.heap.get? c=some o->h'.get? c=some o:=λc o hc q=>hk c o (λe=>hc (by simp[e])) (λe=>hc (by simp[e])) (λe=>hc (by simp[e])) (λe=>hc (by simp[e])) q
  have nT:∀{c:Addr}{y:HO},H c=some y->c∉[z,TO,i1,i2]:=λ{c y} q hc=>by
   have:=(fz c hc).1
   rw[this] at q
   cases q
  refine I.step (g':=s.gens) (d':=s.drawn) (t':=s.toks) (ch:=[z,TO,i1,i2]) (λc hc=>?_) (λc o _ _ hcb q _=>keep2 c o hcb q)
    (λc o _ _ hcb q _=>⟨o.slots,keep2 c o hcb q⟩) (λc o _ q n=>n)
    (λc o hcb q=>⟨o,keep2 c o hcb q⟩) (λc ys q=>q) (λc o y q=>q)
    (λc ps q=>⟨#[],by rw[q];simp⟩) (λm hm=>?_) ?_ I.bare
  ·obtain⟨e0,e1,e2,e3,e4,e5⟩:=fz c hc
   exact⟨e3,e1,e4,e5⟩
  ·obtain⟨o,es,ep,ho',r⟩:=hm
   refine⟨o,es,ep,keep2 _ o (λhc=>?_) ho',r⟩
   exact(fz _ hc).2.1 rfl
  ·intro c u' q
   refine(I.hok c u' q).stay (λd v hcv y=>keep2 d v ?_ y) (λd y=>y) λd ys y=>y
   rcases hcv with rfl|z
   ·exact nT q
   ·exact nT z
 self:=λA i s Q E st h=>by
  obtain⟨hz,_⟩:=st
  exact wpAny_pyIter_zip hz h
end L2
namespace Dl
open PySem L2 PyProof.Rows
variable [Gr]
section
variable {X:Cx}{tg:Expr}{pos:Pos}{ta:DA}
def Ac{K:Ê}{ok:Addr->Prop}{a b:Addr}{ds es:List D}:Wlk (λH=>Rp ok H (.ref a) (.list ds)/\Rp ok H (.ref b) (.list es)) (Ld K a b) ((ds.zip es).map prD) ok where
 go:=λi H r hi=>by
  obtain⟨b,vs,e,_,h,rs⟩:=r.1.cg
  cases e
  obtain⟨b2,vs2,e,_,h2,rs2⟩:=r.2.cg
  cases e
  rw[Á,Č] at hi
  have l1:i<vs.length:=by rw[rs.length];omega
  have l2:i<vs2.length:=by rw[rs2.length];omega
  exact⟨vs,vs2,vs[i],vs2[i],SqL.of h,SqL.of h2,by simp[l1],by simp[l2]⟩
 stop:=λH r=>by
  obtain⟨b,vs,e,_,h,rs⟩:=r.1.cg
  cases e
  obtain⟨b2,vs2,e,_,h2,rs2⟩:=r.2.cg
  cases e
  refine⟨vs,vs2,SqL.of h,SqL.of h2,?_⟩
  rw[Á,Č,rs.length,rs2.length]
  omega
 yld:=λi H x H' r y=>by
  obtain⟨t,v,v2,rfl,ht,rfl,y1,y2⟩:=y
  have sm:Same H (upd H t (.tup [v,v2])):=λb u q=>by rw[ao (au q ht)];exact q
  refine⟨sm,λd hd=>?_⟩
  obtain⟨b,vs,e,_,h,rs⟩:=r.1.cg
  cases e
  obtain⟨b2,vs2,e,_,h2,rs2⟩:=r.2.cg
  cases e
  rw[Þ] at hd
  cases he:(ds.zip es)[i]? with
  |none=>rw[he] at hd;cases hd
  |some pq =>
   rw[he] at hd
   have e:=Ò hd
   subst e
   obtain⟨g1,g2⟩:=ġ.mp he
   obtain⟨w1,hw1,rw1⟩:=rs.getD g1
   obtain⟨w2,hw2,rw2⟩:=rs2.getD g2
   have z1:=y1 vs (SqL.of h)
   rw[hw1] at z1
   cases z1
   have z2:=y2 vs2 (SqL.of h2)
   rw[hw2] at z2
   cases z2
   exact .tup aA (.cons (rw1.mono (λ_ o=>o) (λa o _ e=>sm a o e) λa xs e=>sm a _ e) (.cons (rw2.mono (λ_ o=>o) (λa o _ e=>sm a o e) λa xs e=>sm a _ e) .nil))
 stab:=λH H' r f t=>⟨r.1.cB (λa o n e=>⟨n,f a o n e⟩) t,r.2.cB (λa o n e=>⟨n,f a o n e⟩) t⟩
end
end Dl
namespace Wr
open PySem L2 PyProof.Rows Dl
variable [Gr] {X:Cx}{pos:Pos}{ta:DA}
end Wr
namespace L2
open PySem PySem.Spec PyProof.Rows
section
variable {prog:Program}{w:World}{A:Around}{E:Value->Shared->Prop}{s:Shared}{z TI TO i1 i2 l1 l2:Addr}{k:Nat}{xs ys:Array Value}{x y:Value}
def eY{h h':Heap}{i l:Addr}{k:Nat}(st:h.IsTupleIter i l k)(f:∀o,h.get? i=some o->h'.get? i=some o):h'.IsTupleIter i l k:=let ⟨o,e,r⟩:=st;⟨o,f o e,r⟩
def lF{h h':Heap}{l:Addr}{xs:Array Value}(st:h.IsTuple l xs)(f:∀o,h.get? l=some o->h'.get? l=some o):h'.IsTuple l xs:=let ⟨o,e,r⟩:=st;⟨o,f o e,r⟩
def Fq(z TO i1 i2:Addr)(h h':Heap):Prop:=∀c o,c≠z->c≠TO->c≠i1->c≠i2->h.get? c=some o->h'.get? c=some o
structure ZT(z TI TO i1 i2 l1 l2:Addr)(k:Nat)(h:Heap):Prop where
 hz:IsZip h z TI TO .none
 hI:IsPair h TI (.ref i1) (.ref i2)
 hO:∃u v,IsPair h TO u v
 t1:h.IsTupleIter i1 l1 k
 t2:h.IsTupleIter i2 l2 k
def yd(D:ZipApart z TI TO i1 i2 l1 l2)(Z:ZT z TI TO i1 i2 l1 l2 k s.heap)(q1:s.heap.IsTuple l1 xs)(q2:s.heap.IsTuple l2 ys)(hx:xs[k]?=some x)(hy:ys[k]?=some y){Q:Option Value->Shared->Prop}(hQ:∀h',IsZip h' z TI TO (rawInt s.heap.objs.size)->IsPair h' TO x y->h'.IsTupleIter i1 l1 (k+1)->h'.IsTupleIter i2 l2 (k+1)->IsPair h' s.heap.objs.size x y->Fq z TO i1 i2 s.heap h'->Q (some (.ref s.heap.objs.size)) { s with heap:=h' }) :
  wpAny (model prog w) A (pyNext (.ref z)) Q E s:=by
 obtain⟨hz,hI,⟨u,v,hO⟩,t1,t2⟩:=Z
 have ty:s.TypeIs (.ref z) "zip":=⟨_,hz,rfl⟩
 unfold pyNext
 refine À (wpAny_attempt (Į (name:=á "__next__") ty F.slot_zip_next (Ņ F.slot_zip_next ty F.entry_zip_next ?_ (F.args_zip_next_1 _))))
 show wpAny _ _ (field (.ref z) 2 >>= _) _ _ _
 refine À (þ hz rfl (x:=.bool false) rfl ?_)
 show wpAny _ _ (field (.ref z) 3 >>= _) _ _ _
 refine À (þ hz rfl (x:=.ref TI) rfl (À (ĭ hI rfl ?_)))
 show wpAny _ _ (ē (.ref z) >>= _) _ _ _
 refine À ?_
 unfold ē
 refine À (þ hz rfl (x:=.none) rfl (Ç ?_))
 simp only[if_true]
 refine À (wpAny_rule (À (þ hz rfl (x:=.ref TO) rfl (À (İ hz (by simp) λha za sa=>À ?_)))))
 have za:IsZip ha z TI TO .ellipsis:=za
 have ka:=λc o n=>sa.extBut c o n
 simp only[List.zipIdx_cons,List.zipIdx_nil,List.forIn_cons,List.forIn_nil]
 refine À (À (wpAny_onRaise ?_))
 show wpAny _ _ (õ (.ref i1) >>= _) _ _ _
 refine À ((dz (eY t1 λo=>ka _ o D.i1z) (lF q1 λo=>ka _ o D.l1z) hx λhb tb sb=>Ç ?_))
 have kb:=λc o n=>sb.extBut c o n
 have ob:IsPair hb TO u v:=kb _ _ D.TOi1 (ka _ _ D.TOz hO)
 refine À (ĭ ob rfl (À (wpAny_updateSeq_pair ob λhc oc sc=>À (wpAny_letGo (Ç ?_)))))
 have oc:IsPair hc TO x v:=oc
 have kc:=λc o n=>sc.extBut c o n
 refine À (À (wpAny_onRaise ?_))
 show wpAny _ _ (õ (.ref i2) >>= _) _ _ _
 refine À ((dz (eY t2 λo e=>kc _ o (é D.TOi2) (kb _ o (é D.i12) (ka _ o D.i2z e))) (lF q2 λo e=>kc _ o D.l2TO (kb _ o D.l2i1 (ka _ o D.l2z e))) hy λhd td sd=>Ç ?_))
 have kd:=λc o n=>sd.extBut c o n
 have od:IsPair hd TO x v:=kd _ _ D.TOi2 oc
 refine À (ĭ od rfl (À (wpAny_updateSeq_pair od λhe oe se=>À (wpAny_letGo (Ç (Ç ?_))))))
 have oe:IsPair he TO x y:=oe
 have ke:=λc o n=>se.extBut c o n
 have size:he.objs.size=s.heap.objs.size:=by rw[se.1,sd.1,sc.1,sb.1,sa.1]
 have ze:IsZip he z TI TO .ellipsis:=ke _ _ (é D.TOz) (kd _ _ (é D.i2z) (kc _ _ (é D.TOz) (kb _ _ (é D.i1z) za)))
 have T1:he.IsTupleIter i1 l1 (k+1):=eY tb λo e=>ke _ o (é D.TOi1) (kd _ o D.i12 (kc _ o (é D.TOi1) e))
 have T2:he.IsTupleIter i2 l2 (k+1):=eY td λo e=>ke _ o (é D.TOi2) e
 have K5:Fq z TO i1 i2 s.heap he:=λc o n1 n2 n3 n4 e=>ke _ _ n2 (kd _ _ n4 (kc _ _ n2 (kb _ _ n3 (ka _ _ n1 e))))
 refine À (ĭ oe rfl (À (wpAny_newTuple ?_)))
 show wpAny _ _ (Ŭ (.ref z) (.ref he.objs.size) >>= _) _ _ _
 refine À ?_
 unfold Ŭ
 refine À (İ (Ä _ ze) (by simp) λhf zf sf=>İ zf (by simp) λhg zg sg=>Ç ⟨_,rfl,Ç ?_⟩)
 have zg:IsZip hg z TI TO (rawInt he.objs.size):=zg
 have up:∀c o,c≠z->he.get? c=some o->hg.get? c=some o:=λc o n e=>sg.extBut _ _ n (sf.extBut _ _ n (Ä _ e))
 have new:IsPair hg he.objs.size x y:=by
  have n:=ļ (Å ze)
  exact sg.extBut _ _ n (sf.extBut _ _ n (Ô _ rfl))
 rw[size] at zg new
 show Q (some (.ref he.objs.size)) _
 rw[size]
 exact hQ hg zg (up _ _ D.TOz oe) (eY T1 λo e=>up _ o D.i1z e) (eY T2 λo e=>up _ o D.i2z e) new λc o n1 n2 n3 n4 e=>up c o n1 (K5 c o n1 n2 n3 n4 e)
def Ab(hh:A.handled=none)(D:ZipApart z TI TO i1 i2 l1 l2)(Z:ZT z TI TO i1 i2 l1 l2 k s.heap)(q1:s.heap.IsTuple l1 xs)(q2:s.heap.IsTuple l2 ys)(no:xs[k]?=none\/ys[k]?=none){Q:Option Value->Shared->Prop}(hQ:∀h',Fq z TO i1 i2 s.heap h'->Q none { s with heap:=h' }):wpAny (model prog w) A (pyNext (.ref z)) Q E s:=by
 obtain⟨hz,hI,⟨u,v,hO⟩,t1,t2⟩:=Z
 have ty:s.TypeIs (.ref z) "zip":=⟨_,hz,rfl⟩
 unfold pyNext
 refine À (wpAny_attempt (Į (name:=á "__next__") ty F.slot_zip_next (Ņ F.slot_zip_next ty F.entry_zip_next ?_ (F.args_zip_next_1 _))))
 show wpAny _ _ (field (.ref z) 2 >>= _) _ _ _
 refine À (þ hz rfl (x:=.bool false) rfl ?_)
 show wpAny _ _ (field (.ref z) 3 >>= _) _ _ _
 refine À (þ hz rfl (x:=.ref TI) rfl (À (ĭ hI rfl ?_)))
 show wpAny _ _ (ē (.ref z) >>= _) _ _ _
 refine À ?_
 unfold ē
 refine À (þ hz rfl (x:=.none) rfl (Ç ?_))
 simp only[if_true]
 refine À (wpAny_rule (À (þ hz rfl (x:=.ref TO) rfl (À (İ hz (by simp) λha za sa=>À ?_)))))
 have za:IsZip ha z TI TO .ellipsis:=za
 have ka:=λc o n=>sa.extBut c o n
 simp only[List.zipIdx_cons,List.zipIdx_nil,List.forIn_cons,List.forIn_nil]
 refine À (À (wpAny_onRaise ?_))
 show wpAny _ _ (õ (.ref i1) >>= _) _ _ _
 cases hx:xs[k]? with
 |none =>
  refine À (gw hh (eY t1 λo=>ka _ o D.i1z) (lF q1 λo=>ka _ o D.l1z) hx λhb e kb he=>?_)
  obtain⟨oe,ho,hc⟩:=he
  have zb:IsZip hb z TI TO .ellipsis:=kb _ _ (é D.i1z) za
  have ne:e≠z:=λy=>by subst y;rw[zb] at ho;cases ho;simp at hc
  refine İ zb (by simp) λhd zd sd=>?_
  refine À (wpAny_isInstance (T:="StopIteration") (b:=true) ⟨oe,sd.extBut _ _ ne ho,hc⟩ isSubtype_stop (Ç (hQ _ λc o n1 n2 n3 n4 q=>?_)))
  exact sd.extBut _ _ n1 (kb _ _ n3 (ka _ _ n1 q))
 |some x =>
  have hy:ys[k]?=none:=no.resolve_left (by rw[hx];exact λq=>nomatch q)
  refine À ((dz (eY t1 λo=>ka _ o D.i1z) (lF q1 λo=>ka _ o D.l1z) hx λhb tb sb=>Ç ?_))
  have kb:=λc o n=>sb.extBut c o n
  have ob:IsPair hb TO u v:=kb _ _ D.TOi1 (ka _ _ D.TOz hO)
  refine À (ĭ ob rfl (À (wpAny_updateSeq_pair ob λhc oc sc=>À (wpAny_letGo (Ç ?_)))))
  have kc:=λc o n=>sc.extBut c o n
  refine À (À (wpAny_onRaise ?_))
  show wpAny _ _ (õ (.ref i2) >>= _) _ _ _
  refine À (gw hh (eY t2 λo e=>kc _ o (é D.TOi2) (kb _ o (é D.i12) (ka _ o D.i2z e))) (lF q2 λo e=>kc _ o D.l2TO (kb _ o D.l2i1 (ka _ o D.l2z e))) hy λhd e kd he=>?_)
  obtain⟨oe,ho,hcl⟩:=he
  have zd:IsZip hd z TI TO .ellipsis:=kd _ _ (é D.i2z) (kc _ _ (é D.TOz) (kb _ _ (é D.i1z) za))
  have ne:e≠z:=λy=>by subst y;rw[zd] at ho;cases ho;simp at hcl
  refine İ zd (by simp) λhg zg sg=>?_
  refine À (wpAny_isInstance (T:="StopIteration") (b:=true) ⟨oe,sg.extBut _ _ ne ho,hcl⟩ isSubtype_stop (Ç (hQ _ λc o n1 n2 n3 n4 q=>?_)))
  exact sg.extBut _ _ n1 (kd _ _ n4 (kc _ _ n2 (kb _ _ n3 (ka _ _ n1 q))))
end
def Aa(l1 l2:Addr)(xs ys:Array Value) :
  Meets (Builtin.«zip.__new__» ⟨[.type "zip",.ref l1,.ref l2],[]⟩) (λ_ R s=>s.heap.IsTuple l1 xs/\s.heap.IsTuple l2 ys /\
   ∀(h1 h2 h3 h4 h5:Heap),h1=s.heap.push { cls:=.type "tuple_iterator",data:=.fields #[.ref l1,.int 0 0] }->h2=h1.push { cls:=.type "tuple_iterator",data:=.fields #[.ref l2,.int 0 0] }->h3=h2.push { cls:=.type "tuple",data:=.seq #[.ref s.heap.objs.size,.ref h1.objs.size] } ->
    h4=h3.push { cls:=.type "tuple",data:=.seq #[.none,.none] }->h5=h4.push { cls:=.type "zip",data:=.fields #[.none,.bool false,.bool false,.ref h2.objs.size,.ref h3.objs.size] }->R (.ok (.ret (.ref h4.objs.size))) { s with heap:=h5 }) :=
 .of_wp λprog w A R s h=>by
  obtain⟨hp,g,d,tk,os⟩:=s
  obtain⟨q1,q2,h⟩:=h
  have sub:=sub_zip
  have m1:Heap.IsTuple (Shared.heap ⟨hp,g,d,tk,os⟩) l1 xs:=q1
  have m2:Heap.IsTuple (Shared.heap ⟨hp.push { cls:=.type "tuple_iterator",data:=.fields #[.ref l1,.int 0 0] },g,d,tk,os⟩) l2 ys:=lF q2 λo e=>Ä _ e
  wp_walk using Ŕ m1,Ŕ m2
  exact⟨_,rfl,h _ _ _ _ _ rfl rfl rfl rfl rfl⟩
section
variable {prog:Program}{w:World}{A:Around}{E:Value->Shared->Prop}{s:Shared}{l1 l2:Addr}{xs ys:Array Value}
def zH{Q:Value->Shared->Prop}(q1:s.heap.IsTuple l1 xs)(q2:s.heap.IsTuple l2 ys)(h:∀h',ZT (s.heap.objs.size+4) (s.heap.objs.size+2) (s.heap.objs.size+3) s.heap.objs.size (s.heap.objs.size+1) l1 l2 0 h'->(∀c o,s.heap.get? c=some o->h'.get? c=some o)->Q (.ref (s.heap.objs.size+4)) { s with heap:=h' }) :
  wpAny (model prog w) A (call (.type "zip") [.ref l1,.ref l2]) Q E s:=by
 refine callType_new F.called_zip (by decide) (F.typeCall_zip_2 _ _) (F.newCall_zip_2 _ _) (λobj=>F.args_object_init_3 obj _ _) F.entry_zip_new (Aa l1 l2 xs ys) ⟨q1,q2,?_⟩
 intro h1 h2 h3 h4 h5 e1 e2 e3 e4 e5
 have z1:h1.objs.size=s.heap.objs.size+1:=by rw[e1];exact ė ..
 have z2:h2.objs.size=s.heap.objs.size+2:=by rw[e2,ė,z1]
 have z3:h3.objs.size=s.heap.objs.size+3:=by rw[e3,ė,z2]
 have z4:h4.objs.size=s.heap.objs.size+4:=by rw[e4,ė,z3]
 have up:∀{h h':Heap}{o:Obj}{c:Addr}{q:Obj},h'=h.push o->h.get? c=some q->h'.get? c=some q:=λe q=>by rw[e];exact Ä _ q
 have top:∀{h h':Heap}{o:Obj}{n:Nat},h'=h.push o->h.objs.size=n->o.isFreed=false->h'.get? n=some o:=λe z f=>by rw[e,←z];exact Ô _ f
 have g1:=top e1 rfl rfl
 have g2:=top e2 z1 rfl
 have g3:=top e3 z2 rfl
 have g4:=top e4 z3 rfl
 have g5:=top e5 z4 rfl
 rw[z1] at g3
 rw[z2,z3] at g5
 show _/\_
 rw[z4]
 refine⟨⟨_,g5,rfl⟩,h _ ⟨g5,up e5 (up e4 g3),⟨_,_,up e5 g4⟩,⟨_,up e5 (up e4 (up e3 (up e2 g1))),rfl,rfl⟩,⟨_,up e5 (up e4 (up e3 g2)),rfl,rfl⟩⟩ λc o q=>up e5 (up e4 (up e3 (up e2 (up e1 q))))⟩
end
def Ft(K:Ê)(a b:Addr):It :=
 ⟨λi H=>∃xs ys x y,SqT K H a xs/\SqT K H b ys/\xs[i]?=some x/\ys[i]?=some y,λi H v H'=>∃t x y,v=.ref t/\H t=none/\H'=upd H t (.tup [x,y])/\(∀xs,SqT K H a xs->xs[i]?=some x)/\∀ys,SqT K H b ys->ys[i]?=some y,λi H=>∃xs ys,SqT K H a xs/\SqT K H b ys/\(xs.length<=i\/ys.length<=i)⟩
def yj{P:Program}{w:World}{K:Ê}{elts:List Expr}{kk:Nat}{pos:Pos}{a b z TI TO i1 i2:Addr}(D:ZipApart z TI TO i1 i2 a b) :
  Turn P w K (.Tuple elts kk pos) (Ft K a b) [z,TI,TO,i1,i2] z (ZT z TI TO i1 i2 a b) where
 mem:=by simp
 obj:=λi h st c hc=>by
  obtain⟨hz,hTI,⟨u,v,hTO⟩,⟨o1,j1,c1,d1⟩,⟨o2,j2,c2,d2⟩⟩:=st
  simp only[É,Ö,or_false] at hc
  rcases hc with rfl|rfl|rfl|rfl|rfl
  ·exact⟨_,hz,λv z=>nomatch z⟩
  ·exact⟨_,hTI,λv z=>nomatch z⟩
  ·exact⟨_,hTO,λv z=>nomatch z⟩
  ·exact⟨o1,j1,λv z=>by rw[d1] at z;cases z⟩
  ·exact⟨o2,j2,λv z=>by rw[d2] at z;cases z⟩
 keep:=λi h h' st k=>by
  obtain⟨hz,hTI,⟨u,v,hTO⟩,⟨o1,j1,r1⟩,⟨o2,j2,r2⟩⟩:=st
  exact⟨k z (by simp) _ hz,k TI (by simp) _ hTI,⟨u,v,k TO (by simp) _ hTO⟩,⟨o1,k i1 (by simp) _ j1,r1⟩,⟨o2,k i2 (by simp) _ j2,r2⟩⟩
 item:=by
  intro X hP hw hK hc i pins s σ H E I hf st hg
  subst hP hw hK
  obtain⟨xs,ys,x,y,hq,hq2,hx,hy⟩:=hg
  obtain⟨its,rv,pl,hz1⟩:=I.tuple hq
  obtain⟨its2,rv2,pl2,hz2⟩:=I.tuple hq2
  obtain⟨u,hu,ru⟩:=rv.get hx
  obtain⟨u2,hu2,ru2⟩:=rv2.get hy
  obtain⟨hz,hTI,hTO,h1,h2⟩:=st
  have ex:its.toArray[i]?=some u:=by simpa using hu
  have ey:its2.toArray[i]?=some u2:=by simpa using hu2
  refine yd D ⟨hz,hTI,hTO,h1,h2⟩ (show s.heap.IsTuple a its.toArray from pl) (show s.heap.IsTuple b its2.toArray from pl2) ex ey λh' zg og t1 t2 new kp=>⟨_,rfl,wpAny_letOwnedTupleGo_zip zg λh3 z3 s3=>?_⟩
  have k3:∀c o,c≠z->h'.get? c=some o->h3.get? c=some o:=λc o n e=>s3.extBut _ _ n e
  generalize hT:s.heap.objs.size=T at new zg
  have hTs:s.heap.objs.size<=T:=Nat.le_of_eq hT
  have ap:T≠z:=λe=>by have new':h'.get? T=_:=new;rw[e,show h'.get? z=_ from zg] at new';injection new' with new';injection new' with e1;injection e1 with e2;exact absurd e2 (by decide)
  have hTn:H T=none:=I.hok.fresh hTs
  have keep2:∀c o,c∉[z,TO,i1,i2]->s.heap.get? c=some o->h3.get? c=some o:=λc o hc q=>by
   simp only[É,Ö,or_false,not_or] at hc
   exact k3 c o hc.1 (kp c o hc.1 hc.2.1 hc.2.2.1 hc.2.2.2 q)
  have fz:∀c∈[z,TO,i1,i2],jo X pins H c:=λc hc=>hf c (by
   simp only[É,Ö,or_false] at hc ⊢
   rcases hc with h|h|h|h <;> simp[h])
  have nT:∀{c:Addr}{y:HO},H c=some y->c∉[z,TO,i1,i2]:=λ{c y} q hc=>by
   have:=(fz c hc).1
   rw[this] at q
   cases q
  have hTup3:IsTup h3 T #[u,u2]:=⟨_,k3 T _ ap new,rfl,_,rfl⟩
  have J:Inv X pins σ (upd H T (.tup [x,y])) { s with heap:=h3,toks:=s.toks }:=by
   refine I.step (g':=s.gens) (d':=s.drawn) (t':=s.toks) (ch:=[z,TO,i1,i2]) (λc hc=>?_) (λc o _ _ hcb q _=>keep2 c o hcb q)
    (λc o _ _ hcb q _=>⟨o.slots,keep2 c o hcb q⟩) (λc o _ q n=>by rw[ao (Û (Ó (Å q) hTs))];exact n)
    (λc o hcb q=>⟨o,keep2 c o hcb q⟩) (λc ys q=>by rw[ao (au q hTn)];exact q) (λc o y q=>by rw[ao (au q hTn)];exact q)
    (λc ps q=>⟨#[],by rw[ao (au q hTn),q];simp⟩) (λm hm=>?_) ?_ I.bare
   ·obtain⟨e0,e1,e2,e3,e4,e5⟩:=fz c hc
    exact⟨e3,e1,e4,e5⟩
   ·obtain⟨o,es,ep,ho',r⟩:=hm
    refine⟨o,es,ep,keep2 _ o (λhc=>?_) ho',r⟩
    exact(fz _ hc).2.1 rfl
   ·intro c u' q
    by_cases hb:c=T
    ·subst hb
     rw[aA] at q
     cases q
     exact⟨(by show 2<=sizeLine;decide),[u,u2],.cons ru (.cons ru2 .nil),hTup3⟩
    ·rw[ao hb] at q
     refine(I.hok c u' q).stay (λd v hcv y=>keep2 d v ?_ y) (λd y=>by rw[ao (au y hTn)];exact y) λd ys y=>by rw[ao (au y hTn)];exact y
     rcases hcv with rfl|z
     ·exact nT q
     ·exact nT z
  refine⟨.ref T,_,J,rfl,⟨T,x,y,rfl,hTn,rfl,λxs' hy'=>by rw[I.kj hy' hq];exact hx,λys' hy'=>by rw[I.kj hy' hq2];exact hy⟩,⟨z3,k3 _ _ D.TIz (kp _ _ D.TIz D.TITO D.TIi1 D.TIi2 hTI),⟨_,_,k3 _ _ D.TOz og⟩,eY t1 λo=>k3 _ o D.i1z,eY t2 λo=>k3 _ o D.i2z⟩,λc hc=>?_⟩
  rw[ao]
  ·exact(hf c hc).1
  ·rintro rfl
   simp only[É,Ö,or_false] at hc
   have lt:∀{d:Addr}{o:Obj},s.heap.get? d=some o->c≠d:=λe=>ļ (Ó (Å e) hTs)
   obtain⟨w1,w2,hTO'⟩:=hTO
   obtain⟨o1,j1,_⟩:=h1
   obtain⟨o2,j2,_⟩:=h2
   rcases hc with h|h|h|h|h
   ·exact lt hz h
   ·exact lt hTI h
   ·exact lt hTO' h
   ·exact lt j1 h
   ·exact lt j2 h
 done:=by
  intro X hP hw hK hc i pins s σ H E I hf st hg
  subst hP hw hK
  obtain⟨xs,ys,hq,hq2,he⟩:=hg
  obtain⟨its,rv,pl,hz1⟩:=I.tuple hq
  obtain⟨its2,rv2,pl2,hz2⟩:=I.tuple hq2
  obtain⟨hz,hTI,⟨u,v,hTO⟩,h1,h2⟩:=st
  have r1:=rv.length
  have r2:=rv2.length
  refine Ab (I.ok.hd hc) D ⟨hz,hTI,⟨u,v,hTO⟩,h1,h2⟩ (show s.heap.IsTuple a its.toArray from pl) (show s.heap.IsTuple b its2.toArray from pl2) ?_ λh' hk=>⟨rfl,?_⟩
  ·rcases he with he|he
   ·left;simp;omega
   ·right;simp;omega
  have fz:∀c∈[z,TO,i1,i2],jo X pins H c:=λc hc=>hf c (by
   simp only[É,Ö,or_false] at hc ⊢
   rcases hc with h|h|h|h <;> simp[h])
  have keep2:∀c o,c∉[z,TO,i1,i2]->s.heap.get? c=some o->h'.get? c=some o:=λc o hc q=>hk c o (λe=>hc (by simp[e])) (λe=>hc (by simp[e])) (λe=>hc (by simp[e])) (λe=>hc (by simp[e])) q
  have nT:∀{c:Addr}{y:HO},H c=some y->c∉[z,TO,i1,i2]:=λ{c y} q hc=>by
   have:=(fz c hc).1
   rw[this] at q
   cases q
  refine I.step (g':=s.gens) (d':=s.drawn) (t':=s.toks) (ch:=[z,TO,i1,i2]) (λc hc=>?_) (λc o _ _ hcb q _=>keep2 c o hcb q)
    (λc o _ _ hcb q _=>⟨o.slots,keep2 c o hcb q⟩) (λc o _ q n=>n)
    (λc o hcb q=>⟨o,keep2 c o hcb q⟩) (λc ys q=>q) (λc o y q=>q)
    (λc ps q=>⟨#[],by rw[q];simp⟩) (λm hm=>?_) ?_ I.bare
  ·obtain⟨e0,e1,e2,e3,e4,e5⟩:=fz c hc
   exact⟨e3,e1,e4,e5⟩
  ·obtain⟨o,es,ep,ho',r⟩:=hm
   refine⟨o,es,ep,keep2 _ o (λhc=>?_) ho',r⟩
   exact(fz _ hc).2.1 rfl
  ·intro c u' q
   refine(I.hok c u' q).stay (λd v hcv y=>keep2 d v ?_ y) (λd y=>y) λd ys y=>y
   rcases hcv with rfl|z
   ·exact nT q
   ·exact nT z
 self:=λA i s Q E st h=>by
  obtain⟨hz,_⟩:=st
  exact wpAny_pyIter_zip hz h
def Nx(K:Ê)(ta:TA):TI:=λσ H R=>ta σ H λvs H1=>∃a b,vs=[.ref a,.ref b]/\((∃xs ys,SqL K H1 a xs/\SqL K H1 b ys/\R (Ld K a b) H1)\/∃xs ys,SqT K H1 a xs/\SqT K H1 b ys/\R (Ft K a b) H1)
def Gf{X:Cx}{elts:List Expr}{kk:Nat}{tpos:Pos}{a b:Expr}{ta:TA}{p pos:Pos}(hg:Gl X "zip")(hm:X.mg "zip"=none)(ha:PA X [a,b] ta)(e2:starEach [a,b] X.env=(false,eval a X.env)::starEach [b] X.env:=by rfl)(e3:(backTo pos (starEach [b] X.env)).any (·.1)=false:=by rfl) :
  PI X (.Tuple elts kk tpos) (.Call (.Name "zip" p) [a,b] [] pos) (Nx X.K ta):=by
 intro pins s σ H R I h
 refine Call_ (nW I hg hm PyProof.Rows.boot_zip (Ř (thn (ha pos pins s σ H _ I h) λus s1 ⟨vs,H1,I1,r1,q1⟩=>?_) e2 e3))
 obtain⟨a,b,rfl,q1⟩:=q1
 obtain⟨u,u2,rfl,rx,ry⟩:=vals2 r1
 cases rx
 cases ry
 have fr:∀j,jo X pins H1 (s1.heap.objs.size+j):=λj=>I1.Hi (ŝ _ _) (I1.hok.fresh (ŝ _ _))
 rcases q1 with ⟨xs,ys,hp,hq,k⟩|⟨xs,ys,hp,hq,k⟩
 ·obtain⟨its,rv,pl,_⟩:=I1.list hp
  obtain⟨its2,rv2,pl2,_⟩:=I1.list hq
  refine call_zip_2 pl.isList pl2.isList λh' hz hTI hTO hi1 hi2 hsz hk=>?_
  have lp:a<s1.heap.objs.size:=by obtain⟨o,e,_⟩:=pl.isList;exact Å e
  have lq:b<s1.heap.objs.size:=by obtain⟨o,e,_⟩:=pl2.isList;exact Å e
  have T:=Ak (P:=X.prog) (w:=X.w) (K:=X.K) (elts:=elts) (kk:=kk) (pos:=tpos) (zipApart_new lp lq)
  refine T.self _ 0 _ _ _ ⟨hz,hTI,⟨_,_,hTO⟩,hi1,hi2⟩ ⟨_,_,_,_,H1,rfl,I1.kept (t':=s1.toks) hk,T,⟨hz,hTI,⟨_,_,hTO⟩,hi1,hi2⟩,λc hc=>?_,k⟩
  simp only[É,Ö,or_false] at hc
  rcases hc with h|h|h|h|h
  ·rw[h];exact fr 4
  ·rw[h];exact fr 2
  ·rw[h];exact fr 3
  ·rw[h];exact fr 0
  ·rw[h];exact fr 1
 ·obtain⟨its,rv,pl,_⟩:=I1.tuple hp
  obtain⟨its2,rv2,pl2,_⟩:=I1.tuple hq
  refine zH (show s1.heap.IsTuple a its.toArray from pl) (show s1.heap.IsTuple b its2.toArray from pl2) λh' Z hk=>?_
  have lp:a<s1.heap.objs.size:=by obtain⟨o,e,_⟩:=pl;exact Å e
  have lq:b<s1.heap.objs.size:=by obtain⟨o,e,_⟩:=pl2;exact Å e
  have T:=yj (P:=X.prog) (w:=X.w) (K:=X.K) (elts:=elts) (kk:=kk) (pos:=tpos) (zipApart_new lp lq)
  refine T.self _ 0 _ _ _ Z ⟨_,_,_,_,H1,rfl,I1.kept (t':=s1.toks) hk,T,Z,λc hc=>?_,k⟩
  simp only[É,Ö,or_false] at hc
  rcases hc with h|h|h|h|h
  ·rw[h];exact fr 4
  ·rw[h];exact fr 2
  ·rw[h];exact fr 3
  ·rw[h];exact fr 0
  ·rw[h];exact fr 1
end L2
namespace Dl
open PySem L2 PyProof.Rows
variable [Gr]
section
variable {X:Cx}{tg:Expr}{pos:Pos}{ta:DA}
def yh{K:Ê}{ok:Addr->Prop}{a b:Addr}{ds es:List D}:Wlk (λH=>Rp ok H (.ref a) (.tuple ds)/\Rp ok H (.ref b) (.tuple es)) (Ft K a b) ((ds.zip es).map prD) ok where
 go:=λi H r hi=>by
  obtain⟨b,vs,e,h,rs⟩:=r.1.dY
  cases e
  obtain⟨b2,vs2,e,h2,rs2⟩:=r.2.dY
  cases e
  rw[Á,Č] at hi
  have l1:i<vs.length:=by rw[rs.length];omega
  have l2:i<vs2.length:=by rw[rs2.length];omega
  exact⟨vs,vs2,vs[i],vs2[i],SqT.of h,SqT.of h2,by simp[l1],by simp[l2]⟩
 stop:=λH r=>by
  obtain⟨b,vs,e,h,rs⟩:=r.1.dY
  cases e
  obtain⟨b2,vs2,e,h2,rs2⟩:=r.2.dY
  cases e
  refine⟨vs,vs2,SqT.of h,SqT.of h2,?_⟩
  rw[Á,Č,rs.length,rs2.length]
  omega
 yld:=λi H x H' r y=>by
  obtain⟨t,v,v2,rfl,ht,rfl,y1,y2⟩:=y
  have sm:Same H (upd H t (.tup [v,v2])):=λb u q=>by rw[ao (au q ht)];exact q
  refine⟨sm,λd hd=>?_⟩
  obtain⟨b,vs,e,h,rs⟩:=r.1.dY
  cases e
  obtain⟨b2,vs2,e,h2,rs2⟩:=r.2.dY
  cases e
  rw[Þ] at hd
  cases he:(ds.zip es)[i]? with
  |none=>rw[he] at hd;cases hd
  |some pq =>
   rw[he] at hd
   have e:=Ò hd
   subst e
   obtain⟨g1,g2⟩:=ġ.mp he
   obtain⟨w1,hw1,rw1⟩:=rs.getD g1
   obtain⟨w2,hw2,rw2⟩:=rs2.getD g2
   have z1:=y1 vs (SqT.of h)
   rw[hw1] at z1
   cases z1
   have z2:=y2 vs2 (SqT.of h2)
   rw[hw2] at z2
   cases z2
   exact .tup aA (.cons (rw1.mono (λ_ o=>o) (λa o _ e=>sm a o e) λa xs e=>sm a _ e) (.cons (rw2.mono (λ_ o=>o) (λa o _ e=>sm a o e) λa xs e=>sm a _ e) .nil))
 stab:=λH H' r f t=>⟨r.1.cB (λa o n e=>⟨n,f a o n e⟩) t,r.2.cB (λa o n e=>⟨n,f a o n e⟩) t⟩
def Nv(ta:DA):DI:=λρ P=>ta ρ λks=>match ks with
 |[(k1,.list ds),(k2,.list es)]=>P (k1.join k2) ((ds.zip es).map prD)
 |[(k1,.tuple ds),(k2,.tuple es)]=>P (k1.join k2) ((ds.zip es).map prD)
 |_=>False
def rO{elts:List Expr}{kk:Nat}{tpos:Pos}{a b:Expr}{ps:Pos}(hm:X.mg "zip"=none)(ha:PDA X [a,b] ta)(hg:Gl X "zip":=by rfl)(e2:starEach [a,b] X.env=(false,eval a X.env)::starEach [b] X.env:=by rfl)(e3:(backTo pos (starEach [b] X.env)).any (·.1)=false:=by rfl):PDI X (.Tuple elts kk tpos) (.Call (.Name "zip" ps) [a,b] [] pos) (Nv ta):=PI.wk (Gf hg hm ha e2 e3) (by
 rintro σ H R ⟨p,H0,own,ρ,P,E,t,q⟩
 refine⟨p,H0,own,ρ,_,E,t,λks vs H1 h A r=>?_⟩
 split at h
 ·rename_i k1 ds k2 es
  obtain⟨v1,v2,rfl,r1,r2⟩:=Bj r
  have r1:=gW A (dB k1 k2).1 r1
  have r2:=gW A (dB k1 k2).2 r2
  obtain⟨a,vs,e,_,ha,rs⟩:=Rp.cg (id r1)
  subst e
  obtain⟨b,vs2,e,_,hb,rs2⟩:=Rp.cg (id r2)
  subst e
  exact⟨a,b,rfl,.inl ⟨vs,vs2,SqL.of ha,SqL.of hb,q (k1.join k2) _ _ H1 _ h A Ac ⟨rpA r1,rpA r2⟩⟩⟩
 ·rename_i k1 ds k2 es
  obtain⟨v1,v2,rfl,r1,r2⟩:=Bj r
  have r1:=gW A (dB k1 k2).1 r1
  have r2:=gW A (dB k1 k2).2 r2
  obtain⟨a,vs,e,ha,rs⟩:=Rp.dY (id r1)
  subst e
  obtain⟨b,vs2,e,hb,rs2⟩:=Rp.dY (id r2)
  subst e
  exact⟨a,b,rfl,.inr ⟨vs,vs2,SqT.of ha,SqT.of hb,q (k1.join k2) _ _ H1 _ h A yh ⟨rpA r1,rpA r2⟩⟩⟩
 ·exact h.elim)
end
end Dl
namespace Wr
open PySem L2 PyProof.Rows Dl
variable [Gr] {X:Cx}{pos:Pos}{ta:DA}
def rO{elts:List Expr}{kk:Nat}{tpos:Pos}{a b:Expr}{ps:Pos}(hm:X.mg "zip"=none)(ha:WDA X [a,b] ta)(hg:Gl X "zip":=by rfl)(e2:starEach [a,b] X.env=(false,eval a X.env)::starEach [b] X.env:=by rfl)(e3:(backTo pos (starEach [b] X.env)).any (·.1)=false:=by rfl):WDI X (.Tuple elts kk tpos) (.Call (.Name "zip" ps) [a,b] [] pos) (Nv ta):=⟨Dl.rO hm ha.h hg e2 e3⟩
end Wr
namespace Dl
open PySem L2 PyProof.Rows
section
variable {X:Cx}
def Br(K:Ê):V->List V->Hp->VK->Prop:=λx vs H Q=>∃(l:Addr) (ns:List Int) (k:Int),x=.ref l/\vs=[.int k]/\SqL K H l (ns.map V.int)/\(å (ns.map Â)).layable0=true/\k∈ns/\Q (.int ((ns.idxOf k:Nat):Int)) H
def Di:MtM X "list.index" (Br X.K):=by
 intro pins s σ H x vs v us Q I rx rv h
 obtain⟨l,ns,k,rfl,rfl,hl,la,hk,q⟩:=h
 cases rx
 obtain⟨u,rfl,ru⟩:=rv.one
 obtain⟨t,rfl⟩:=ru
 obtain⟨its,rv,pl,hz⟩:=I.list hl
 exact index_list_ints pl.isList (intsAre_of rv) la hk ⟨.int _,H,I.tok _,⟨_,rfl⟩,q⟩
end
section
variable [Gr] {X:Cx}{e:Expr}{te ta:DE}
def LK(te:DE)(ta:DE):DE:=λρ P=>te ρ λ_ d=>∃ns:List Int,d=.list (ns.map Â)/\ta ρ λ_ d2=>match d2 with
 |.int k=>(å (ns.map Â)).layable0=true/\k∈ns/\P .imm (.int ((ns.idxOf k:Nat):Int))
 |_=>False
def nA{o:Expr}{cpos:Pos}(h:PE X e (tBM X.K "list" (Br X.K) (cV te) (ju (dH ta jF)))):PD X e (LK te ta):=PE.wk h (by
 rintro σ H Q ⟨p,H0,own,ρ,P,E,t,q⟩
 refine⟨p,H0,own,ρ,_,E,t,λk d v H1 h A r=>?_⟩
 obtain⟨ns,rfl,h⟩:=h
 obtain⟨l,vs,rfl,o1,hl,rs⟩:=Rp.cg r
 have e2:=Rps.ints rs
 subst e2
 refine⟨.inl ⟨rfl,_,SqL.of hl⟩,p,H0,own,ρ,_,E.go A.kp A.pen,Gs h,?_⟩
 rintro ks us H2 ⟨k1,d1,rfl,q2⟩ A2 rk
 obtain⟨y,rfl,ry⟩:=fB rk
 have A3:=A.base A2
 cases d1 with
 |int i =>
  have ey:=Rp.int' ry
  subst ey
  have r2:=mY A A2.kp r
  obtain⟨l2,vs2,el,o2,hl2,rs2⟩:=Rp.cg r2
  cases el
  have e3:=Rps.ints rs2
  subst e3
  exact⟨l,ns,i,rfl,rfl,SqL.of hl2,q2.1,q2.2.1,q _ _ _ _ q2.2.2 A3 (.int _)⟩
 |_=>exact q2.elim)
end
end Dl
namespace Wr
open PySem L2 PyProof.Rows Dl
section
variable [Gr] {X:Cx}{te ta:DE}
def nA{o e:Expr}{es:List Expr}{apos cpos:Pos}(hv:WD X o te)(ha:WDA X (e::es) (dH ta jF))(hbase:attributeBase o "index" X.env (eval o X.env)=eval o X.env:=by rfl)(hfew:zW X cpos (e::es):=by rfl)(hline:(apos.endLine == cpos.line)=true:=by rfl)(hst:zS X e es:=by rfl)(hplain:zP X cpos es:=by rfl)
 :WD X (.Call (.Attribute o "index" apos) (e::es) [] cpos) (LK te ta):=⟨Dl.nA (o:=o) (cpos:=cpos) (tu ħ PySem.F.slot_list_index PySem.F.type_list_index Di hv.h ha.h hbase hfew hline hst hplain)⟩
end
end Wr
namespace Nf
open PySem PySem.W PyProof.Rows
def lV(tb:String->Option Builtin)(p:Program)(w:World)(m:Nat)(ann:Option Value):Nat->SharedT->Thread->Option SharedT
 |0,_,_=>none
 |n+1,s,t=>match through t with
  |true=>some s
  |false=>match stepOk m ann t with
   |false=>none
   |true=>match stepT (denote tb) p w s t with
    |none=>none
    |some r=>lV tb p w m ann n r.1 r.2
def pH{tb:String->Option Builtin}{p:Program}{w:World}{m:Nat}{ann:Option Value}:∀{n:Nat}{s s':SharedT}{t:Thread},lV tb p w m ann n s t=some s'->topRun tb p w m ann n s.abs t=some s'.abs
 |0,_,_,_,h=>by cases h
 |n+1,s,s',t,h=>by
  unfold lV at h
  unfold topRun
  cases he:through t with
  |true=>rw[he] at h;cases h;rfl
  |false =>
   rw[he] at h
   cases hk:stepOk m ann t with
   |false=>rw[hk] at h;cases h
   |true =>
    rw[hk] at h
    cases hs:stepT (denote tb) p w s t with
    |none=>rw[hs] at h;cases h
    |some r=>obtain⟨s2,t2⟩:=r;rw[hs] at h;rw[stepT_spec hs];exact pH h
def ou(P:Params):List DictEntry:=match (Ń P).data with|.dict es _=>es.toList|_=>[]
def gB(P:Params)(i:Nat):List DictEntry:=((ou P).drop i).take 16
def b0(P:Params):List DictEntry:=by
 refine(?f:(l:List DictEntry)->l=gB P 0->List DictEntry) ?l ?h
 case f=>exact λl _=>l
 case h=>unfold gB ou Ń;dsimp only[ō,Ō];exact rfl
def b1(P:Params):List DictEntry:=by
 refine(?f:(l:List DictEntry)->l=gB P 16->List DictEntry) ?l ?h
 case f=>exact λl _=>l
 case h=>unfold gB ou Ń;dsimp only[ō,Ō];exact rfl
def b2(P:Params):List DictEntry:=by
 refine(?f:(l:List DictEntry)->l=gB P 32->List DictEntry) ?l ?h
 case f=>exact λl _=>l
 case h=>unfold gB ou Ń;dsimp only[ō,Ō];exact rfl
def b3(P:Params):List DictEntry:=by
 refine(?f:(l:List DictEntry)->l=gB P 48->List DictEntry) ?l ?h
 case f=>exact λl _=>l
 case h=>unfold gB ou Ń;dsimp only[ō,Ō];exact rfl
def b4(P:Params):List DictEntry:=by
 refine(?f:(l:List DictEntry)->l=gB P 64->List DictEntry) ?l ?h
 case f=>exact λl _=>l
 case h=>unfold gB ou Ń;dsimp only[ō,Ō];exact rfl
def b5(P:Params):List DictEntry:=by
 refine(?f:(l:List DictEntry)->l=gB P 80->List DictEntry) ?l ?h
 case f=>exact λl _=>l
 case h=>unfold gB ou Ń;dsimp only[ō,Ō];exact rfl
def b6(P:Params):List DictEntry:=by
 refine(?f:(l:List DictEntry)->l=gB P 96->List DictEntry) ?l ?h
 case f=>exact λl _=>l
 case h=>unfold gB ou Ń;dsimp only[ō,Ō];exact rfl
def b7(P:Params):List DictEntry:=by
 refine(?f:(l:List DictEntry)->l=gB P 112->List DictEntry) ?l ?h
 case f=>exact λl _=>l
 case h=>unfold gB ou Ń;dsimp only[ō,Ō];exact rfl
def b8(P:Params):List DictEntry:=by
 refine(?f:(l:List DictEntry)->l=gB P 128->List DictEntry) ?l ?h
 case f=>exact λl _=>l
 case h=>unfold gB ou Ń;dsimp only[ō,Ō];exact rfl
def b9(P:Params):List DictEntry:=by
 refine(?f:(l:List DictEntry)->l=gB P 144->List DictEntry) ?l ?h
 case f=>exact λl _=>l
 case h=>unfold gB ou Ń;dsimp only[ō,Ō];exact rfl
def bo0(P:Params):Obj:={ cls:=.type "dict",data:=.dict ⟨b0 P++(b1 P++(b2 P++(b3 P++(b4 P++(b5 P++(b6 P++(b7 P++(b8 P++(b9 P)))))))))⟩ 159 }
def K9:Ń=bo0:=by funext P;kernel_rfl
def Fl(P:Params):Heap:={ objs:=⟨[bo0 P,boot_o_1 P,boot_o_2 P,boot_o_3 P,boot_o_4 P,boot_o_5 P,boot_o_6 P,boot_o_7 P,boot_o_8 P,boot_o_9 P,boot_o_10 P]⟩ }
def uT:Ĩ=Fl:=by
 funext P
 show Heap.mk ⟨Ń P::_⟩ _=_
 rw[K9]
 rfl
def uR(P:Params):BT:=((((((((((BT.nil.ins 0 (bo0 P)).ins 1 (boot_o_1 P)).ins 2 (boot_o_2 P)).ins 3 (boot_o_3 P)).ins 4 (boot_o_4 P)).ins 5 (boot_o_5 P)).ins 6 (boot_o_6 P)).ins 7 (boot_o_7 P)).ins 8 (boot_o_8 P)).ins 9 (boot_o_9 P)).ins 10 (boot_o_10 P)
def Ig:Life:={}
def zY(P:Params):absHeap (uR P) 11 Ig=Ĩ P:=by rw[uT];kernel_rfl
def vm(w:World)(os:OsState):SharedT:=⟨uR w.params,11,Ig,#[],boot_drawn,boot_toks,os⟩
def yt(w:World)(os:OsState):(vm w os).abs=⟨Ĩ w.params,#[],boot_drawn,boot_toks,os⟩:=by
 unfold vm SharedT.abs
 dsimp only
 rw[zY]
def wO(P:Params):=((Ĩ P).isNs mainGlobals,(Ĩ P).objs.size,(Ĩ P).nsMap mainGlobals "__annotations__")
def vq:wO=wO:=rfl
end Nf
name_quick sizeQ for Nf.wO by Nf.vq
namespace Nf
open PySem PySem.W PyProof.Rows
def zZ(w:World):((Ĩ w.params).isNs mainGlobals,(Ĩ w.params).objs.size,(Ĩ w.params).nsMap mainGlobals "__annotations__")=(true,11,some (.ref 6)):=by
 show wO w.params=_
 rw[W.Fast.sizeQ_eq]
 kernel_rfl
def yx(p:Program)(N:Nat)(w:World)(os:OsState):=lV treeTable p w 11 (some (.ref 6)) N (vm w os) (topStub p)
def Bd(p q:Program)(Xt:Shared->Bool)(w:World)(s:Shared) :=
 (staticsOk (importedModules p.main.body) (Fl w.params) s.heap&&namesBound p s.heap&&gensDone s&&laidKept (Fl w.params) s.heap,openSeen q [] (importedModules p.main.body) Xt true s)
def G5{p q:Program}{Xt:Shared->Bool}{β:Type}{Yf:Shared->List β}{Ya:World->List β}{N:Nat}(k:Nat)(open_:∀w:World,(fencedOpening treeTable p w N).map (λs=>(s.heap,s.gens,s.drawn,s.toks))=some (Ĩ w.params,Array.mk [],boot_drawn,boot_toks))(look:∀(w:World) (os:OsState),(yx p N w os).map (λs=>Bd p q Xt w s.abs)=some (true,openGood q []))(front:∀(w:World) (os:OsState),(yx p N w os).map (λs=>(Yf s.abs).take k)=some ((Ya w).take k))(back:∀(w:World) (os:OsState),(yx p N w os).map (λs=>(Yf s.abs).drop k)=some ((Ya w).drop k)):LeftO p q [] Xt Yf Ya N:=λw=>by
 obtain⟨⟨h,gs,d,j,os⟩,e,e'⟩:=Ő.mp (open_ w)
 obtain⟨rfl,rfl,rfl,rfl⟩:h=Ĩ w.params/\gs=#[]/\d=boot_drawn/\j=boot_toks:=by simpa using e'
 obtain⟨z1,z2,z3⟩:_/\_/\_:=by simpa only[Prod.mk.injEq] using zZ w
 obtain⟨s,hs,l⟩:=Ő.mp (look w os)
 have l4:(Yf s.abs).take k=(Ya w).take k:=by
  have:=front w os
  rw[hs] at this
  exact Ò this
 have l5:(Yf s.abs).drop k=(Ya w).drop k:=by
  have:=back w os
  rw[hs] at this
  exact Ò this
 have l3:Yf s.abs=Ya w:=by rw[←List.take_append_drop k (Yf s.abs),l4,l5,List.take_append_drop]
 unfold Bd at l
 rw[←uT] at l
 obtain⟨l1,l2⟩:=Prod.mk.inj l
 have r:=pH hs
 rw[yt] at r
 have t:topFrom treeTable p w N ⟨Ĩ w.params,#[],boot_drawn,boot_toks,os⟩=some s.abs:=by
  unfold topFrom
  dsimp only
  rw[z1,z2,z3,r]
  show(match staticsOk (importedModules p.main.body) (Ĩ w.params) s.abs.heap&&namesBound p s.abs.heap&&gensDone s.abs&&laidKept (Ĩ w.params) s.abs.heap with|true=>_|false=>_)=_
  rw[l1]
 unfold openEnds
 rw[e]
 show(topFrom treeTable p w N _).map _=_
 rw[t]
 exact congrArg some (ŭ l2 l3)
end Nf
namespace Nf
open PySem L2 PyProof.Rows Dl
def top(i:Nat):Stmt:=PySem.Challenge.pw_nofall_k61_places_exchanged.main.body.getD i (.Pass ⟨0,0,0,0⟩)
structure Proper(n:Int)(l:List Int):Prop where
 one:1<=l.length
 few:(l.length:Int)<n
 rng:∀x∈l,0<=x/\x<n
 rise:l.Pairwise (·<·)
 n16:n<=16
def toI:D->Int
 |.int i=>i
 |_=>0
def Few(d:D):Prop:=∀es,d=.list es->es.length<=400
def lv(l:List Int)(t:Tie):Bool:=decide (t.1∈l) != decide (t.2∈l)
def bD(d:D):cF d=.im d\/cF d=.sh d:=by
 unfold cF
 by_cases h:eZ d=true
 ·rw[if_pos h];exact .inl rfl
 ·rw[if_neg h];exact .inr rfl
def Fv(l:List Int):(l.map Â).map toI=l:=by rw[Ú];exact List.map_id' l
def oh{l:List Int}(h:l.length<=400):Few (.list (l.map Â)):=λes e=>by
 injection e with e
 rw[←e,Á]
 exact h
def uM{α:Type}(l:List α):cj l none (some (-1))=l.dropLast:=by
 unfold cj
 have e1:HT.sIx l.length 0 none=0:=rfl
 have e2:HT.sIx l.length l.length (some (-1))=l.length - 1:=by
  have e:HT.sIx l.length l.length (some (-1))=((-1:Int)+(l.length:Int)).toNat:=rfl
  rw[e]
  omega
 rw[e1,e2,List.drop_zero,Nat.sub_zero,List.dropLast_eq_take]
section
variable {P:Program}{w:World}{K:Ê}{mg:Str->Option Value}{base:Heap}{f:Addr}{fd:FuncData}
def sc4:FnScope ["thing"] ["thing"] (aB (top 13)):=zC
def Cr(F:Fun K "is_whole" "is_whole" (top 13) f fd)(B:Dl.Bn mg):FnOk P w K mg base CX0 1 f fd ["thing"] (spD Ek):=by
 refine F.ok sc4 cQ (λcdv A outer s H vs Q E hr h=>?_)
 refine⟨_,aD (aG (fY (aV xu B.isinstance (dv 0) (mz (v:=.ty "int") rfl B.int boot_int rfl)) (gH (Ju (aV iV B.isinstance (dv 0) (mz (v:=.ty "bool") rfl B.bool boot_bool rfl)))))),wA h ?_⟩
 rintro ds P ⟨d,rfl,q⟩
 unfold EY wN tIs
 refine Ao (d:=d) rfl λk=>?_
 cases d <;> exact⟨rfl,q⟩
def sc5:FnScope ["limit","thing"] ["limit","thing"] (aB (top 14)):=zC
def Cw(F:Fun K "is_below" "is_below" (top 14) f fd)(W:Dl.Cal P w K mg base 1 "is_whole" ["thing"] (spD Ek)):FnOk P w K mg base CX0 2 f fd ["limit","thing"] (spD Ep):=by
 refine F.ok sc5 cQ (λcdv A outer s H vs Q E hr h=>?_)
 refine⟨_,aD (aG (fY (dc W hr (aj (dv 1) ak)) (gH (Gk aq (dv 1) (dv 0))))),wA h ?_⟩
 rintro ds P ⟨m,d,rfl,q⟩
 unfold EY wN tFn dH
 refine Ao (d:=d) rfl λk=>⟨d,rfl,?_⟩
 cases d with
 |int i =>
  have e:P (.bool (decide (0<=i/\i<m))):=q
  by_cases h0:(0:Int)<=i
  ·show if decide ((0:Int)<=i)=true then _ else _
   rw[decide_eq_true h0]
   refine bw (B:=True) ⟨rfl,?_⟩
   have e2:decide (0<=i/\i<m)=decide (i<m):=by simp[h0]
   rw[e2] at e
   exact e
  ·show if decide ((0:Int)<=i)=true then _ else _
   rw[decide_eq_false h0]
   refine cI (A:=True) ⟨rfl,?_⟩
   have e2:decide (0<=i/\i<m)=false:=by simp[h0]
   rw[e2] at e
   exact e
 |_=>exact⟨rfl,q⟩
end
end Nf
set_option maxHeartbeats 4000000
namespace Nf
open PySem L2 PyProof.Rows Dl
def fC:D->Bool
 |.list es=>es.all (fj ((es.length:Nat):Int))&&decide (es.map toI).Nodup
 |_=>false
def o9(CN:Addr):FX:=λds P R=>∃d,ds=[d]/\Few d/\((fC d=false/\R (.ref CN))\/(fC d=true/\P .none))
def xM{i:Nat}{d:D}{k:Kd}{ρ:List Sl}{Q:List Sl->Prop}(hk:k=.imm\/k=.shr)(h:∀s,(s=.im d\/s=.sh d)->Q (ρ.set i s)):gNm i (norm k d) d ρ Q:=by
 refine h _ ?_
 by_cases hi:eZ d=true
 ·rw[cA hi];exact .inl rfl
 ·rw[dO hi]
  try rw[dO hi]
  rcases hk with rfl|rfl
  ·exact .inl rfl
  ·exact .inr rfl
section
variable {P:Program}{w:World}{K:Ê}{mg:Str->Option Value}{base:Heap}{f:Addr}{fd:FuncData}{CN:Addr}
def iB:FnScope ["thing","fits"] ["thing"] (aB (top 16)):=zC
def lD:(["place","thing","fits"]:List Str).Nodup:=by decide +kernel
def nJ{newId Bn0 initId:String}{bmB:List Value}(F:Fun K "check_order" "check_order" (top 16) f fd)(B:Dl.Bn mg)(m_set:mg "set"=none)(mX_NoOrder:mg "NoOrder"=some (.ref CN))(XC_NoOrder:ExcCls K CN newId bmB)(XB:ExcBaseFacts Bn0 newId initId bmB)(C_is_below:Dl.Cal P w K mg base 2 "is_below" ["limit","thing"] (spD Ep)):FnOk P w K mg base (CX1 P w) 3 f fd ["thing"] (spX (o9 CN)):=by
 refine F.ok1 iB fO (λcdv A outer s H vs Q E hr h=>?_)
 have nd:=iB.nd
 letI:=grX H
 refine⟨_,Wr.WDSs.h (Wr.aC (Wr.bV none (i:=1) nd rfl zQ (Wr.fY (Wr.aV nY B.isinstance (Wr.dv 0) (Wr.wty rfl B.list boot_list)) (Wr.gH (Wr.qZ rfl B.all Dl.boot_all (Wr.aj (Wr.cZ ["place"] rfl (Wr.dD (Wr.dv 0)) (λc=>(Wr.aN (i:=0) lD rfl zQ)) (λc=>Wr.bN) (λc=>(Wr.dc C_is_below hr (Wr.aj (Wr.fX B.len (Wr.aj (Wr.dv 1) Wr.ak)) (Wr.aj (Wr.dv 0) Wr.ak))))) Wr.ak)))))
  (Wr.aD (Wr.bW (Wr.wpt (Wr.kO (Wr.fJ (Wr.cN (Wr.dv 1))) (Wr.jg (Wr.gG hr.units (Wr.kY rfl m_set B.len (Wr.aj (Wr.dv 0) Wr.ak)) (Wr.fX B.len (Wr.aj (Wr.dv 0) Wr.ak)))))) (Wr.aD (Wr.j7 (E:=E) bM rfl rfl mX_NoOrder XC_NoOrder XB (Wr.aj Wr.nu Wr.ak))) Wr.aL))),enterX h ?_ ?mono⟩
 case mono=>exact λds P R R' hR ⟨d,e,fw,x⟩=>⟨d,e,fw,x.imp (λz=>⟨z.1,hR _ z.2⟩) id⟩
 rintro ds P ⟨d,rfl,fw,x⟩
 have bad:fC d=false->Rz E H (.ref CN):=λe=>by
  rcases x with ⟨_,r⟩|⟨e2,_⟩
  ·exact r
  ·rw[e] at e2
   cases e2
 have good:fC d=true->P .none:=λe=>by
  rcases x with ⟨e2,_⟩|⟨_,r⟩
  ·rw[e] at e2
   cases e2
  ·exact r
 cases d with
 |list es =>
  refine⟨[.sh (.list es),.any],rfl,?_⟩
  have l4:=fw es rfl
  refine bw (B:=True) ?_
  refine gO es (λd=>d) (λd=>.bool (fj ((es.length:Nat):Int) d)) .imm (List.map_id' es).symm (by omega) (λd hd A B hA=>?_) ?_
  ·refine xM (.inr rfl) ?_
   rintro s (rfl|rfl) <;> exact bw (B:=B) ⟨_,d,rfl,rfl,hA⟩
  ·refine⟨es.map (fj ((es.length:Nat):Int)),by rw[Ú];rfl,?_⟩
   have ea:(es.map (fj ((es.length:Nat):Int))).all id=es.all (fj ((es.length:Nat):Int)):=by
    rw[List.all_map]
    rfl
   rw[ea]
   cases e9:es.all (fj ((es.length:Nat):Int)) with
   |false=>exact bw (B:=True) ⟨zK,bad (by show(es.all _&&_)=false;rw[e9];rfl)⟩
   |true =>
    have ei:es=(es.map toI).map Â:=by
     rw[Ú]
     refine(List.map_id' es).symm.trans (ä λd hd=>?_)
     have:=ć.mp e9 d hd
     cases d with
     |int i=>rfl
     |_=>cases this
    refine⟨.shr,es.map toI,by show [(_,å es)]=_;rw[←ei],by rw[Á];omega,?_⟩
    show if (!decide ((((once (es.map toI)).length:Nat):Int)=((es.length:Nat):Int)))=true then _ else _
    by_cases nd:(es.map toI).Nodup
    ·have e:=(nG _).mpr nd
     rw[Á] at e
     rw[decide_eq_true (by rw[e])]
     exact good (by show(es.all _&&_)=true;rw[e9,decide_eq_true nd];rfl)
    ·have e:=mt (nG (es.map toI)).mp nd
     rw[Á] at e
     rw[decide_eq_false (λz=>e (by omega))]
     exact⟨zK,bad (by show(es.all _&&_)=false;rw[e9,decide_eq_false nd];rfl)⟩
 |tuple es =>
  refine⟨[cF (.tuple es),.any],rfl,?_⟩
  rcases bD (.tuple es) with e|e
  all_goals
   rw[e]
   exact⟨zK,bad rfl⟩
 |_=>exact⟨_,rfl,zK,bad rfl⟩
end
structure Ord(o:List Int):Prop where
 one:∀x∈o,0<=x/\x<((o.length:Nat):Int)
 nd:o.Nodup
 few:o.length<=16
def Jy{d:D}(h:fC d=true):∃o:List Int,d=.list (o.map Â)/\(∀x∈o,0<=x/\x<((o.length:Nat):Int))/\o.Nodup:=by
 cases d with
 |list es =>
  have h:(es.all (fj ((es.length:Nat):Int))&&decide (es.map toI).Nodup)=true:=h
  rw[â,decide_eq_true_eq,ć] at h
  have ei:es=(es.map toI).map Â:=by
   rw[Ú]
   refine(List.map_id' es).symm.trans (ä λd hd=>?_)
   have:=h.1 d hd
   cases d with
   |int i=>rfl
   |_=>cases this
  refine⟨es.map toI,congrArg å ei,λx hx=>?_,h.2⟩
  obtain⟨d,hd,rfl⟩:=ß.mp hx
  have:=h.1 d hd
  cases d with
  |int i =>
   rw[Á]
   exact of_decide_eq_true this
  |_=>cases this
 |_=>cases h
def Ord.yes{o:List Int}(h:Ord o):fC (.list (o.map Â))=true:=by
 show((o.map Â).all (fj (((o.map Â).length:Nat):Int))&&decide ((o.map Â).map toI).Nodup)=true
 have e:(o.map Â).map toI=o:=by
  rw[Ú]
  exact List.map_id' o
 rw[e,decide_eq_true h.nd,Bool.and_true,ć,Á]
 intro d hd
 obtain⟨x,hx,rfl⟩:=ß.mp hd
 exact decide_eq_true (h.one x hx)
def oX(o:List Int)(i:Int):Int:=o.getD i.toNat 0
def eX(o:List Int)(t:Tie):Tie:=(oX o t.1,oX o t.2)
def cL{o:List Int}{i:Int}(i0:0<=i)(i1:i<((o.length:Nat):Int)):atI (o.map Â) i=some (Â (oX o i)):=by
 obtain⟨k,rfl⟩:=Ī i0
 have hk:k<o.length:=by omega
 refine j9 ?_
 rw[Þ,Õ hk]
 show some (Â o[k])=some (Â (o.getD k 0))
 rw[ë,Õ hk]
 rfl
def Ord.oX{o:List Int}(h:Ord o){i:Int}(i0:0<=i)(i1:i<((o.length:Nat):Int)):0<=oX o i/\oX o i<((o.length:Nat):Int):=by
 obtain⟨k,rfl⟩:=Ī i0
 have hk:k<o.length:=by omega
 refine h.one _ ?_
 show o.getD k 0∈o
 rw[ë,Õ hk]
 exact List.getElem_mem hk
def iL(l:List Int):D:=.list (l.map Â)
def sI(l:List Int):List Int:=l.mergeSort λa b=>decide (a<=b)
def lX(l:List Int):(sI l).Perm l:=List.mergeSort_perm _ _
def Mq(l:List Int):(sI l).Pairwise (·<=·) :=
 (List.pairwise_mergeSort (le:=λa b:Int=>decide (a<=b)) (λa b c h g=>by
  rw[decide_eq_true_eq] at h g ⊢
  omega) (λa b=>by
  rw[Bool.or_eq_true,decide_eq_true_eq,decide_eq_true_eq]
  omega) l).imp λh=>of_decide_eq_true h
def pL{l out:List Int}(p:out.Perm l)(h:out.Pairwise (·<=·)):out=sI l :=
 List.Perm.eq_of_pairwise (λa b _ _ h1 h2=>Int.le_antisymm h1 h2) h (Mq l) (p.trans (lX l).symm)
def sT(us:List Tie):List Tie:=us.mergeSort λa b=>decide (aH a<=aH b)
def cM(l:List Tie):(sT l).Perm l:=List.mergeSort_perm _ _
def Bh(l:List Tie):(sT l).Pairwise λa b=>aH a<=aH b :=
 (List.pairwise_mergeSort (le:=λa b:Tie=>decide (aH a<=aH b)) (λa b c h g=>by
  rw[decide_eq_true_eq] at h g ⊢
  omega) (λa b=>by
  rw[Bool.or_eq_true,decide_eq_true_eq,decide_eq_true_eq]
  omega) l).imp λh=>of_decide_eq_true h
def jM{l out:List Tie}(nc:∀t∈l,gj t)(p:out.Perm l)(h:out.Pairwise λa b=>aH a<=aH b):out=sT l :=
 List.Perm.eq_of_pairwise (λa b ha hb h1 h2=>code_inj (nc a (p.mem_iff.mp ha)) (nc b ((cM l).mem_iff.mp hb)) (Int.le_antisymm h1 h2)) h (Bh l) (p.trans (cM l).symm)
def sqT(b:Bool)(us:List Tie):D:=if b=true then .list (us.map pD) else .tuple (us.map pD)
def InT(n:Int)(us:List Tie):Prop:=∀t∈us,(0<=t.1/\t.1<n)/\(0<=t.2/\t.2<n)
def KC(ds:List D)(P:D->Prop):Prop:=∃b us o,ds=[sqT b us,.list (o.map Â)]/\us.length<=41/\Ord o/\InT ((o.length:Nat):Int) us/\P (.list ((sT (us.map (eX o))).map pD))
def mmT(t:Tie):Tie:=(if t.2<t.1 then t.2 else t.1,if t.2 > t.1 then t.2 else t.1)
def Ky(ds:List D)(P:D->Prop):Prop:=∃b us o,ds=[sqT b us,.list (o.map Â)]/\us.length<=41/\Ord o/\InT ((o.length:Nat):Int) us/\P (.list ((sT (us.map λt=>mmT (eX o t))).map pD))
section
variable {P:Program}{w:World}{K:Ê}{mg:Str->Option Value}{base:Heap}{f:Addr}{fd:FuncData}{CN:Addr}
def lM:FnScope ["ties","order"] ["ties","order"] (aB (top 18)):=zC
def o7:(["tie","ties","order"]:List Str).Nodup:=by decide +kernel
def tG(F:Fun K "led_ties" "led_ties" (top 18) f fd)(B:Dl.Bn mg):FnOk P w K mg base CX0 1 f fd ["ties","order"] (spD KC):=by
 refine F.ok lM cQ (λcdv A outer s H vs Q E hr h=>?_)
 have nd:=lM.nd
 refine⟨_,Wr.WDSs.h (Wr.aD (Wr.aG (Wr.eG B.sorted (Wr.aj (Wr.cZ ["tie"] rfl (Wr.dD (Wr.dv 0)) (λc=>(Wr.aN (i:=0) o7 rfl zQ)) (λc=>Wr.bN) (λc=>(Wr.bR (Wr.aj (Wr.aQ (Wr.dv 2) (Wr.aQ (Wr.dv 0) Wr.aq)) (Wr.aj (Wr.aQ (Wr.dv 2) (Wr.aQ (Wr.dv 0) Wr.aq)) Wr.ak))))) Wr.ak)))),fZ h ?_⟩
 rintro ds P ⟨b,us,o,rfl,lu,ho,hu,q⟩
 have fin:∃ts:List Tie,(å (us.map λt=>pD (eX o t))=.list (ts.map pD)\/å (us.map λt=>pD (eX o t))=.tuple (ts.map pD))/\ts.length<64/\(∀t∈ts,gj t)/\∀vs:List Tie,vs.Perm ts->vs.Pairwise (λa b=>aH a<=aH b)->P (.list (vs.map pD)):=by
  suffices nc:∀t∈us.map (eX o),gj t from⟨us.map (eX o),.inl (by rw[Ú];rfl),by rw[Á];omega,nc,λvs hp hs=>by rw[jM nc hp hs];exact q⟩
  intro t ht
  obtain⟨u,hu',rfl⟩:=ß.mp ht
  obtain⟨⟨o1,o2⟩,⟨o3,o4⟩⟩:=hu u hu'
  have a:=ho.oX o1 o2
  have b:=ho.oX o3 o4
  have:=ho.few
  unfold eX gj
  dsimp only
  omega
 cases b with
 |true =>
  refine⟨[.sh (.list (us.map pD)),.sh (.list (o.map Â))],rfl,?_⟩
  refine gO us pD (λt=>pD (eX o t)) .imm rfl (by omega) (λt ht A B hA=>?_) ?_
  ·obtain⟨⟨o1,o2⟩,⟨o3,o4⟩⟩:=hu t ht
   exact bw (B:=True) ⟨.int t.1,rfl,_,cL o1 o2,.int t.2,rfl,_,cL o3 o4,zK,rfl,hA⟩
  ·obtain⟨ts,e,l,nc,q'⟩:=fin
   exact⟨ts,e,l,nc,λvs hp hs=>⟨rfl,q' vs hp hs⟩⟩
 |false =>
  refine⟨[cF (.tuple (us.map pD)),.sh (.list (o.map Â))],rfl,?_⟩
  rcases bD (.tuple (us.map pD)) with e|e
  all_goals
   rw[e]
   refine gO us pD (λt=>pD (eX o t)) .imm rfl (by omega) (λt ht A B hA=>?_) ?_
   ·obtain⟨⟨o1,o2⟩,⟨o3,o4⟩⟩:=hu t ht
    exact bw (B:=True) ⟨.int t.1,rfl,_,cL o1 o2,.int t.2,rfl,_,cL o3 o4,zK,rfl,hA⟩
   ·obtain⟨ts,e,l,nc,q'⟩:=fin
    exact⟨ts,e,l,nc,λvs hp hs=>⟨rfl,q' vs hp hs⟩⟩
def iz:FnScope ["ties","order"] ["ties","order"] (aB (top 19)):=zC
def lC:(["tie","ties","order"]:List Str).Nodup:=by decide +kernel
def nH(F:Fun K "rising_ties" "rising_ties" (top 19) f fd)(B:Dl.Bn mg)(C_led_ties:Dl.Cal P w K mg base 1 "led_ties" ["ties","order"] (spD KC)):FnOk P w K mg base CX0 2 f fd ["ties","order"] (spD Ky):=by
 refine F.ok iz cQ (λcdv A outer s H vs Q E hr h=>?_)
 have nd:=iz.nd
 refine⟨_,Wr.WDSs.h (Wr.aD (Wr.aG (Wr.eG B.sorted (Wr.aj (Wr.cZ ["tie"] rfl (Wr.dD (Wr.dc C_led_ties hr (Wr.aj (Wr.dv 0) (Wr.aj (Wr.dv 1) Wr.ak)))) (λc=>(Wr.aN (i:=0) lC rfl zQ)) (λc=>Wr.bN) (λc=>(Wr.bR (Wr.aj (Wr.qR rfl B.min (Wr.aj (Wr.dv 0) Wr.ak)) (Wr.aj (Wr.qU rfl B.max (Wr.aj (Wr.dv 0) Wr.ak)) Wr.ak))))) Wr.ak)))),fZ h ?_⟩
 rintro ds P ⟨b,us,o,rfl,lu,ho,hu,q⟩
 refine⟨[cF (sqT b us),.sh (.list (o.map Â))],rfl,?_⟩
 rcases bD (sqT b us) with e|e
 all_goals
  rw[e]
  have nc:∀t∈us.map (λt=>mmT (eX o t)),gj t:=λt ht=>by
   obtain⟨v,hv,rfl⟩:=ß.mp ht
   obtain⟨⟨o1,o2⟩,⟨o3,o4⟩⟩:=hu v hv
   have a:=ho.oX o1 o2
   have b:=ho.oX o3 o4
   have:=ho.few
   unfold mmT eX gj
   dsimp only
   split <;> omega
  have hp:=(cM (us.map (eX o))).map mmT
  rw[Ú] at hp
  have lv:(sT (us.map (eX o))).length=us.length:=by rw[(cM _).length_eq,Á]
  refine⟨b,us,o,rfl,lu,ho,hu,?_⟩
  refine gO (sT (us.map (eX o))) pD (λt=>pD (mmT t)) .imm rfl (by omega) (λt ht A B hA=>bw (B:=True) ⟨zK,rfl,hA⟩) ?_
  exact⟨(sT (us.map (eX o))).map mmT,.inl (by rw[Ú];rfl),by rw[Á];omega,λt ht=>nc t (hp.mem_iff.mp ht),λws hw sw=>⟨rfl,by rw[jM nc (hw.trans hp) sw];exact q⟩⟩
end
def q9(n:Int)(d:D):Bool:=fC d&&match d with
 |.list es=>decide (((es.length:Nat):Int)=n)
 |_=>false
def KD(CN:Addr):FX:=λds P R=>∃n us d,ds=[bx n us,d]/\Few d/\((q9 n d=false/\R (.ref CN))\/(q9 n d=true/\P .none))
def xQ(CN:Addr):FX:=λds P R=>∃x d,ds=[x,d]/\Few d/\((fC d=false/\R (.ref CN))\/∃(o l:List Int),d=.list (o.map Â)/\x=.list (l.map Â)/\Ord o/\l.length<=41/\(∀i∈l,0<=i/\i<((o.length:Nat):Int))/\P (iL (sI (l.map (oX o)))))
def wZ{o:List Int}{n:Int}(h:Ord o)(e:((o.length:Nat):Int)=n):q9 n (.list (o.map Â))=true:=by
 show(fC _&&decide ((((o.map Â).length:Nat):Int)=n))=true
 rw[h.yes,Á,decide_eq_true e]
 rfl
def rJ(CN:Addr):FX:=λds P R=>∃x d,ds=[x,d]/\Few d/\((fC d=false/\R (.ref CN))\/∃(o:List Int) (us:List Tie),d=.list (o.map Â)/\x=.list (us.map pD)/\Ord o/\us.length<=41/\InT ((o.length:Nat):Int) us/\P (.list ((sT (us.map λt=>mmT (eX o t))).map pD)))
def xP(CN:Addr):FX:=λds P R=>∃n us d,ds=[bx n us,d]/\Few d/\((q9 n d=false/\R (.ref CN))\/∃o:List Int,d=.list (o.map Â)/\Ord o/\((o.length:Nat):Int)=n/\us.length<=41/\InT n us/\P (bx n (sT (us.map λt=>mmT (eX o t)))))
def xR(CN:Addr):FX:=λds P R=>∃n us d,ds=[bx n us,d]/\Few d/\((q9 n d=false/\R (.ref CN))\/∃o:List Int,d=.list (o.map Â)/\Ord o/\((o.length:Nat):Int)=n/\us.length<=41/\InT n us/\P (bx n (sT (us.map (eX o)))))
abbrev Off:=Int×Int×Int
def oD(o:Off):D:=.tuple [.int o.1,.int o.2.1,.int o.2.2]
def xT(CN:Addr):FX:=λds P R=>∃x d,ds=[x,d]/\Few d/\((fC d=false/\R (.ref CN))\/∃(o:List Int) (os:List Off),d=.list (o.map Â)/\x=.list (os.map oD)/\Ord o/\os.length<=41/\(∀u∈os,(0<=u.1/\u.1<((o.length:Nat):Int))/\0<=u.2.1/\u.2.1<((o.length:Nat):Int))/\P (.list (os.map λu=>oD (oX o u.1,oX o u.2.1,u.2.2))))
section
variable {P:Program}{w:World}{K:Ê}{mg:Str->Option Value}{base:Heap}{f:Addr}{fd:FuncData}{CN:Addr}
def fG:FnScope ["web","thing"] ["web","thing"] (aB (top 17)):=zC
def jV{newId Bn0 initId:String}{bmB:List Value}(F:Fun K "check_order_of" "check_order_of" (top 17) f fd)(B:Dl.Bn mg)(mX_NoOrder:mg "NoOrder"=some (.ref CN))(XC_NoOrder:ExcCls K CN newId bmB)(XB:ExcBaseFacts Bn0 newId initId bmB)(C_check_order:Dl.Cal1 P w K mg base 3 "check_order" ["thing"] (spX (o9 CN))):FnOk P w K mg base (CX1 P w) 4 f fd ["web","thing"] (spX (KD CN)):=by
 refine F.ok1 fG fO (λcdv A outer s H vs Q E hr h=>?_)
 have nd:=fG.nd
 letI:=grX H
 refine⟨_,Wr.WDSs.h (Wr.aC (Wr.dM (Wr.dcX (E:=E) C_check_order hr (fL bM) (Wr.aj (Wr.dv 1) Wr.ak)))
  (Wr.aD (Wr.bW (Wr.gG hr.units (Wr.fX B.len (Wr.aj (Wr.dv 1) Wr.ak)) (Wr.aQ (Wr.dv 0) Wr.aq)) (Wr.aD (Wr.j7 (E:=E) bM rfl rfl mX_NoOrder XC_NoOrder XB (Wr.aj Wr.nu Wr.ak))) Wr.aL))),enterX h ?_ ?mono⟩
 case mono=>exact λds P R R' hR ⟨n,us,d,e,fw,x⟩=>⟨n,us,d,e,fw,x.imp (λz=>⟨z.1,hR _ z.2⟩) id⟩
 rintro ds P ⟨n,us,d,rfl,fw,x⟩
 refine⟨[cF (bx n us),cF d],rfl,?_⟩
 rw[sE]
 have tl:∀es:List D,d=.list es->fC d=true->(decide (((es.length:Nat):Int)=n)=false->Rz E H (.ref CN))/\(decide (((es.length:Nat):Int)=n)=true->P .none):=λes e o=>by
  subst e
  have eq:q9 n (.list es)=decide (((es.length:Nat):Int)=n):=by
   show(fC (.list es)&&_)=_
   rw[o]
   rfl
  rw[eq] at x
  refine⟨λz=>?_,λz=>?_⟩
  ·rcases x with x|x
   ·exact x.2
   ·rw[x.1] at z;cases z
  ·rcases x with x|x
   ·rw[x.1] at z;cases z
   ·exact x.2
 have main:∀s:Sl,(s=.im d\/s=.sh d)->uL (Fb (vg (o9 CN) (Rz E H) (dH (tV 1) jF)))
    (dIf (jJ (t2 (lH true) (tCl Eh (dH (tV 1) jF)) (t2 gIx (tV 0) (tK (Â 0)))))
     (wB (Rz E H) CN (dH (tK (PyData.str (á "this is no order of the web's places"))) jF))
     p7)
    { nx:=λx=>P PyData.none,rt:=P } [.im (bx n us),s]:=λs hs=>by
  cases eo:fC d with
  |false =>
   have r:Rz E H (.ref CN):=by
    rcases x with x|x
    ·exact x.2
    ·have e:=x.1
     unfold q9 at e
     rw[eo] at e
     cases e
   rcases hs with rfl|rfl <;> exact⟨d,rfl,fw,.inl ⟨eo,r⟩⟩
  |true =>
   obtain⟨es,rfl⟩:∃es,d=.list es:=by
    obtain⟨o,e,_⟩:=Jy eo
    exact⟨_,e⟩
   obtain⟨t1,t2⟩:=tl es rfl eo
   rcases hs with rfl|rfl
   all_goals
    refine⟨_,rfl,fw,.inr ⟨eo,?_⟩⟩
    refine⟨.int n,rfl,?_⟩
    show if (!decide (((es.length:Nat):Int)=n))=true then _ else _
    cases en:decide (((es.length:Nat):Int)=n) with
    |false=>exact⟨zK,t1 en⟩
    |true=>exact t2 en
 exact main _ (bD d)
def cG:FnScope ["some","order"] ["some","order"] (aB (top 22)):=zC
def eU:(["place","some","order"]:List Str).Nodup:=by decide +kernel
def lB(F:Fun K "exchanged_set" "exchanged_set" (top 22) f fd)(B:Dl.Bn mg)(C_check_order:Dl.Cal1 P w K mg base 3 "check_order" ["thing"] (spX (o9 CN))):FnOk P w K mg base (CX1 P w) 4 f fd ["some","order"] (spX (xQ CN)):=by
 refine F.ok1 cG fO (λcdv A outer s H vs Q E hr h=>?_)
 have nd:=cG.nd
 letI:=grX H
 refine⟨_,Wr.WDSs.h (Wr.aC (Wr.dM (Wr.dcX (E:=E) C_check_order hr (fL bM) (Wr.aj (Wr.dv 1) Wr.ak)))
  (Wr.aD (Wr.aG (Wr.eN B.sorted (Wr.aj (Wr.cZ ["place"] rfl (Wr.dD (Wr.dv 0)) (λc=>(Wr.aN (i:=0) eU rfl zQ)) (λc=>Wr.bN) (λc=>(Wr.aQ (Wr.dv 2) (Wr.dv 0)))) Wr.ak))))),enterX h ?_ ?mono⟩
 case mono=>exact λds P R R' hR ⟨x,d,e,fw,z⟩=>⟨x,d,e,fw,z.imp (λz=>⟨z.1,hR _ z.2⟩) id⟩
 rintro ds P ⟨x,d,rfl,fw,z⟩
 refine⟨[cF x,cF d],rfl,?_⟩
 rcases z with ⟨no,r⟩|⟨o,l,rfl,rfl,ho,ll,hl,q⟩
 ·rcases bD d with e|e <;> (rw[e];exact⟨d,rfl,fw,.inl ⟨no,r⟩⟩)
 ·refine⟨_,rfl,fw,.inr ⟨ho.yes,?_⟩⟩
  refine gO l Â (λi=>.int (oX o i)) .imm rfl (by omega) (λi hi A B hA=>bw (B:=True) ⟨_,cL (hl i hi).1 (hl i hi).2,rfl,hA⟩) ?_
  exact⟨l.map (oX o),by rw[Ú];rfl,by rw[Á];omega,λout hp hs=>⟨rfl,by rw[pL hp hs];exact q⟩⟩
def fD:FnScope ["added","order"] ["added","order"] (aB (top 24)):=zC
def jU(F:Fun K "exchanged_ties" "exchanged_ties" (top 24) f fd)(B:Dl.Bn mg)(C_check_order:Dl.Cal1 P w K mg base 3 "check_order" ["thing"] (spX (o9 CN)))(C_rising_ties:Dl.Cal P w K mg base 2 "rising_ties" ["ties","order"] (spD Ky)):FnOk P w K mg base (CX1 P w) 4 f fd ["added","order"] (spX (rJ CN)):=by
 refine F.ok1 fD fO (λcdv A outer s H vs Q E hr h=>?_)
 have nd:=fD.nd
 letI:=grX H
 refine⟨_,Wr.WDSs.h (Wr.aC (Wr.dM (Wr.dcX (E:=E) C_check_order hr (fL bM) (Wr.aj (Wr.dv 1) Wr.ak)))
  (Wr.aD (Wr.aG (Wr.dc C_rising_ties hr (Wr.aj (Wr.dv 0) (Wr.aj (Wr.dv 1) Wr.ak)))))),enterX h ?_ ?mono⟩
 case mono=>exact λds P R R' hR ⟨x,d,e,fw,z⟩=>⟨x,d,e,fw,z.imp (λz=>⟨z.1,hR _ z.2⟩) id⟩
 rintro ds P ⟨x,d,rfl,fw,z⟩
 refine⟨[cF x,cF d],rfl,?_⟩
 rcases z with ⟨no,r⟩|⟨o,us,rfl,rfl,ho,ll,hl,q⟩
 ·rcases bD d with e|e <;> (rw[e];exact⟨d,rfl,fw,.inl ⟨no,r⟩⟩)
 ·refine⟨_,rfl,fw,.inr ⟨ho.yes,?_⟩⟩
  exact⟨true,us,o,rfl,ll,ho,hl,rfl,q⟩
def gq:FnScope ["web","order"] ["web","order"] (aB (top 20)):=zC
def lA(F:Fun K "exchanged_web" "exchanged_web" (top 20) f fd)(B:Dl.Bn mg)(C_check_order_of:Dl.Cal1 P w K mg base 4 "check_order_of" ["web","thing"] (spX (KD CN)))(C_rising_ties:Dl.Cal P w K mg base 2 "rising_ties" ["ties","order"] (spD Ky)):FnOk P w K mg base (CX1 P w) 5 f fd ["web","order"] (spX (xP CN)):=by
 refine F.ok1 gq fO (λcdv A outer s H vs Q E hr h=>?_)
 have nd:=gq.nd
 letI:=grX H
 refine⟨_,Wr.WDSs.h (Wr.aC (Wr.dM (Wr.dcX (E:=E) C_check_order_of hr (fL bM) (Wr.aj (Wr.dv 0) (Wr.aj (Wr.dv 1) Wr.ak))))
  (Wr.aD (Wr.aG (Wr.bR (Wr.aj (Wr.aQ (Wr.dv 0) Wr.aq) (Wr.aj (Wr.dZ B.tuple (Wr.aj (Wr.dc C_rising_ties hr (Wr.aj (Wr.aQ (Wr.dv 0) Wr.aq) (Wr.aj (Wr.dv 1) Wr.ak))) Wr.ak)) Wr.ak)))))),enterX h ?_ ?mono⟩
 case mono=>exact λds P R R' hR ⟨n,us,d,e,fw,z⟩=>⟨n,us,d,e,fw,z.imp (λz=>⟨z.1,hR _ z.2⟩) id⟩
 rintro ds P ⟨n,us,d,rfl,fw,z⟩
 refine⟨[cF (bx n us),cF d],rfl,?_⟩
 rw[sE]
 rcases z with ⟨no,r⟩|⟨o,rfl,ho,ln,ll,hl,q⟩
 ·rcases bD d with e|e <;> (rw[e];exact⟨n,us,d,rfl,fw,.inl ⟨no,r⟩⟩)
 ·refine⟨n,us,_,rfl,fw,.inr ⟨wZ ho ln,?_⟩⟩
  refine⟨.int n,rfl,.tuple (us.map pD),rfl,?_⟩
  refine⟨false,us,o,rfl,ll,ho,by rw[ln];exact hl,?_⟩
  refine⟨zK,?_,q⟩
  show(norm _ (bx n (sT _))).le .n0=true
  rw[cA (ji _ _)]
  rfl
def dN:FnScope ["one","order"] ["one","order"] (aB (top 21)):=zC
def iM(F:Fun K "exchanged_one_way" "exchanged_one_way" (top 21) f fd)(B:Dl.Bn mg)(C_check_order_of:Dl.Cal1 P w K mg base 4 "check_order_of" ["web","thing"] (spX (KD CN)))(C_led_ties:Dl.Cal P w K mg base 1 "led_ties" ["ties","order"] (spD KC)):FnOk P w K mg base (CX1 P w) 5 f fd ["one","order"] (spX (xR CN)):=by
 refine F.ok1 dN fO (λcdv A outer s H vs Q E hr h=>?_)
 have nd:=dN.nd
 letI:=grX H
 refine⟨_,Wr.WDSs.h (Wr.aC (Wr.dM (Wr.dcX (E:=E) C_check_order_of hr (fL bM) (Wr.aj (Wr.dv 0) (Wr.aj (Wr.dv 1) Wr.ak))))
  (Wr.aD (Wr.aG (Wr.bR (Wr.aj (Wr.aQ (Wr.dv 0) Wr.aq) (Wr.aj (Wr.dZ B.tuple (Wr.aj (Wr.dc C_led_ties hr (Wr.aj (Wr.aQ (Wr.dv 0) Wr.aq) (Wr.aj (Wr.dv 1) Wr.ak))) Wr.ak)) Wr.ak)))))),enterX h ?_ ?mono⟩
 case mono=>exact λds P R R' hR ⟨n,us,d,e,fw,z⟩=>⟨n,us,d,e,fw,z.imp (λz=>⟨z.1,hR _ z.2⟩) id⟩
 rintro ds P ⟨n,us,d,rfl,fw,z⟩
 refine⟨[cF (bx n us),cF d],rfl,?_⟩
 rw[sE]
 rcases z with ⟨no,r⟩|⟨o,rfl,ho,ln,ll,hl,q⟩
 ·rcases bD d with e|e <;> (rw[e];exact⟨n,us,d,rfl,fw,.inl ⟨no,r⟩⟩)
 ·refine⟨n,us,_,rfl,fw,.inr ⟨wZ ho ln,?_⟩⟩
  refine⟨.int n,rfl,.tuple (us.map pD),rfl,?_⟩
  refine⟨false,us,o,rfl,ll,ho,by rw[ln];exact hl,?_⟩
  refine⟨zK,?_,q⟩
  show(norm _ (bx n (sT _))).le .n0=true
  rw[cA (ji _ _)]
  rfl
def dW:FnScope ["offers","order"] ["offers","order"] (aB (top 25)):=zC
def gZ:(["offer","offers","order"]:List Str).Nodup:=by decide +kernel
def jm(F:Fun K "exchanged_offers" "exchanged_offers" (top 25) f fd)(B:Dl.Bn mg)(C_check_order:Dl.Cal1 P w K mg base 3 "check_order" ["thing"] (spX (o9 CN))):FnOk P w K mg base (CX1 P w) 4 f fd ["offers","order"] (spX (xT CN)):=by
 refine F.ok1 dW fO (λcdv A outer s H vs Q E hr h=>?_)
 have nd:=dW.nd
 letI:=grX H
 refine⟨_,Wr.WDSs.h (Wr.aC (Wr.dM (Wr.dcX (E:=E) C_check_order hr (fL bM) (Wr.aj (Wr.dv 1) Wr.ak)))
  (Wr.aD (Wr.aG (Wr.cZ ["offer"] rfl (Wr.dD (Wr.dv 0)) (λc=>(Wr.aN (i:=0) gZ rfl zQ)) (λc=>Wr.bN) (λc=>(Wr.bR (Wr.aj (Wr.aQ (Wr.dv 2) (Wr.aQ (Wr.dv 0) Wr.aq)) (Wr.aj (Wr.aQ (Wr.dv 2) (Wr.aQ (Wr.dv 0) Wr.aq)) (Wr.aj (Wr.aQ (Wr.dv 0) Wr.aq) Wr.ak))))))))),enterX h ?_ ?mono⟩
 case mono=>exact λds P R R' hR ⟨x,d,e,fw,z⟩=>⟨x,d,e,fw,z.imp (λz=>⟨z.1,hR _ z.2⟩) id⟩
 rintro ds P ⟨x,d,rfl,fw,z⟩
 refine⟨[cF x,cF d],rfl,?_⟩
 rcases z with ⟨no,r⟩|⟨o,os,rfl,rfl,ho,ll,hl,q⟩
 ·rcases bD d with e|e <;> (rw[e];exact⟨d,rfl,fw,.inl ⟨no,r⟩⟩)
 ·refine⟨_,rfl,fw,.inr ⟨ho.yes,?_⟩⟩
  refine gO os oD (λu=>oD (oX o u.1,oX o u.2.1,u.2.2)) .imm rfl (by omega) (λu hu A B hA=>?_) ?_
  ·obtain⟨⟨o1,o2⟩,o3,o4⟩:=hl u hu
   exact bw (B:=True) ⟨.int u.1,rfl,_,cL o1 o2,.int u.2.1,rfl,_,cL o3 o4,.int u.2.2,rfl,zK,rfl,hA⟩
  ·exact⟨rfl,q⟩
end
def Il(ds:List D)(P:D->Prop):Prop:=∃(o l:List Int),ds=[iL l,iL o]/\Ord o/\l.length<=41/\(∀i∈l,0<=i/\i<((o.length:Nat):Int))/\P (iL (sI (l.map (oX o))))
def Im(ds:List D)(P:D->Prop):Prop:=∃(o:List Int) (ls:List (List Int)),ds=[.list (ls.map iL),iL o]/\Ord o/\ls.length<=41/\(∀l∈ls,l.length<=41/\∀i∈l,0<=i/\i<((o.length:Nat):Int))/\P (.list (ls.map λl=>iL (sI (l.map (oX o)))))
def fQ{o:List Int}(h:Ord o):Few (iL o):=λes e=>by
 cases e
 rw[Á]
 have:=h.few
 omega
def rK(CN:Addr):FX:=λds P R=>∃x d,ds=[x,d]/\Few d/\((fC d=false/\R (.ref CN))\/Im [x,d] P)
section
variable {P:Program}{w:World}{K:Ê}{mg:Str->Option Value}{base:Heap}{f:Addr}{fd:FuncData}{CN:Addr}
def Gx(F:Fun K "exchanged_set" "exchanged_set" (top 22) f fd)(B:Dl.Bn mg)(C_check_order:Dl.Cal1 P w K mg base 3 "check_order" ["thing"] (spX (o9 CN))):FnOk P w K mg base CX0 4 f fd ["some","order"] (spD Il):=by
 refine F.ok cG cQ (λcdv A outer s H vs Q E hr h=>?_)
 have nd:=cG.nd
 refine⟨_,Wr.WDSs.h (Wr.aC (Wr.dM (Wr.dcF C_check_order hr (Wr.aj (Wr.dv 1) Wr.ak)))
  (Wr.aD (Wr.aG (Wr.eN B.sorted (Wr.aj (Wr.cZ ["place"] rfl (Wr.dD (Wr.dv 0)) (λc=>(Wr.aN (i:=0) eU rfl zQ)) (λc=>Wr.bN) (λc=>(Wr.aQ (Wr.dv 2) (Wr.dv 0)))) Wr.ak))))),fZ h ?_⟩
 rintro ds P ⟨o,l,rfl,ho,ll,hl,q⟩
 refine⟨[.sh (iL l),.sh (iL o)],rfl,?_⟩
 refine⟨_,rfl,fQ ho,.inr ⟨ho.yes,?_⟩⟩
 refine gO l Â (λi=>.int (oX o i)) .imm rfl (by omega) (λi hi A B hA=>bw (B:=True) ⟨_,cL (hl i hi).1 (hl i hi).2,rfl,hA⟩) ?_
 exact⟨l.map (oX o),by rw[Ú];rfl,by rw[Á];omega,λout hp hs=>⟨rfl,by rw[pL hp hs];exact q⟩⟩
def dX:FnScope ["family","order"] ["family","order"] (aB (top 23)):=zC
def g8:(["some","family","order"]:List Str).Nodup:=by decide +kernel
def Gw(F:Fun K "exchanged_family" "exchanged_family" (top 23) f fd)(B:Dl.Bn mg)(C_check_order:Dl.Cal1 P w K mg base 3 "check_order" ["thing"] (spX (o9 CN)))(C_exchanged_set:Dl.Cal P w K mg base 4 "exchanged_set" ["some","order"] (spD Il)):FnOk P w K mg base CX0 5 f fd ["family","order"] (spD Im):=by
 refine F.ok dX cQ (λcdv A outer s H vs Q E hr h=>?_)
 have nd:=dX.nd
 refine⟨_,Wr.WDSs.h (Wr.aC (Wr.dM (Wr.dcF C_check_order hr (Wr.aj (Wr.dv 1) Wr.ak)))
  (Wr.aD (Wr.aG (Wr.cZ ["some"] rfl (Wr.dD (Wr.dv 0)) (λc=>(Wr.aN (i:=0) g8 rfl zQ)) (λc=>Wr.bN) (λc=>(Wr.dc C_exchanged_set hr (Wr.aj (Wr.dv 0) (Wr.aj (Wr.dv 2) Wr.ak)))))))),fZ h ?_⟩
 rintro ds P ⟨o,ls,rfl,ho,ll,hl,q⟩
 refine⟨[.sh (.list (ls.map iL)),.sh (iL o)],rfl,?_⟩
 refine⟨_,rfl,fQ ho,.inr ⟨ho.yes,?_⟩⟩
 refine gO ls iL (λl=>iL (sI (l.map (oX o)))) .new rfl (by omega) (λl hl' A B hA=>bw (B:=True) ⟨o,l,rfl,ho,(hl l hl').1,(hl l hl').2,rfl,hA⟩) ?_
 exact⟨rfl,q⟩
def Mi(CN:Addr):Sp:=λvs H Q E=>∃(d:D) (v0 v1:V),vs=[v0,v1]/\Rps (λ_=>True) H [v1] [d]/\Few d/\fC d=false/\∀H',Same H H'->E (.ref CN) none H'
def Je:FnScope ["family","order"] ["family","order"] (aB (top 23)):=zC
def Ht(F:Fun K "exchanged_family" "exchanged_family" (top 23) f fd)(C:Dl.Cal1 P w K mg base 3 "check_order" ["thing"] (spX (o9 CN))):FnOk P w K mg base (CX1 P w) 4 f fd ["family","order"] (Mi CN):=by
 refine F.ok1 Je (λvs H Q E h=>by obtain⟨_,_,_,rfl,_⟩:=h;rfl) (λcdv A outer s H vs Q E hr h=>?_)
 obtain⟨d,v0,v1,rfl,rs,fw,no,q⟩:=h
 refine⟨_,Bu (gF (pcX (E:=E) C hr (fL bM) (aF (pv 1) bA) (by decide) (by rfl) (by decide) (by rfl) (by rfl))),?_⟩
 exact⟨v1,rfl,⟨[d],λ_=>False,λc=>c=.ref CN,rs,⟨d,rfl,fw,.inl ⟨no,rfl⟩⟩,λd v H' z=>z.elim,λc H' e sm=>by rw[e];exact q H' sm⟩⟩
def Gv{f2:Addr}{fd2:FuncData}(F:Fun K "exchanged_family" "exchanged_family" (top 23) f fd)(B:Dl.Bn mg)(C:Dl.Cal1 P w K mg base 3 "check_order" ["thing"] (spX (o9 CN)))(F2:Fun K "exchanged_set" "exchanged_set" (top 22) f2 fd2)(b2:Binds K fd2 ["some","order"] [])(m2:mg "exchanged_set"=some (.ref f2)):FnOk P w K mg base (CX1 P w) 5 f fd ["family","order"] (spX (rK CN)) :=
 (FnOk.or (Gw F B C ⟨f2,fd2,Gx F2 B C,b2,F2.kp,m2⟩).up1 ((Ht F C).mono (by decide))).imp λvs H Q E ⟨ds,P,R,rs,⟨x,d,e,fw,z⟩,q,r⟩=>by
  subst e
  rcases z with ⟨no,hr⟩|z
  ·right
   cases rs with
   |cons a rs=>cases rs with
    |cons b rs=>cases rs with
     |nil=>exact⟨d,_,_,rfl,.cons b .nil,fw,no,λH' sm=>r _ H' hr sm⟩
  ·exact .inl ⟨_,P,rs,z,q⟩
end
structure Th where
 n:Int
 us:List Tie
 vs:List Tie
 l:List Int
 ls:List (List Int)
 ws:List Tie
 os:List Off
def Th.ps(t:Th):List D:=[bx t.n t.us,bx t.n t.vs,iL t.l,.list (t.ls.map iL),.list (t.ws.map pD),.list (t.os.map oD)]
def Th.D(t:Th):Dl.D:=.list t.ps
structure Th.Ok(t:Th):Prop where
 us:t.us.length<=41/\InT t.n t.us
 vs:t.vs.length<=41/\InT t.n t.vs
 l:t.l.length<=41/\∀i∈t.l,0<=i/\i<t.n
 ls:t.ls.length<=41/\∀l∈t.ls,l.length<=41/\∀i∈l,0<=i/\i<t.n
 ws:t.ws.length<=41/\InT t.n t.ws
 os:t.os.length<=41/\∀u∈t.os,(0<=u.1/\u.1<t.n)/\0<=u.2.1/\u.2.1<t.n
def Th.by(o:List Int)(t:Th):Th:=⟨t.n,sT (t.us.map λt=>mmT (eX o t)),sT (t.vs.map (eX o)),sI (t.l.map (oX o)),t.ls.map λl=>sI (l.map (oX o)),sT (t.ws.map λt=>mmT (eX o t)),t.os.map λu=>(oX o u.1,oX o u.2.1,u.2.2)⟩
def vB(n:Int)(k:Int)(d:Dl.D):Bool:=if k<2 then q9 n d else fC d
def Em(CN:Addr):FX:=λds P R=>∃(t:Th) (k:Int) (d:Dl.D),ds=[t.D,.int k,d]/\0<=k/\k<6/\Few d/\((vB t.n k d=false/\R (.ref CN))\/∃o,d=iL o/\Ord o/\((o.length:Nat):Int)=t.n/\t.Ok/\∀x,atI (t.by o).ps k=some x->P x)
def dU(d:Dl.D):(norm .new d).le .n0=true:=by
 by_cases h:eZ d=true
 ·rw[cA h];rfl
 ·rw[dO h];rfl
section
variable {P:Program}{w:World}{K:Ê}{mg:Str->Option Value}{base:Heap}{f:Addr}{fd:FuncData}{CN:Addr}
def dI:FnScope ["_law_thing","_law_which","_law_order_here"] ["_law_thing","_law_which","_law_order_here"] (aB (top 35)):=zC
def oY(F:Fun K "_law_single" "_law_single" (top 35) f fd)(B:Dl.Bn mg)(C_exchanged_web:Dl.Cal1 P w K mg base 5 "exchanged_web" ["web","order"] (spX (xP CN)))(C_exchanged_one_way:Dl.Cal1 P w K mg base 5 "exchanged_one_way" ["one","order"] (spX (xR CN)))(C_exchanged_set:Dl.Cal1 P w K mg base 4 "exchanged_set" ["some","order"] (spX (xQ CN)))(C_exchanged_family:Dl.Cal1 P w K mg base 5 "exchanged_family" ["family","order"] (spX (rK CN)))(C_exchanged_ties:Dl.Cal1 P w K mg base 4 "exchanged_ties" ["added","order"] (spX (rJ CN)))(C_exchanged_offers:Dl.Cal1 P w K mg base 4 "exchanged_offers" ["offers","order"] (spX (xT CN))):FnOk P w K mg base (CX1 P w) 6 f fd ["_law_thing","_law_which","_law_order_here"] (spX (Em CN)):=by
 refine F.ok1 dI fO (λcdv A outer s H vs Q E hr h=>?_)
 have nd:=dI.nd
 letI:=grX H
 refine⟨_,Wr.WDSs.h (Wr.aC (Wr.bW (Wr.cO hr.units (Wr.dv 1) Wr.aq) (Wr.aD (Wr.aG (Wr.dcX (E:=E) C_exchanged_web hr (fL bM) (Wr.aj (Wr.aQ (Wr.dv 0) Wr.aq) (Wr.aj (Wr.dv 2) Wr.ak))))) Wr.aL)
  (Wr.aC (Wr.bW (Wr.cO hr.units (Wr.dv 1) Wr.aq) (Wr.aD (Wr.aG (Wr.dcX (E:=E) C_exchanged_one_way hr (fL bM) (Wr.aj (Wr.aQ (Wr.dv 0) Wr.aq) (Wr.aj (Wr.dv 2) Wr.ak))))) Wr.aL)
  (Wr.aC (Wr.bW (Wr.cO hr.units (Wr.dv 1) Wr.aq) (Wr.aD (Wr.aG (Wr.dcX (E:=E) C_exchanged_set hr (fL bM) (Wr.aj (Wr.aQ (Wr.dv 0) Wr.aq) (Wr.aj (Wr.dv 2) Wr.ak))))) Wr.aL)
  (Wr.aC (Wr.bW (Wr.cO hr.units (Wr.dv 1) Wr.aq) (Wr.aD (Wr.aG (Wr.dcX (E:=E) C_exchanged_family hr (fL bM) (Wr.aj (Wr.aQ (Wr.dv 0) Wr.aq) (Wr.aj (Wr.dv 2) Wr.ak))))) Wr.aL)
  (Wr.aC (Wr.bW (Wr.cO hr.units (Wr.dv 1) Wr.aq) (Wr.aD (Wr.aG (Wr.dcX (E:=E) C_exchanged_ties hr (fL bM) (Wr.aj (Wr.aQ (Wr.dv 0) Wr.aq) (Wr.aj (Wr.dv 2) Wr.ak))))) Wr.aL)
  (Wr.aD (Wr.aG (Wr.dcX (E:=E) C_exchanged_offers hr (fL bM) (Wr.aj (Wr.aQ (Wr.dv 0) Wr.aq) (Wr.aj (Wr.dv 2) Wr.ak)))))))))),enterX h ?_ ?mono⟩
 case mono=>exact λds P R R' hR ⟨t,k,d,e,k0,k6,fw,z⟩=>⟨t,k,d,e,k0,k6,fw,z.imp (λz=>⟨z.1,hR _ z.2⟩) id⟩
 rintro ds P ⟨t,k,d,rfl,k0,k6,fw,z⟩
 refine⟨[.sh t.D,.im (.int k),cF d],rfl,?_⟩
 have hk:k=0\/k=1\/k=2\/k=3\/k=4\/k=5:=by omega
 rcases z with ⟨no,r⟩|⟨o,rfl,ho,ln,ok,q⟩
 ·rcases hk with rfl|rfl|rfl|rfl|rfl|rfl
  ·rcases bD d with e|e <;> (rw[e];exact⟨bx t.n t.us,rfl,t.n,t.us,d,rfl,fw,.inl ⟨no,r⟩⟩)
  ·rcases bD d with e|e <;> (rw[e];exact⟨bx t.n t.vs,rfl,t.n,t.vs,d,rfl,fw,.inl ⟨no,r⟩⟩)
  ·rcases bD d with e|e <;> (rw[e];exact⟨iL t.l,rfl,_,d,rfl,fw,.inl ⟨no,r⟩⟩)
  ·rcases bD d with e|e <;> (rw[e];exact⟨.list (t.ls.map iL),rfl,_,d,rfl,fw,.inl ⟨no,r⟩⟩)
  ·rcases bD d with e|e <;> (rw[e];exact⟨.list (t.ws.map pD),rfl,_,d,rfl,fw,.inl ⟨no,r⟩⟩)
  ·rcases bD d with e|e <;> (rw[e];exact⟨.list (t.os.map oD),rfl,_,d,rfl,fw,.inl ⟨no,r⟩⟩)
 ·rcases hk with rfl|rfl|rfl|rfl|rfl|rfl
  ·exact⟨bx t.n t.us,rfl,t.n,t.us,_,rfl,fw,.inr ⟨o,rfl,ho,ln,ok.us.1,ok.us.2,dU _,q _ rfl⟩⟩
  ·exact⟨bx t.n t.vs,rfl,t.n,t.vs,_,rfl,fw,.inr ⟨o,rfl,ho,ln,ok.vs.1,ok.vs.2,dU _,q _ rfl⟩⟩
  ·exact⟨iL t.l,rfl,_,_,rfl,fw,.inr ⟨o,t.l,rfl,rfl,ho,ok.l.1,by rw[ln];exact ok.l.2,dU _,q _ rfl⟩⟩
  ·exact⟨.list (t.ls.map iL),rfl,_,_,rfl,fw,.inr ⟨o,t.ls,rfl,ho,ok.ls.1,by rw[ln];exact ok.ls.2,dU _,q _ (by show some (å ((t.ls.map λl=>sI (l.map (oX o))).map iL))=_;rw[Ú];rfl)⟩⟩
  ·exact⟨.list (t.ws.map pD),rfl,_,_,rfl,fw,.inr ⟨o,t.ws,rfl,rfl,ho,ok.ws.1,by rw[ln];exact ok.ws.2,dU _,q _ rfl⟩⟩
  ·exact⟨.list (t.os.map oD),rfl,_,_,rfl,fw,.inr ⟨o,t.os,rfl,rfl,ho,ok.os.1,by rw[ln];exact ok.os.2,dU _,q _ (by show some (å ((t.os.map λu=>((oX o u.1,oX o u.2.1,u.2.2):Off)).map oD))=_;rw[Ú];rfl)⟩⟩
end
def Ik(ds:List D)(P:D->Prop):Prop:=∃(t:Th) (k:Int) (o:List Int),ds=[t.D,.int k,iL o]/\0<=k/\k<6/\Ord o/\((o.length:Nat):Int)=t.n/\t.Ok/\∀x,atI (t.by o).ps k=some x->P x
def El(ds:List D)(P:D->Prop):Prop:=∃(t:Th) (o:List Int),ds=[t.D,iL o]/\Ord o/\((o.length:Nat):Int)=t.n/\t.Ok/\P (t.by o).D
def Np(d:D):(norm (norm .new d) d).le .new=true:=by
 by_cases h:eZ d=true
 ·rw[cA h];rfl
 ·rw[dO h,dO h];rfl
section
variable {P:Program}{w:World}{K:Ê}{mg:Str->Option Value}{base:Heap}{f:Addr}{fd:FuncData}{CN:Addr}
def Gu(F:Fun K "_law_single" "_law_single" (top 35) f fd)(B:Dl.Bn mg)(C_exchanged_web:Dl.Cal1 P w K mg base 5 "exchanged_web" ["web","order"] (spX (xP CN)))(C_exchanged_one_way:Dl.Cal1 P w K mg base 5 "exchanged_one_way" ["one","order"] (spX (xR CN)))(C_exchanged_set:Dl.Cal1 P w K mg base 4 "exchanged_set" ["some","order"] (spX (xQ CN)))(C_exchanged_family:Dl.Cal1 P w K mg base 5 "exchanged_family" ["family","order"] (spX (rK CN)))(C_exchanged_ties:Dl.Cal1 P w K mg base 4 "exchanged_ties" ["added","order"] (spX (rJ CN)))(C_exchanged_offers:Dl.Cal1 P w K mg base 4 "exchanged_offers" ["offers","order"] (spX (xT CN))):FnOk P w K mg base CX0 6 f fd ["_law_thing","_law_which","_law_order_here"] (spD Ik):=by
 refine F.ok dI cQ (λcdv A outer s H vs Q E hr h=>?_)
 have nd:=dI.nd
 refine⟨_,Wr.WDSs.h (Wr.aC (Wr.bW (Wr.cO hr.units (Wr.dv 1) Wr.aq) (Wr.aD (Wr.aG (Wr.dcF C_exchanged_web hr (Wr.aj (Wr.aQ (Wr.dv 0) Wr.aq) (Wr.aj (Wr.dv 2) Wr.ak))))) Wr.aL)
  (Wr.aC (Wr.bW (Wr.cO hr.units (Wr.dv 1) Wr.aq) (Wr.aD (Wr.aG (Wr.dcF C_exchanged_one_way hr (Wr.aj (Wr.aQ (Wr.dv 0) Wr.aq) (Wr.aj (Wr.dv 2) Wr.ak))))) Wr.aL)
  (Wr.aC (Wr.bW (Wr.cO hr.units (Wr.dv 1) Wr.aq) (Wr.aD (Wr.aG (Wr.dcF C_exchanged_set hr (Wr.aj (Wr.aQ (Wr.dv 0) Wr.aq) (Wr.aj (Wr.dv 2) Wr.ak))))) Wr.aL)
  (Wr.aC (Wr.bW (Wr.cO hr.units (Wr.dv 1) Wr.aq) (Wr.aD (Wr.aG (Wr.dcF C_exchanged_family hr (Wr.aj (Wr.aQ (Wr.dv 0) Wr.aq) (Wr.aj (Wr.dv 2) Wr.ak))))) Wr.aL)
  (Wr.aC (Wr.bW (Wr.cO hr.units (Wr.dv 1) Wr.aq) (Wr.aD (Wr.aG (Wr.dcF C_exchanged_ties hr (Wr.aj (Wr.aQ (Wr.dv 0) Wr.aq) (Wr.aj (Wr.dv 2) Wr.ak))))) Wr.aL)
  (Wr.aD (Wr.aG (Wr.dcF C_exchanged_offers hr (Wr.aj (Wr.aQ (Wr.dv 0) Wr.aq) (Wr.aj (Wr.dv 2) Wr.ak)))))))))),fZ h ?_⟩
 rintro ds P ⟨t,k,o,rfl,k0,k6,ho,ln,ok,q⟩
 refine⟨[.sh t.D,.im (.int k),.sh (iL o)],rfl,?_⟩
 have hk:k=0\/k=1\/k=2\/k=3\/k=4\/k=5:=by omega
 rcases hk with rfl|rfl|rfl|rfl|rfl|rfl
 ·exact⟨bx t.n t.us,rfl,t.n,t.us,_,rfl,fQ ho,.inr ⟨o,rfl,ho,ln,ok.us.1,ok.us.2,dU _,q _ rfl⟩⟩
 ·exact⟨bx t.n t.vs,rfl,t.n,t.vs,_,rfl,fQ ho,.inr ⟨o,rfl,ho,ln,ok.vs.1,ok.vs.2,dU _,q _ rfl⟩⟩
 ·exact⟨iL t.l,rfl,_,_,rfl,fQ ho,.inr ⟨o,t.l,rfl,rfl,ho,ok.l.1,by rw[ln];exact ok.l.2,dU _,q _ rfl⟩⟩
 ·exact⟨.list (t.ls.map iL),rfl,_,_,rfl,fQ ho,.inr ⟨o,t.ls,rfl,ho,ok.ls.1,by rw[ln];exact ok.ls.2,dU _,q _ (by show some (å ((t.ls.map λl=>sI (l.map (oX o))).map iL))=_;rw[Ú];rfl)⟩⟩
 ·exact⟨.list (t.ws.map pD),rfl,_,_,rfl,fQ ho,.inr ⟨o,t.ws,rfl,rfl,ho,ok.ws.1,by rw[ln];exact ok.ws.2,dU _,q _ rfl⟩⟩
 ·exact⟨.list (t.os.map oD),rfl,_,_,rfl,fQ ho,.inr ⟨o,t.os,rfl,rfl,ho,ok.os.1,by rw[ln];exact ok.os.2,dU _,q _ (by show some (å ((t.os.map λu=>((oX o u.1,oX o u.2.1,u.2.2):Off)).map oD))=_;rw[Ú];rfl)⟩⟩
def lN:FnScope ["_law_thing","_law_order_here"] ["_law_thing","_law_order_here"] (aB (top 36)):=zC
def o8:(["_law_which","_law_thing","_law_order_here"]:List Str).Nodup:=by decide +kernel
def tH(F:Fun K "_law_told" "_law_told" (top 36) f fd)(B:Dl.Bn mg)(C__law_single:Dl.Cal P w K mg base 6 "_law_single" ["_law_thing","_law_which","_law_order_here"] (spD Ik)):FnOk P w K mg base CX0 7 f fd ["_law_thing","_law_order_here"] (spD El):=by
 refine F.ok lN cQ (λcdv A outer s H vs Q E hr h=>?_)
 have nd:=lN.nd
 refine⟨_,Wr.WDSs.h (Wr.aD (Wr.aG (Wr.cZ ["_law_which"] rfl (Wr.cW B.range (Wr.aj Wr.aq Wr.ak)) (λc=>(Wr.aN (i:=0) o8 rfl zQ)) (λc=>Wr.bN) (λc=>(Wr.dc C__law_single hr (Wr.aj (Wr.dv 1) (Wr.aj (Wr.dv 0) (Wr.aj (Wr.dv 2) Wr.ak)))))))),fZ h ?_⟩
 rintro ds P ⟨t,o,rfl,ho,ln,ok,q⟩
 refine⟨[.sh t.D,.sh (iL o)],rfl,?_⟩
 refine⟨⟨by decide,by decide⟩,?_⟩
 refine gO (Ø 6) (λi=>Â (0+((i:Nat):Int))) (λi=>((t.by o).ps)[i]?.getD .none) .new rfl (by decide) (λi hi A B hA=>?_) ?_
 ·have i6:=ċ.mp hi
  refine bw (B:=True) ⟨t,0+((i:Nat):Int),o,rfl,by omega,by omega,ho,ln,ok,λx hx=>?_⟩
  have e:((t.by o).ps)[i]?.getD .none=x:=by
   have:i<((t.by o).ps).length:=i6
   rw[Int.zero_add,j9 (Õ this)] at hx
   rw[Õ this]
   cases hx
   rfl
  rw[e] at hA
  exact⟨Np x,hA⟩
 ·exact⟨rfl,q⟩
end
def NQ(ds:List D)(P:D->Prop):Prop:=∃b us o,ds=[sqT b us,iL o]/\us.length<=41/\Ord o/\InT ((o.length:Nat):Int) us/\P (.list ((us.map (eX o)).map pD))
def fUp(ds:List D)(P:D->Prop):Prop:=∃us,ds=[.list (us.map pD)]/\us.length<=41/\InT 16 us/\P (.list ((sT (us.map mmT)).map pD))
section
variable {P:Program}{w:World}{K:Ê}{mg:Str->Option Value}{base:Heap}{f:Addr}{fd:FuncData}{CN:Addr}
def mX:FnScope ["_law_pairs_here","_law_order_here"] ["_law_pairs_here","_law_order_here"] (aB (top 34)):=zC
def jY:(["_law_a","_law_b","_law_pairs_here","_law_order_here"]:List Str).Nodup:=by decide +kernel
def vL(F:Fun K "_law_put" "_law_put" (top 34) f fd)(B:Dl.Bn mg):FnOk P w K mg base CX0 1 f fd ["_law_pairs_here","_law_order_here"] (spD NQ):=by
 refine F.ok mX cQ (λcdv A outer s H vs Q E hr h=>?_)
 have nd:=mX.nd
 refine⟨_,Wr.WDSs.h (Wr.aD (Wr.aG (Wr.cZ ["_law_a","_law_b"] rfl (Wr.dD (Wr.dv 0)) (λc=>(Wr.iY (n:=2) rfl (Wr.dF (Wr.aN (i:=0) jY rfl zQ) (Wr.dF (Wr.aN (i:=1) jY rfl zQ) Wr.fU)))) (λc=>Wr.bN) (λc=>(Wr.bR (Wr.aj (Wr.aQ (Wr.dv 3) (Wr.dv 0)) (Wr.aj (Wr.aQ (Wr.dv 3) (Wr.dv 1)) Wr.ak))))))),fZ h ?_⟩
 rintro ds P ⟨b,us,o,rfl,lu,ho,hu,q⟩
 refine⟨[cF (sqT b us),.sh (iL o)],rfl,?_⟩
 have eq:(us.map (eX o)).map pD=us.map λt=>pD (eX o t):=Ú
 rw[eq] at q
 cases b with
 |true =>
  refine gO us pD (λt=>pD (eX o t)) .imm rfl (by omega) (λt ht A B hA=>?_) ⟨rfl,q⟩
  obtain⟨⟨o1,o2⟩,⟨o3,o4⟩⟩:=hu t ht
  exact bw (B:=True) ⟨rfl,_,cL o1 o2,_,cL o3 o4,zK,rfl,hA⟩
 |false =>
  rcases bD (sqT false us) with e|e
  all_goals
   rw[e]
   refine gO us pD (λt=>pD (eX o t)) .imm rfl (by omega) (λt ht A B hA=>?_) ⟨rfl,q⟩
   obtain⟨⟨o1,o2⟩,⟨o3,o4⟩⟩:=hu t ht
   exact bw (B:=True) ⟨rfl,_,cL o1 o2,_,cL o3 o4,zK,rfl,hA⟩
def pK:FnScope ["_law_pairs_here"] ["_law_pairs_here"] (aB (top 32)):=zC
def lO:(["_law_a","_law_b","_law_pairs_here"]:List Str).Nodup:=by decide +kernel
def yF(F:Fun K "_law_up" "_law_up" (top 32) f fd)(B:Dl.Bn mg):FnOk P w K mg base CX0 1 f fd ["_law_pairs_here"] (spD fUp):=by
 refine F.ok pK cQ (λcdv A outer s H vs Q E hr h=>?_)
 have nd:=pK.nd
 refine⟨_,Wr.WDSs.h (Wr.aD (Wr.aG (Wr.eG B.sorted (Wr.aj (Wr.cZ ["_law_a","_law_b"] rfl (Wr.dD (Wr.dv 0)) (λc=>(Wr.iY (n:=2) rfl (Wr.dF (Wr.aN (i:=0) lO rfl zQ) (Wr.dF (Wr.aN (i:=1) lO rfl zQ) Wr.fU)))) (λc=>Wr.bN) (λc=>(Wr.bR (Wr.aj (Wr.qT rfl B.min (Wr.aj (Wr.dv 0) (Wr.aj (Wr.dv 1) Wr.ak))) (Wr.aj (Wr.qW rfl B.max (Wr.aj (Wr.dv 0) (Wr.aj (Wr.dv 1) Wr.ak))) Wr.ak))))) Wr.ak)))),fZ h ?_⟩
 rintro ds P ⟨us,rfl,lu,hu,q⟩
 refine⟨[.sh (.list (us.map pD))],rfl,?_⟩
 have nc:∀t∈us.map mmT,gj t:=λt ht=>by
  obtain⟨v,hv,rfl⟩:=ß.mp ht
  obtain⟨⟨o1,o2⟩,⟨o3,o4⟩⟩:=hu v hv
  unfold mmT gj
  dsimp only
  split <;> omega
 refine gO us pD (λt=>pD (mmT t)) .imm rfl (by omega) (λt ht A B hA=>?_) ?_
 ·exact bw (B:=True) ⟨rfl,zK,rfl,hA⟩
 ·exact⟨us.map mmT,.inl (by rw[Ú];rfl),by rw[Á];omega,nc,λws hw sw=>⟨rfl,by rw[jM nc hw sw];exact q⟩⟩
def Cu{f2:Addr}{fd2:FuncData}(F:Fun K "_law_told" "_law_told" (top 36) f fd)(B:Dl.Bn mg)(F2:Fun K "_law_single" "_law_single" (top 35) f2 fd2)(b2:Binds K fd2 ["_law_thing","_law_which","_law_order_here"] [])(m2:mg "_law_single"=some (.ref f2))(C1:Dl.Cal1 P w K mg base 5 "exchanged_web" ["web","order"] (spX (xP CN)))(C2:Dl.Cal1 P w K mg base 5 "exchanged_one_way" ["one","order"] (spX (xR CN)))(C3:Dl.Cal1 P w K mg base 4 "exchanged_set" ["some","order"] (spX (xQ CN)))(C4:Dl.Cal1 P w K mg base 5 "exchanged_family" ["family","order"] (spX (rK CN)))(C5:Dl.Cal1 P w K mg base 4 "exchanged_ties" ["added","order"] (spX (rJ CN)))(C6:Dl.Cal1 P w K mg base 4 "exchanged_offers" ["offers","order"] (spX (xT CN))):FnOk P w K mg base CX0 7 f fd ["_law_thing","_law_order_here"] (spD El) :=
 tH F B ⟨f2,fd2,Gu F2 B C1 C2 C3 C4 C5 C6,b2,F2.kp,m2⟩
end
def hdD:D->Nat
 |.none=>0
 |.bool _=>1
 |.int _=>2
 |.str _=>3
 |.list _=>4
 |.tuple _=>5
 |.dict _=>6
def Ko{ok:Addr->Prop}{H:Hp}{v:V}{d e:D}(h:Rp ok H v d)(g:Rp ok H v e):hdD d=hdD e:=by
 cases h with
 |non=>cases g;rfl
 |bl=>cases g;rfl
 |int=>cases g;rfl
 |str=>cases g;rfl
 |lst o h r =>
  cases g with
  |lst=>rfl
  |tup h2=>rw[h] at h2;cases h2
  |dct _ h2=>rw[h] at h2;cases h2
 |tup h r =>
  cases g with
  |tup=>rfl
  |lst _ h2=>rw[h] at h2;cases h2
  |dct _ h2=>rw[h] at h2;cases h2
 |dct o h r =>
  cases g with
  |dct=>rfl
  |tup h2=>rw[h] at h2;cases h2
  |lst _ h2=>rw[h] at h2;cases h2
def DQ{ok:Addr->Prop}{H:Hp}:∀{vs:List V}{ds es:List D},Rps ok H vs ds->Rps ok H vs es->ds.map hdD=es.map hdD
 |_,_,_,.nil,.nil=>rfl
 |_,_,_,.cons h t,.cons h2 t2=>by
  rw[Ą,Ą,Ko h h2,DQ t t2]
def fu{ok:Addr->Prop}{H:Hp}{a b:Addr}{vs ws:List V}{ds es:List D}(ha:H a=some (.lst vs))(r:Rps ok H vs ds)(hb:H b=some (.lst ws))(r2:Rps ok H ws es)(n:ds.map hdD≠es.map hdD):a≠b:=λz=>by
 subst z
 rw[ha] at hb
 cases hb
 exact n (DQ r r2)
def LiA(ok:Addr->Prop)(H:Hp)(k:Nat)(a:Addr):Prop:=ok a/\∃vs:List V,H a=some (.lst vs)/\vs.length<=k
def LiA.write{ok:Addr->Prop}{H:Hp}{k:Nat}{a c:Addr}{ns:List V}(h:LiA ok H k c)(ha:ok a)(hn:ns.length<=k+1):LiA ok (upd H a (.lst ns)) (k+1) c:=by
 by_cases z:c=a
 ·subst z
  exact⟨ha,ns,aA,hn⟩
 ·obtain⟨o,ms,e,l⟩:=h
  exact⟨o,ms,by rw[ao z];exact e,by omega⟩
def LiA.fresh{ok:Addr->Prop}{H:Hp}{k:Nat}{c l:Addr}{o:HO}(hl:H l=none)(h:LiA ok H k c):LiA ok (upd H l o) k c:=by
 obtain⟨oo,ms,e,l2⟩:=h
 exact⟨oo,ms,by rw[ao (au e hl)];exact e,l2⟩
def Hf{α:Type}{g:α->D}{c:Nat}(h:∀x,hdD (g x)=c)(l:List α):(l.map g).map hdD=l.map λ_=>c:=by
 rw[Ú]
 exact ä λx _=>h x
def rz{α:Type}{l:List α}{c:Nat}:[5,5,4,4,4,4]≠l.map λ_=>c:=λh=>by
 have h1:5∈l.map (λ_=>c):=by rw[←h];simp
 have h2:4∈l.map (λ_=>c):=by rw[←h];simp
 obtain⟨_,_,e1⟩:=ß.mp h1
 obtain⟨_,_,e2⟩:=ß.mp h2
 omega
def vM{α β:Type}{k:List β}{l:List α}{b c:Nat}(n:k≠[])(bc:b≠c):(k.map λ_=>b)≠l.map λ_=>c:=λh=>by
 cases k with
 |nil=>exact n rfl
 |cons x k =>
  cases l with
  |nil=>cases h
  |cons y l =>
   injection h with h _
   exact bc h
def Fd{xs:List V}{v:V}:jE (xs++[v]) none (some (-1))=xs:=by
 unfold jE
 have e1:HT.sIx (xs++[v]).length 0 none=0:=rfl
 have e2:HT.sIx (xs++[v]).length (xs++[v]).length (some (-1))=xs.length:=by
  have e:HT.sIx (xs++[v]).length (xs++[v]).length (some (-1))=((-1:Int)+((xs++[v]).length:Int)).toNat:=rfl
  rw[e,Ð,í]
  omega
 rw[e1,e2,List.drop_zero,Nat.sub_zero,List.take_left']
 rfl
def Jc{ok:Addr->Prop}{H:Hp}{vs:List V}{d0 d1 d2 d3 d4 d5:D}(r:Rps ok H vs [d0,d1,d2,d3,d4,d5]):∃v0 v1 v2 v3 v4 v5,vs=[v0,v1,v2,v3,v4,v5]/\Rp ok H v2 d2/\Rp ok H v3 d3/\Rp ok H v4 d4/\Rp ok H v5 d5:=by
 cases r with
 |cons h0 r=>cases r with
  |cons h1 r=>cases r with
   |cons h2 r=>cases r with
    |cons h3 r=>cases r with
     |cons h4 r=>cases r with
      |cons h5 r=>cases r with
       |nil=>exact⟨_,_,_,_,_,_,rfl,h2,h3,h4,h5⟩
def Aw:Sp:=λvs H Q _=>∃(ok:Addr->Prop) (t:Th) (v:V),vs=[v]/\Rp ok H v t.D/\t.Ok/\t.ls≠[]/\∀H',Spo ok H H'->Q .non H'
section
variable {P:Program}{w:World}{K:Ê}{mg:Str->Option Value}{base:Heap}{f:Addr}{fd:FuncData}{CN:Addr}
def Bf:FnScope ["_law_told_here","_law_some"] ["_law_told_here"] (aB (top 37)):=zC
def JG(F:Fun K "_law_spoil" "_law_spoil" (top 37) f fd)(B:Dl.Bn mg):FnOk P w K mg base CX0 1 f fd ["_law_told_here"] Aw:=by
 refine F.ok Bf (λvs H Q E h=>?_) (λcdv A outer s H vs Q E hr h=>?_)
 ·obtain⟨ok,t,v,rfl,_⟩:=h
  rfl
 obtain⟨ok,t,v,rfl,r,tok,ne,q⟩:=h
 have nd:=Bf.nd
 have h24:=ì
 refine⟨_,aO (vC Ė rfl (vG (nq qC (pv 0) (qJ aZ) qK)) (mq (i:=1) nd rfl zQ)
  (cH (gF (tu ħ ű Ű lE (pv 1) (aF aZ bA)))))
  (cH (vC Ė rfl (vG (nq qC (BX rD (pv 0) aZ (λ_ _=>rfl)) qK (qJ (HJ Ai aZ)))) (mq (i:=1) nd rfl zQ)
  (cH (gF (tu ħ ű Ű lE (pv 1) (aF aZ bA)))))),?_⟩
 obtain⟨a0,vs0,rfl,o0,h0,rs0⟩:=Rp.cg r
 obtain⟨u0,u1,u2,u3,u4,u5,rfl,r2,r3,r4,r5⟩:=Jc rs0
 obtain⟨a2,x2,rfl,o2,h2,rs2⟩:=Rp.cg r2
 obtain⟨a3,x3,rfl,o3,h3,rs3⟩:=Rp.cg r3
 obtain⟨a4,x4,rfl,o4,h4,rs4⟩:=Rp.cg r4
 obtain⟨a5,x5,rfl,o5,h5,rs5⟩:=Rp.cg r5
 have e0:t.ps.map hdD=[5,5,4,4,4,4]:=rfl
 have e2:(t.l.map Â).map hdD=t.l.map λ_=>2:=Hf (g:=Â) (λ_=>rfl) _
 have e3:(t.ls.map iL).map hdD=t.ls.map λ_=>4:=Hf (g:=iL) (λ_=>rfl) _
 have e4:(t.ws.map pD).map hdD=t.ws.map λ_=>5:=Hf (g:=pD) (λ_=>rfl) _
 have e5:(t.os.map oD).map hdD=t.os.map λ_=>5:=Hf (g:=oD) (λ_=>rfl) _
 have n02:a0≠a2:=fu h0 rs0 h2 rs2 (by rw[e0,e2];exact rz)
 have n03:a0≠a3:=fu h0 rs0 h3 rs3 (by rw[e0,e3];exact rz)
 have n04:a0≠a4:=fu h0 rs0 h4 rs4 (by rw[e0,e4];exact rz)
 have n05:a0≠a5:=fu h0 rs0 h5 rs5 (by rw[e0,e5];exact rz)
 have n32:a3≠a2:=fu h3 rs3 h2 rs2 (by rw[e3,e2];exact vM ne (by decide))
 have n34:a3≠a4:=fu h3 rs3 h4 rs4 (by rw[e3,e4];exact vM ne (by decide))
 have n35:a3≠a5:=fu h3 rs3 h5 rs5 (by rw[e3,e5];exact vM ne (by decide))
 have l2:x2.length<=50:=by rw[rs2.length,Á];have:=tok.l.1;omega
 have l3:x3.length<=50:=by rw[rs3.length,Á];have:=tok.ls.1;omega
 have l4:x4.length<=50:=by rw[rs4.length,Á];have:=tok.ws.1;omega
 have l5:x5.length<=50:=by rw[rs5.length,Á];have:=tok.os.1;omega
 have hb:∀v∈x3,∃b,v=.ref b/\LiA ok H 50 b:=λv hv=>by
  obtain⟨j,hj⟩:=List.getElem?_of_mem hv
  obtain⟨d,hd,rd⟩:=rs3.get hj
  obtain⟨l,hl,rfl⟩:=ß.mp (Ñ hd)
  obtain⟨b,y,rfl,ob,hb,rsb⟩:=Rp.cg rd
  exact⟨b,rfl,ob,y,hb,by rw[rsb.length,Á];have:=(tok.ls.2 l hl).1;omega⟩
 refine⟨.ref a0,rfl,2,rfl,a0,_,rfl,SqL.of h0,λp hp0=>?_⟩
 have S0:Spo ok H (upd H p (.lst (jE [u0,u1,.ref a2,.ref a3,.ref a4,.ref a5] (some 2) none))):=Spo.new hp0 _
 have ec:jE [u0,u1,V.ref a2,.ref a3,.ref a4,.ref a5] (some 2) none=[.ref a2,.ref a3,.ref a4,.ref a5]:=rfl
 rw[ec] at S0 ⊢
 have pn:∀{a:Addr}{o:HO},H a=some o->p≠a:=λ{a o} e z=>by rw[←z,hp0] at e;cases e
 refine⟨p,rfl,.inl ⟨⟨_,SqL.of aA⟩,?_⟩⟩
 refine⟨λn m σ' H'=>m=4 - n/\n<=4/\(∃y,σ'=[some (.ref a0),y])/\Spo ok H H'/\H' p=some (.lst [.ref a2,.ref a3,.ref a4,.ref a5])/\H' a0=some (.lst [u0,u1,.ref a2,.ref a3,.ref a4,.ref a5])/\H' a3=some (.lst (x3++if 1<n then [.int 0] else []))/\(LiA ok H' (50+n) a2/\LiA ok H' (50+n) a3/\LiA ok H' (50+n) a4/\LiA ok H' (50+n) a5)/\∀v∈x3,∃b,v=.ref b/\LiA ok H' (50+n) b,
  ⟨_,rfl,û _,⟨_,rfl⟩,S0,aA,by rw[ao (é (pn h0))];exact h0,by rw[ao (é (pn h3)),if_neg (by decide),ą];exact h3,⟨LiA.fresh hp0 ⟨o2,x2,h2,l2⟩,LiA.fresh hp0 ⟨o3,x3,h3,l3⟩,LiA.fresh hp0 ⟨o4,x4,h4,l4⟩,LiA.fresh hp0 ⟨o5,x5,h5,l5⟩⟩,λv hv=>let ⟨b,e,z⟩:=hb v hv;⟨b,e,z.fresh hp0⟩⟩,?_⟩
 rintro n m σ' H' ⟨rfl,hn,⟨y0,rfl⟩,S,hpp,ha0,ha3,⟨L2,L3,L4,L5⟩,LB⟩
 by_cases hlt:n<4
 ·refine .inr ⟨⟨_,([V.ref a2,.ref a3,.ref a4,.ref a5])[n]'hlt,SqL.of hpp,Õ hlt⟩,λσ2 H2=>n+1<=4/\(∃y,σ2=[some (.ref a0),y])/\Spo ok H H2/\H2 p=some (.lst [.ref a2,.ref a3,.ref a4,.ref a5])/\H2 a0=some (.lst [u0,u1,.ref a2,.ref a3,.ref a4,.ref a5])/\H2 a3=some (.lst (x3++if 1<n+1 then [.int 0] else []))/\(LiA ok H2 (50+(n+1)) a2/\LiA ok H2 (50+(n+1)) a3/\LiA ok H2 (50+(n+1)) a4/\LiA ok H2 (50+(n+1)) a5)/\∀v∈x3,∃b,v=.ref b/\LiA ok H2 (50+(n+1)) b,λσ2 H2 h=>⟨_,by omega,rfl,h⟩,λx H2 y=>?_⟩
  obtain⟨rfl,y⟩:=y
  have y:=y _ (SqL.of hpp)
  have go:∀(a:Addr) (vs:List V),ok a->H2 a=some (.lst vs)->vs.length<=50+n->p≠a->a0≠a->upd H2 a (.lst (vs++[.int 0])) a3=some (.lst (x3++if 1<n+1 then [.int 0] else [])) ->
    (n+1<=4/\(∃y,[some (.ref a0),some (V.ref a)]=[some (.ref a0),y])/\Spo ok H (upd H2 a (.lst (vs++[.int 0])))/\upd H2 a (.lst (vs++[.int 0])) p=some (.lst [.ref a2,.ref a3,.ref a4,.ref a5])/\upd H2 a (.lst (vs++[.int 0])) a0=some (.lst [u0,u1,.ref a2,.ref a3,.ref a4,.ref a5])/\upd H2 a (.lst (vs++[.int 0])) a3=some (.lst (x3++if 1<n+1 then [.int 0] else []))/\(LiA ok (upd H2 a (.lst (vs++[.int 0]))) (50+(n+1)) a2/\LiA ok (upd H2 a (.lst (vs++[.int 0]))) (50+(n+1)) a3/\LiA ok (upd H2 a (.lst (vs++[.int 0]))) (50+(n+1)) a4/\LiA ok (upd H2 a (.lst (vs++[.int 0]))) (50+(n+1)) a5)/\∀v∈x3,∃b,v=.ref b/\LiA ok (upd H2 a (.lst (vs++[.int 0]))) (50+(n+1)) b):=λa vs oa ha la pa na h3'=>by
   have lw:(vs++[V.int 0]).length<=50+n+1:=by rw[Ð,í];omega
   exact⟨hlt,⟨_,rfl⟩,S.trans (Spo.write ha oa),by rw[ao pa];exact hpp,by rw[ao na];exact ha0,h3',⟨L2.write oa lw,L3.write oa lw,L4.write oa lw,L5.write oa lw⟩,λv hv=>let ⟨b,e,z⟩:=LB v hv;⟨b,e,z.write oa lw⟩⟩
  have hc:n=0\/n=1\/n=2\/n=3:=by omega
  rcases hc with rfl|rfl|rfl|rfl
  ·cases y
   obtain⟨oa,vs,ha,la⟩:=L2
   exact⟨_,rfl,.inl ⟨rfl,_,SqL.of ha⟩,a2,vs,_,rfl,rfl,ha,by omega,go a2 vs oa ha la (pn h2) n02 (by rw[ao n32];exact ha3)⟩
  ·cases y
   have e:x3++(if 1<1 then [V.int 0] else [])=x3:=ą _
   rw[e] at ha3
   exact⟨_,rfl,.inl ⟨rfl,_,SqL.of ha3⟩,a3,x3,_,rfl,rfl,ha3,by omega,go a3 x3 o3 ha3 (by omega) (pn h3) n03 aA⟩
  ·cases y
   obtain⟨oa,vs,ha,la⟩:=L4
   exact⟨_,rfl,.inl ⟨rfl,_,SqL.of ha⟩,a4,vs,_,rfl,rfl,ha,by omega,go a4 vs oa ha la (pn h4) n04 (by rw[ao n34];exact ha3)⟩
  ·cases y
   obtain⟨oa,vs,ha,la⟩:=L5
   exact⟨_,rfl,.inl ⟨rfl,_,SqL.of ha⟩,a5,vs,_,rfl,rfl,ha,by omega,go a5 vs oa ha la (pn h5) n05 (by rw[ao n35];exact ha3)⟩
 ·have e:n=4:=by omega
  subst e
  refine .inl ⟨⟨_,SqL.of hpp,Æ _⟩,?_⟩
  rw[if_pos (by decide)] at ha3
  refine⟨_,rfl,a0,_,3,_,rfl,rfl,SqL.of ha0,rfl,?_⟩
  refine⟨1,rfl,-1,rfl,a3,_,rfl,SqL.of ha3,λp2 hp2=>?_⟩
  rw[show jE (x3++[V.int 0]) none (some (-1))=x3 from Fd]
  have S1:Spo ok H' (upd H' p2 (.lst x3)):=Spo.new hp2 _
  refine⟨p2,rfl,.inl ⟨⟨_,SqL.of aA⟩,?_⟩⟩
  refine⟨λn m σ' H'=>m=x3.length - n/\n<=x3.length/\(∃y,σ'=[some (.ref a0),y])/\Spo ok H H'/\H' p2=some (.lst x3)/\∀v∈x3,∃b,v=.ref b/\p2≠b/\LiA ok H' (54+n) b,
   ⟨_,rfl,û _,⟨_,rfl⟩,S.trans S1,aA,λv hv=>let ⟨b,e,z⟩:=LB v hv;⟨b,e,(λy=>by obtain⟨_,_,e',_⟩:=z;rw[←y,hp2] at e';cases e'),z.fresh hp2⟩⟩,?_⟩
  rintro n m σ' H' ⟨rfl,hn,⟨y0,rfl⟩,S,hpp,LB⟩
  by_cases hlt:n<x3.length
  ·refine .inr ⟨⟨_,x3[n]'hlt,SqL.of hpp,Õ hlt⟩,λσ2 H2=>n+1<=x3.length/\(∃y,σ2=[some (.ref a0),y])/\Spo ok H H2/\H2 p2=some (.lst x3)/\∀v∈x3,∃b,v=.ref b/\p2≠b/\LiA ok H2 (54+(n+1)) b,λσ2 H2 h=>⟨_,by omega,rfl,h⟩,λx H2 y=>?_⟩
   obtain⟨rfl,y⟩:=y
   have y:=y _ (SqL.of hpp)
   obtain⟨b,rfl,pb,L⟩:=LB x (Ñ y)
   obtain⟨oa,vs,ha,la⟩:=L
   have lw:(vs++[V.int 0]).length<=54+n+1:=by rw[Ð,í];omega
   exact⟨_,rfl,.inl ⟨rfl,_,SqL.of ha⟩,b,vs,_,rfl,rfl,ha,by omega,hlt,⟨_,rfl⟩,S.trans (Spo.write ha oa),by rw[ao pb];exact hpp,λv hv=>let ⟨c,e,n,z⟩:=LB v hv;⟨c,e,n,z.write oa lw⟩⟩
  ·have e:n=x3.length:=by omega
   subst e
   exact .inl ⟨⟨_,SqL.of hpp,Æ _⟩,q H' S⟩
end
def PSs.wk{X:Cx}{ss:List Stmt}{t t':TS}(h:PSs X ss t)(w:∀D σ H,t' D σ H->t D σ H):PSs X ss t':=λpins s σ H D I q=>h pins s σ H D I (w D σ H q)
def bZ(c:Addr)(a r:Int):List (Key×V):=[(.inr "script",.ref c),(.inr "at",.int a),(.inr "left",.int r)]
def Gh(p sc:Addr)(ns:List Int)(b:Bool):Pn where
 fp:=λa=>a=p\/(b=true/\a=sc)
 PI:=λH=>(∃x y:Int,H p=some (.dK (bZ sc x y)))/\(b=true->Rd H sc (.lst (ns.map V.int)))
 pv:=.ref p
 mono:=λH H' ⟨⟨x,y,h⟩,r⟩ k=>⟨⟨x,y,k _ _ (.inl (.inl rfl)) h⟩,λe=>(r e).elim (λz=>.inl (k _ _ (.inl (.inr ⟨e,rfl⟩)) z)) λ⟨o,z⟩=>.inr ⟨o,k _ _ (.inl (.inr ⟨e,rfl⟩)) z⟩⟩
 is:=λH a ⟨⟨x,y,h⟩,r⟩ hb=>by
  rcases hb with rfl|⟨e,rfl⟩
  ·exact⟨_,h,(λxs z=>(nomatch z)),λ⟨_,_,z⟩=>(nomatch z)⟩
  ·rcases r e with z|⟨o,z⟩
   ·exact⟨_,z,(λxs z=>(nomatch z)),λ⟨_,_,z⟩=>(nomatch z)⟩
   ·exact⟨_,z,(λxs z=>(nomatch z)),λ⟨_,_,z⟩=>(nomatch z)⟩
def CP(K:Ê)(q:Pn):Prop:=∃p sc ns b,(b=true->p≠sc)/\(b=false->∀H,SqL K H sc (ns.map V.int))/\q=Gh p sc ns b
def Jp{K:Ê}{H:Hp}{sc:Addr}{ns:List Int}{b:Bool}(r:b=true->Rd H sc (.lst (ns.map V.int)))(hb:b=false->∀H,SqL K H sc (ns.map V.int)):SqL K H sc (ns.map V.int):=by
 cases b with
 |true=>exact .inl (r rfl)
 |false=>exact hb rfl H
def Bp{H:Hp}{sc p:Addr}{u o:HO}(h:Rd H sc u)(n:p≠sc):Rd (upd H p o) sc u:=by
 rcases h with z|⟨o',z⟩
 ·exact .inl (by rw[ao (é n)];exact z)
 ·exact .inr ⟨o',by rw[ao (é n)];exact z⟩
def Ah(c:Addr)(a r:Int):iy (bZ c a r) (.inr "script")=some (.ref c):=by
 unfold bZ iy
 simp
def Lh(c:Addr)(a r:Int):iy (bZ c a r) (.inr "at")=some (.int a):=by
 unfold bZ iy
 have h1:¬((ñ ("script":Str):Key)=ñ ("at":Str)):=by intro z;injection z with z;exact absurd z (by decide +kernel)
 simp[Ģ,h1]
def v_left(c:Addr)(a r:Int):iy (bZ c a r) (.inr "left")=some (.int r):=by
 unfold bZ iy
 have h1:¬((ñ ("script":Str):Key)=ñ ("left":Str)):=by intro z;injection z with z;exact absurd z (by decide +kernel)
 have h2:¬((ñ ("at":Str):Key)=ñ ("left":Str)):=by intro z;injection z with z;exact absurd z (by decide +kernel)
 simp[Ģ,h1,h2]
def O2(c:Addr)(a r b:Int):putK (bZ c a r) (.inr "at") (.int b)=bZ c b r:=by
 unfold putK
 rw[if_pos (by rw[jG,Lh];rfl)]
 unfold bZ
 have h1:¬((ñ ("script":Str):Key)=ñ ("at":Str)):=by intro z;injection z with z;exact absurd z (by decide +kernel)
 have h2:¬((ñ ("left":Str):Key)=ñ ("at":Str)):=by intro z;injection z with z;exact absurd z (by decide +kernel)
 simp[h1,h2]
def Jw(c:Addr)(a r b:Int):putK (bZ c a r) (.inr "left") (.int b)=bZ c a b:=by
 unfold putK
 rw[if_pos (by rw[jG,v_left];rfl)]
 unfold bZ
 have h1:¬((ñ ("script":Str):Key)=ñ ("left":Str)):=by intro z;injection z with z;exact absurd z (by decide +kernel)
 have h2:¬((ñ ("at":Str):Key)=ñ ("left":Str)):=by intro z;injection z with z;exact absurd z (by decide +kernel)
 simp[h1,h2]
def uD(ds:List D)(P:D->Prop):Prop:=∃m:Int,ds=[.int m]/\0<m/\m<1267650600228229401496703205376/\∀r:Int,0<=r->r<m->P (.int r)
def mJ{C:Pn->Prop}{f:List D->(D->Prop)->Prop}{n:Nat}(hn:∀ds P,f ds P->ds.length=n:=by intro _ _ h;repeat (first|(obtain⟨rfl,_⟩:=h;rfl)|obtain⟨_,h⟩:=h)):∀vs H Q E,spP C f vs H Q E->vs.length=n+1:=λvs H Q E h=>by
 obtain⟨p,vs',ds,P,_,rfl,_,r,t,_⟩:=h
 rw[ç,r.length,hn ds P t]
def JT{x m:Int}(hm:0<m)(hb:m<=2 ^ 32):-(2 ^ 64)<x % m/\x % m<2 ^ 64:=by
 have h1:=Ŧ x (b:=m) (by omega)
 have h2:=Ŏ x hm
 omega
def Ho{i:Int}{ns:List Int}(h:(0:Int)<((ns.map V.int).length:Nat)):∃v:Int,atI (ns.map V.int) (i % (((ns.map V.int).length:Nat):Int))=some (.int v):=by
 rw[Á] at h ⊢
 have h1:=Ŧ i (b:=(ns.length:Int)) (by omega)
 have h2:=Ŏ i h
 have hk:(i % (ns.length:Int)).toNat<ns.length:=by omega
 have ek:i % (ns.length:Int)=(((i % (ns.length:Int)).toNat:Nat):Int):=by omega
 have q:atI (ns.map V.int) (((i % (ns.length:Int)).toNat:Nat):Int)=some (.int ns[(i % (ns.length:Int)).toNat]):=j9 (by rw[Þ,Õ hk];rfl)
 rw[←ek] at q
 exact⟨_,q⟩
def sV{H:Hp}{a:Addr}(h:H a=none)(o:HO):Same H (upd H a o):=λb u q=>by rw[ao (au q h)];exact q
def j5{H:Hp}{p c:Addr}{a r:Int}(h:H p=some (.dK (bZ c a r))):oU H p (.str "script") (some (.ref c)):=by
 have q:=oU.k (k:=ñ ("script":Str)) h
 rw[Ah] at q
 exact q
def Pg{H:Hp}{p c:Addr}{a r:Int}(h:H p=some (.dK (bZ c a r))):oU H p (.str "at") (some (.int a)):=by
 have q:=oU.k (k:=ñ ("at":Str)) h
 rw[Lh] at q
 exact q
def v9{H:Hp}{p c:Addr}{a r:Int}(h:H p=some (.dK (bZ c a r))):oU H p (.str "left") (some (.int r)):=by
 have q:=oU.k (k:=ñ ("left":Str)) h
 rw[v_left] at q
 exact q
def Oh{H:Hp}{p c:Addr}{a r:Int}(b:Int)(h:H p=some (.dK (bZ c a r))):uY H p (.str "at") (.int b) (upd H p (.dK (bZ c b r))):=by
 have q:=uY.k (k:=ñ ("at":Str)) (v:=.int b) h (by show 3<sizeLine;rw[ì];decide)
 rw[O2] at q
 exact q
def Aj{H:Hp}{p c:Addr}{a r:Int}(b:Int)(h:H p=some (.dK (bZ c a r))):uY H p (.str "left") (.int b) (upd H p (.dK (bZ c a b))):=by
 have q:=uY.k (k:=ñ ("left":Str)) (v:=.int b) h (by show 3<sizeLine;rw[ì];decide)
 rw[Jw] at q
 exact q
def Nz{k:Nat}{A:Around}(hr:Room k A):A.units+1<cLine:=by have:=hr.units;omega
def yM(c:Addr):jA [] [(ñ ("script":Str),V.ref c),(ñ ("at":Str),V.int 0),(ñ ("left":Str),V.int 0)]=bZ c 0 0:=by
 have h1:¬((ñ ("script":Str):Key)=ñ ("at":Str)):=by intro z;injection z with z;exact absurd z (by decide +kernel)
 have h2:¬((ñ ("script":Str):Key)=ñ ("left":Str)):=by intro z;injection z with z;exact absurd z (by decide +kernel)
 have h3:¬((ñ ("at":Str):Key)=ñ ("left":Str)):=by intro z;injection z with z;exact absurd z (by decide +kernel)
 simp[jA,putK,bZ,h1,h2,h3]
def vo:Sp:=λvs H Q _=>∃sc,vs=[.ref sc]/\∀p H',H p=none->Same H H'->H' p=some (.dK (bZ sc 0 0))->Q (.ref p) H'
def tDr(K:Ê)(p sc:Addr)(ns:List Int):TS:=λD σ H=>∃(a2 a5:Option V) (m i cell a r:Int),σ=[some (.ref p),some (.int m),a2,some (.int i),some (.int cell),a5]/\0<m/\m<1267650600228229401496703205376/\H p=some (.dK (bZ sc a r))/\SqL K H sc (ns.map V.int)/\∀r',0<=r'->r'<m->D.rt (.int r') H/\∀b,D.rt (.int r') (upd H p (.dK (bZ sc a b)))
structure IsOrd(n:Int)(l:List Int):Prop where
 len:(l.length:Int)=n
 rng:∀x∈l,0<=x/\x<n
 nd:l.Nodup
def wz(ds:List D)(P:D->Prop):Prop:=∃n:Int,ds=[.int n]/\0<=n/\n<=64/\∀l,IsOrd n l->P (.list (l.map Â))
def IsOrd.ins{k:Nat}{l:List Int}(h:IsOrd k l)(j:Nat):IsOrd ((k+1:Nat):Int) (l.take j++((k:Nat):Int)::l.drop j):=by
 have p:(l.take j++((k:Nat):Int)::l.drop j).Perm (((k:Nat):Int)::l):=by
  refine List.perm_middle.trans ?_
  rw[List.take_append_drop]
 refine⟨?_,λx hx=>?_,?_⟩
 ·rw[p.length_eq,ç]
  have:=h.len
  omega
 ·rcases É.mp (p.mem_iff.mp hx) with z|z
  ·omega
  ·have:=h.rng x z
   omega
 ·refine p.symm.nodup ?_
  refine Ě.mpr ⟨λz=>?_,h.nd⟩
  have:=h.rng _ z
  omega
section
variable {P:Program}{w:World}{K:Ê}{mg:Str->Option Value}{base:Heap}{f:Addr}{fd:FuncData}
def Jd:FnScope ["_law_script"] ["_law_script"] (aB (top 27)):=zC
def JH(F:Fun K "_law_pen" "_law_pen" (top 27) f fd):FnOk P w K mg base CX0 1 f fd ["_law_script"] vo:=by
 refine F.ok Jd (λvs H Q E h=>?_) (λcdv A outer s H vs Q E hr h=>?_)
 ·obtain⟨sc,rfl,_⟩:=h
  rfl
 obtain⟨sc,rfl,q⟩:=h
 refine⟨_,cH (iC (Gi (mZ cR (pv 0) (mZ cR aZ (mZ cR aZ Ge))) rfl rfl (by intro z;cases z) (by show 3<=15;decide))),?_⟩
 intro p hp
 refine⟨_,rfl,aA,[(ñ ("script":Str),.ref sc),(ñ ("at":Str),.int 0),(ñ ("left":Str),.int 0)],rfl,(by show 3<=15;decide),?_⟩
 rw[yM]
 exact q p _ hp (λb o e=>by rw[ao (au e hp),ao (au e hp)];exact e) aA
def wR:FnScope ["_law_pen_here","_law_many","_law_digit","_law_at","_law_cell","_law_number"] ["_law_pen_here","_law_many"] (aB (top 28)):=zC
def Gy(F:Fun K "_law_draw" "_law_draw" (top 28) f fd)(B:Dl.Bn mg):FnOk P w K mg base CX0 1 f fd ["_law_pen_here","_law_many"] (spP (CP K) uD):=by
 refine F.ok wR mJ (λcdv A outer s H vs Q E hr h=>?_)
 obtain⟨_,vs',ds,P,⟨p,sc,ns,b,hps,hbK,rfl⟩,rfl,⟨⟨a,r,hp⟩,hsc⟩,rp,⟨m,rfl,m0,m30,hP⟩,q0⟩:=h
 obtain rfl:vs'=[.int m]:=by
  cases rp with
  |cons h1 t=>cases h1;cases t;rfl
 have nd:=wR.nd
 have hu:=Nz hr
 refine⟨_,aO (sY (jO Cp (fH hu (pv 0) cR (λ_ _=>rfl)) aZ (dR _))
   (aO (eF (i:=2) nd rfl (Ļ rfl) (cu iI (fH hu (pv 0) cR (λ_ _=>rfl)) (pv 1)))
   (aO (qI hu (pv 0) cR (cu tD (fH hu (pv 0) cR (λ_ _=>rfl)) (pv 1)) rfl)
   (cH (iC (pv 2))))) jP)
  (aO (eF (i:=3) nd rfl (Ļ rfl) (fH hu (pv 0) cR (λ_ _=>rfl)))
  (aO (qI hu (pv 0) cR (cu iJ (pv 3) aZ) rfl)
  (aO (eF (i:=4) nd rfl (Ļ rfl) (cu iJ (cu kZ aZ (pv 3)) aZ))
  (aO (sY (jO (JC hr.units) (fH hu (pv 0) cR (λ_ _=>rfl)) (BR bA) (dR _))
   (cH (eF (i:=4) nd rfl (Ļ rfl) (BX rD (fH hu (pv 0) cR (λ_ _=>rfl)) (cu iI (pv 3) (bQ gR rfl B.len PySem.boot_len (aF (fH hu (pv 0) cR (λ_ _=>rfl)) bA))) (λ_ _=>rfl)))) jP)
  (PSs.wk (t':=tDr K p sc ns) (aO (sY (PW.pt (Jj (jO Cj (pv 3) (bQ gR rfl B.len PySem.boot_len (aF (fH hu (pv 0) cR (λ_ _=>rfl)) bA)) (dR _)) (FZ (jO M5 (bQ oN rfl B.abs Dl.boot_abs (aF (pv 4) bA)) (cu Ci aZ aZ) (dR _)))))
   (aO (qI hu (pv 0) cR (cu tD (bQ oN rfl B.abs Dl.boot_abs (aF (pv 4) bA)) (pv 1)) rfl)
   (cH (iC (cu iI (bQ oN rfl B.abs Dl.boot_abs (aF (pv 4) bA)) (pv 1))))) jP)
  (aO (eF (i:=5) nd rfl (Ļ rfl) (cu iI (cu kZ (cu iJ (cu iJ (cu iI (pv 4) aZ) (cu kZ aZ (pv 3))) aZ) aZ) aZ))
  (aO (eF (i:=5) nd rfl (Ļ rfl) (cu iI (cu iJ (cu iJ (cu kZ (pv 5) (pv 5)) (cu kZ aZ (pv 3))) aZ) aZ))
  (cH (iC (cu iI (cu Gm (pv 5) aZ) (pv 1))))))) ?dr))))),?_⟩
 case dr =>
  rintro D σ H' ⟨a2,a5,m,i,cell,a,r,rfl,m0,m30,hp,hS,hq⟩
  have md:∀x:Int,0<=x % m/\x % m<m:=λx=>⟨Ŧ _ (by omega),Ŏ _ m0⟩
  refine⟨_,rfl,_,rfl,p,_,rfl,j5 hp,sc,_,rfl,.inl hS,_,_,rfl,rfl,_,rfl,Kh (λc1=>⟨_,rfl,cell,rfl,_,_,rfl,rfl,⟨by decide,by decide,by decide⟩,_,_,rfl,rfl,_,rfl,Kh (λc2=>?_) (λc2=>?_)⟩) (λc1=>cI ?_)⟩
  ·exact⟨_,rfl,cell,rfl,_,rfl,_,_,rfl,rfl,⟨m0,m30⟩,_,rfl,p,_,rfl,Aj _ hp,_,rfl,cell,rfl,_,rfl,_,_,rfl,rfl,m0,(hq _ (md _).1 (md _).2).2 _⟩
  all_goals
   refine⟨_,rfl,_,_,rfl,rfl,(by show(0:Int)<2147483629;decide),_,rfl,_,_,rfl,rfl,.inl ⟨by decide,by decide⟩,_,_,rfl,rfl,_,_,rfl,rfl,_,_,rfl,rfl,.inr ⟨by decide,by decide⟩,_,_,rfl,rfl,(by show(0:Int)<2147483647;decide),?_⟩
   refine⟨_,rfl,_,rfl,_,_,rfl,rfl,.inl (JT (by decide) (by decide)),_,rfl,_,_,rfl,rfl,.inl ⟨by decide,by decide⟩,_,_,rfl,rfl,_,_,rfl,rfl,_,_,rfl,rfl,(by show(0:Int)<2147483587;decide),?_⟩
   exact⟨_,rfl,_,_,rfl,rfl,⟨by decide,by decide⟩,_,rfl,_,_,rfl,rfl,m0,(hq _ (md _).1 (md _).2).1⟩
 have md:∀x:Int,0<=x % m/\x % m<m:=λx=>⟨Ŧ _ (by omega),Ŏ _ m0⟩
 have fin:∀(H':Hp) (r:Int),0<=r->r<m->(∀b o,H b=some o->b≠p->H' b=some o)->(∃a l,H' p=some (.dK (bZ sc a l)))->Q (.int r) H':=λH' r h1 h2 k ⟨a',l',e⟩ =>
  q0 _ _ _ (hP r h1 h2) (λb o e n=>k b o e λz=>n (.inl z)) ⟨⟨a',l',e⟩,λeb=>by
   rcases hsc eb with z|⟨o,z⟩
   ·exact .inl (k _ _ z (é (hps eb)))
   ·exact .inr ⟨o,k _ _ z (é (hps eb))⟩⟩ (.int r)
 have kU:∀(H1:Hp) (o:HO),(∀b o,H b=some o->b≠p->H1 b=some o)->∀b u,H b=some u->b≠p->upd H1 p o b=some u:=λH1 o k b u e n=>by rw[ao n];exact k b u e n
 refine⟨_,rfl,p,_,rfl,v9 hp,_,_,rfl,rfl,_,rfl,Kh (λc1=>?_) (λc1=>?_)⟩
 ·exact⟨_,rfl,p,_,rfl,v9 hp,_,rfl,_,_,rfl,rfl,m0,_,rfl,p,_,rfl,v9 hp,_,rfl,_,_,rfl,rfl,⟨m0,m30⟩,_,rfl,p,_,rfl,Aj _ hp,_,rfl,fin _ _ (md _).1 (md _).2 (kU _ _ λb o e _=>e) ⟨_,_,aA⟩⟩
 ·have hp1:upd H p (.dK (bZ sc (a+1) r)) p=some (.dK (bZ sc (a+1) r)):=aA
  have k1:=kU H (.dK (bZ sc (a+1) r)) λb o e _=>e
  have r1:b=true->Rd (upd H p (.dK (bZ sc (a+1) r))) sc (.lst (ns.map V.int)):=λe=>Bp (hsc e) (hps e)
  refine⟨_,rfl,p,_,rfl,Pg hp,_,rfl,_,_,rfl,rfl,_,rfl,p,_,rfl,Oh _ hp,?_⟩
  refine⟨_,rfl,_,_,rfl,rfl,.inl ⟨by decide,by decide⟩,_,_,rfl,rfl,?_⟩
  refine⟨_,rfl,p,_,rfl,j5 hp1,by decide,λz hz=>?_⟩
  have zp:p≠z:=λe=>by subst e;rw[hp1] at hz;cases hz
  have k2:∀b o,H b=some o->b≠p->upd (upd H p (.dK (bZ sc (a+1) r))) z (.lst []) b=some o:=λb o e n=>by
   have e1:=k1 b o e n
   have bz:b≠z:=λy=>by subst y;rw[e1] at hz;cases hz
   rw[ao bz]
   exact e1
  have hp2:upd (upd H p (.dK (bZ sc (a+1) r))) z (.lst []) p=some (.dK (bZ sc (a+1) r)):=by rw[ao zp];exact hp1
  have r2:b=true->Rd (upd (upd H p (.dK (bZ sc (a+1) r))) z (.lst [])) sc (.lst (ns.map V.int)):=λe=>Bp (r1 e) (λy=>by
   subst y
   rcases r1 e with y|⟨o,y⟩ <;> rw[hz] at y <;> cases y)
  have hS2:SqL K (upd (upd H p (.dK (bZ sc (a+1) r))) z (.lst [])) sc (ns.map V.int):=Jp r2 hbK
  have dr:∀cell,tDr K p sc ns { nx:=λ_ H'=>Q .non H',rt:=Q } [some (.ref p),some (.int m),none,some (.int a),some (.int cell),none] (upd (upd H p (.dK (bZ sc (a+1) r))) z (.lst [])):=λcell =>
   ⟨_,_,m,a,cell,_,_,rfl,m0,m30,hp2,hS2,λr' h1 h2=>⟨fin _ _ h1 h2 k2 ⟨_,_,hp2⟩,λb=>fin _ _ h1 h2 (kU _ _ k2) ⟨_,_,aA⟩⟩⟩
  refine⟨iD ns,iD [],_,.flt hS2,.flt (l:=[]) (SqL.of aA),rfl,_,rfl,?_⟩
  rw[uG]
  by_cases hn:ns=[]
  ·subst hn
   exact cI (dr _)
  ·have c0:(0:Int)<(((ns.map V.int).length:Nat):Int):=by
    rw[Á]
    have:=Ť.mpr hn
    omega
   rw[show(if true=true then !decide (ns=[]) else decide (ns=[]))=true by rw[decide_eq_false hn];rfl]
   obtain⟨v,hv⟩:=Ho (i:=a) (ns:=ns) c0
   exact bw ⟨_,rfl,p,_,rfl,j5 hp2,_,rfl,_,rfl,p,_,rfl,j5 hp2,sc,_,rfl,.inl hS2,_,_,rfl,rfl,c0,sc,_,_,_,rfl,rfl,hS2,hv,dr v⟩
def sU:FnScope ["_law_pen_here","_law_n","_law_found","_law_k"] ["_law_pen_here","_law_n"] (aB (top 29)):=zC
def Cv(F:Fun K "_law_order" "_law_order" (top 29) f fd)(B:Dl.Bn mg)(T:Dl.Cal P w K mg base 1 "_law_draw" ["_law_pen_here","_law_many"] (spP (CP K) uD)):FnOk P w K mg base CX0 2 f fd ["_law_pen_here","_law_n"] (spP (CP K) wz):=by
 refine F.ok sU mJ (λcdv A outer s H vs Q E hr h=>?_)
 have nd:=sU.nd
 refine⟨_,aC (bV (some 0) (eF (i:=2) nd rfl (Ļ rfl) (aU ak)))
  (aC (iW Ė rfl (cW B.range (aj (dv 1) ak)) (aN (mq (i:=3) nd rfl (Ļ rfl)))
   (aD (zx (i:=2) (gF (tu ħ PySem.F.slot_list_insert PySem.F.type_list_insert yK (pv 2) (aj (dcP T hr (pv 0) (aj (Jv (dv 3) aq) ak)) (aj (dv 3) ak)))))))
  (aD (aG (dv 2)))),enterQ h ?_⟩
 rintro ds P ⟨n,rfl,n0,n16,q⟩
 refine⟨[.im (.int n),.any,.any],rfl,?_⟩
 refine⟨by decide,⟨by omega,by omega⟩,rfl,λ(i:Nat) ρ=>∃(l:List Int) (s:Sl),IsOrd i l/\s.region=none/\ρ=[.pen (CP K),.im (.int n),.dw 0 (.list (l.map Â)),s],⟨[],.any,⟨rfl,λx hx=>(nomatch hx),.nil⟩,rfl,rfl⟩,?_,?_⟩
 ·rintro i d ρ hd ⟨l,s,hl,hs,rfl⟩
  obtain⟨hi,rfl⟩:=pX hd
  have hlen:=hl.len
  refine⟨rfl,_,rfl,by omega,by omega,λr r0 r1=>⟨rfl,r0,?_,?_,?_⟩⟩
  ·rw[Á];omega
  ·rw[Á];omega
  ·refine⟨l.take r.toNat++((i:Nat):Int)::l.drop r.toNat,.im (.int (0+((i:Nat):Int))),hl.ins r.toNat,rfl,?_⟩
   show [Sl.pen (CP K),Sl.im (.int n),Sl.dw 0 (.list ((l.map Â).take r.toNat++Â (0+((i:Nat):Int))::(l.map Â).drop r.toNat)),Sl.im _]=_
   rw[Đ,Ą,List.map_take,List.map_drop,Int.zero_add]
 ·rintro ρ ⟨l,s,hl,hs,rfl⟩
  rw[d9] at hl
  have e:((n.toNat:Nat):Int)=n:=by omega
  rw[e] at hl
  exact⟨rfl,q l hl⟩
end
def Eo(ds:List D)(P:D->Prop):Prop:=∃n:Int,ds=[.int n]/\1<=n/\n<=16/\∀us:List Tie,us.length<=40->InT n us->P (.list (us.map pD))
structure IsFam(n:Int)(ls:List (List Int)):Prop where
 few:ls.length<=16
 len:∀l∈ls,l.length<=16
 one:∀l∈ls,∀x∈l,0<=x/\x<n
 le:∀l∈ls,l.Pairwise (·<=·)
def NT(ds:List D)(P:D->Prop):Prop:=∃n:Int,ds=[.int n]/\1<=n/\n<=16/\∀ls,IsFam n ls->ls≠[]->P (.list (ls.map iL))
def lay_ints:∀ns:List Int,Ĉ (ns.map Â)=true
 |[]=>rfl
 |n::ns=>lay_ints ns
def oF:∀ns:List Int,ö (ns.map Â)<=0
 |[]=>Æ _
 |n::ns=>by
  show max 0 (ö (ns.map Â))<=0
  have:=oF ns
  omega
def CJ(ns:List Int):okD (.list (ns.map Â))=true:=by
 have h1:=lay_ints ns
 have h2:ö (ns.map Â)+1<=60:=by have:=oF ns;omega
 show(Ĉ (ns.map Â)&&decide (ö (ns.map Â)+1<=60))=true
 rw[h1,decide_eq_true h2]
 rfl
def wC{α:Type}(l:List α)(m:Nat):cj l none (some ((m:Nat):Int))=l.take m:=by
 unfold cj
 rw[show HT.sIx l.length 0 none=0 from rfl,HT.lW,List.drop_zero,Nat.sub_zero]
 exact List.take_eq_take_min.symm
def Fe{α:Type}(l:List α)(m:Nat):cj l (some ((m:Nat):Int)) none=l.drop m:=by
 unfold cj
 rw[show HT.sIx l.length l.length none=l.length from rfl,HT.lW]
 rw[List.take_of_length_le (by rw[ā];exact Æ _)]
 by_cases h:m<=l.length
 ·rw[Nat.min_eq_left h]
 ·rw[Nat.min_eq_right (by omega),List.drop_of_length_le (Æ _),List.drop_of_length_le (by omega)]
section
variable {P:Program}{w:World}{K:Ê}{mg:Str->Option Value}{base:Heap}{f:Addr}{fd:FuncData}{CN:Addr}
def jL:FnScope ["_law_pen_here","_law_n","_law_found","_law_most","_law_k","_law_a"] ["_law_pen_here","_law_n"] (aB (top 31)):=zC
def rm(F:Fun K "_law_pairs" "_law_pairs" (top 31) f fd)(B:Dl.Bn mg)(C__law_draw:Dl.Cal P w K mg base 1 "_law_draw" ["_law_pen_here","_law_many"] (spP (CP K) uD)):FnOk P w K mg base CX0 2 f fd ["_law_pen_here","_law_n"] (spP (CP K) Eo):=by
 refine F.ok jL mJ (λcdv A outer s H vs Q E hr h=>?_)
 have nd:=jL.nd
 refine⟨_,Wr.WDSs.h (Wr.aC (Wr.bV (some 0) (i:=2) nd rfl zQ (Wr.aU Wr.ak))
  (Wr.aC (Wr.bV none (i:=3) nd rfl zQ (Wr.aQ (Wr.aU (Wr.aj Wr.aq (Wr.aj Wr.aq Wr.ak))) (Wr.jh B.int boot_int (Wr.aj (Wr.gK hr.units (Wr.dcP C__law_draw hr (Wr.wv 0) (Wr.aj Wr.aq Wr.ak)) Wr.aq) Wr.ak))))
  (Wr.aC (Wr.iW Ė rfl (Wr.cW B.range (Wr.aj (Wr.iH (Wr.dcP C__law_draw hr (Wr.wv 0) (Wr.aj (Wr.dv 3) Wr.ak)) (Wr.jh B.int boot_int (Wr.aj (Wr.Cg (Wr.dv 1) Wr.aq) Wr.ak))) Wr.ak)) (Wr.aN (i:=4) nd rfl zQ) (Wr.aC (Wr.bV none (i:=5) nd rfl zQ (Wr.dcP C__law_draw hr (Wr.wv 0) (Wr.aj (Wr.dv 1) Wr.ak)))
  (Wr.aC (Wr.jl (Wr.wv 2) (Wr.aj (Wr.bR (Wr.aj (Wr.dv 5) (Wr.aj (Wr.vJ (Wr.aR (Wr.aR (Wr.dv 5) Wr.aq) (Wr.dcP C__law_draw hr (Wr.wv 0) (Wr.aj (Wr.qM (Wr.dv 1) Wr.aq) Wr.ak))) (Wr.dv 1)) Wr.ak))) Wr.ak)) (Wr.bU [4,5] Wr.aL))))
  (Wr.bU [4,5] (Wr.aD (Wr.aG (Wr.dv 2))))))),enterQ h ?_⟩
 rintro ds P ⟨n,rfl,n1,n16,q⟩
 refine⟨[.im (.int n),.any,.any,.any,.any],rfl,?_⟩
 refine⟨zK,zK,rfl,4,rfl,by decide,by decide,λr r0 r1=>?_⟩
 obtain⟨m,hm,m0,m1⟩:∃m:Int,atI [Â 9,Â 41] (if decide (r=0)=true then 1 else 0)=some (.int m)/\1<=m/\m<=41:=by
  by_cases c:r=0
  ·rw[decide_eq_true c]
   exact⟨41,rfl,by decide,by decide⟩
  ·rw[decide_eq_false c]
   exact⟨9,rfl,by decide,by decide⟩
 refine⟨.int m,hm,rfl,m,rfl,by omega,by omega,λr2 a0 a1=>?_⟩
 refine⟨.inl ⟨by omega,by omega⟩,?_⟩
 show _/\_
 generalize hc:r2 * (if decide (1<n)=true then 1 else 0)=c
 have c0:0<=c/\c<=40/\(0<c->1<n):=by
  rw[←hc]
  by_cases z:1<n
  ·rw[decide_eq_true z,if_pos rfl,Int.mul_one]
   exact⟨by omega,by omega,λ_=>z⟩
  ·rw[decide_eq_false z,if_neg (by decide),Int.mul_zero]
   exact⟨by decide,by decide,λy=>absurd y (by decide)⟩
 refine⟨⟨by omega,by omega⟩,rfl,λ(i:Nat) ρ=>∃ts:List Tie,ρ=[.pen (CP K),.im (.int n),.dw 0 (.list (ts.map pD)),.im (.int m),.any,.any]/\ts.length=i/\InT n ts,⟨[],rfl,rfl,λt ht=>nomatch ht⟩,?_,?_⟩
 ·rintro i d ρ hd ⟨ts,rfl,lt,ok⟩
  obtain⟨hi,rfl⟩:=pX hd
  have n2:1<n:=c0.2.2 (by omega)
  refine⟨rfl,n,rfl,by omega,by omega,λa a0 a1=>?_⟩
  refine⟨rfl,n - 1,rfl,by omega,by omega,λb b0 b1=>?_⟩
  have md0:=Ŧ (a+1+b) (b:=n) (by omega)
  have md1:=Ŏ (a+1+b) (b:=n) (by omega)
  refine⟨by omega,zK,rfl,by rw[Á];omega,ts++[(a,(a+1+b) % n)],?_,by rw[Ð,í,lt],λt ht=>?_⟩
  ·show([.pen (CP K),.im (.int n),.dw 0 (.list (ts.map pD++[pD (a,(a+1+b) % n)])),.im (.int m),.any,.any]:List Sl)=_
   rw[Đ]
   rfl
  ·rcases è.mp ht with z|z
   ·exact ok t z
   ·rw[ý.mp z]
    exact⟨⟨a0,a1⟩,⟨md0,md1⟩⟩
 ·rintro ρ ⟨ts,rfl,lt,ok⟩
  rw[d9] at lt
  exact⟨rfl,q ts (by omega) ok⟩
def jq:FnScope ["_law_pen_here","_law_n","_law_left","_law_found","_law_many"] ["_law_pen_here","_law_n"] (aB (top 33)):=zC
def oZ(F:Fun K "_law_family" "_law_family" (top 33) f fd)(B:Dl.Bn mg)(C__law_order:Dl.Cal P w K mg base 2 "_law_order" ["_law_pen_here","_law_n"] (spP (CP K) wz))(C__law_draw:Dl.Cal P w K mg base 1 "_law_draw" ["_law_pen_here","_law_many"] (spP (CP K) uD)):FnOk P w K mg base CX0 3 f fd ["_law_pen_here","_law_n"] (spP (CP K) NT):=by
 refine F.ok jq mJ (λcdv A outer s H vs Q E hr h=>?_)
 have nd:=jq.nd
 refine⟨_,Wr.WDSs.h (Wr.aC (Wr.bV none (i:=2) nd rfl zQ (Wr.dcP C__law_order hr (Wr.wv 0) (Wr.aj (Wr.dv 1) Wr.ak)))
  (Wr.aC (Wr.bV (some 0) (i:=3) nd rfl zQ (Wr.aU Wr.ak))
  (Wr.aC (Wr.oA Ė (Wr.gG hr.units (Wr.dv 2) (Wr.aU Wr.ak)) (Wr.aC (Wr.bV none (i:=4) nd rfl zQ (Wr.aR Wr.aq (Wr.dcP C__law_draw hr (Wr.wv 0) (Wr.aj Wr.aq Wr.ak))))
  (Wr.aC (Wr.jl (Wr.wv 3) (Wr.aj (Wr.eN B.sorted (Wr.aj (Wr.fK (Wr.dv 2) Wr.cJ (Wr.bO (Wr.dv 4))) Wr.ak)) Wr.ak))
  (Wr.aC (Wr.bV none (i:=2) nd rfl zQ (Wr.fK (Wr.dv 2) (Wr.bO (Wr.aR (Wr.dv 4) (Wr.dcP C__law_draw hr (Wr.wv 0) (Wr.aj Wr.aq Wr.ak)))) Wr.cJ)) (Wr.bU [4] Wr.aL)))))
  (Wr.bU [2,4] (Wr.aD (Wr.aG (Wr.dv 3))))))),enterQ h ?_⟩
 rintro ds P ⟨n,rfl,n1,n16,q⟩
 refine⟨[.im (.int n),.any,.any,.any],rfl,?_⟩
 refine⟨rfl,n,rfl,by omega,by omega,λl ol=>?_⟩
 refine⟨zK,?_⟩
 refine⟨λm ρ=>∃(l:List Int) (ls:List (List Int)),ρ=[.pen (CP K),.im (.int n),.sn (iL l),.dw 0 (.list (ls.map iL)),.any]/\m=l.length/\ls.length+l.length<=16/\(∀x∈l,0<=x/\x<n)/\IsFam n ls/\(l=[]->ls≠[]),⟨_,l,[],rfl,rfl,?_,?_,⟨by decide,(λl h=>nomatch h),(λl h=>nomatch h),(λl h=>nomatch h)⟩,?_⟩,?_⟩
 ·have:=ol.len
  show 0+l.length<=16
  omega
 ·exact ol.rng
 ·intro z
  have:=ol.len
  rw[z] at this
  exact absurd this (by show ¬((0:Nat):Int)=n;omega)
 ·rintro m ρ ⟨l,ls,rfl,rfl,hs,hl,fam,ne⟩
  refine⟨by decide,?_⟩
  refine⟨CJ l,rfl,?_⟩
  show if (!PyData.eqv (iL l) (iL []))=true then _ else _
  rw[show Ũ (iL l) (iL [])=decide (l=[]) from uG l []]
  by_cases hz:l=[]
  ·rw[decide_eq_true hz]
   exact cI (A:=True) ⟨rfl,q ls fam (ne hz)⟩
  rw[decide_eq_false hz]
  refine bw (B:=True) ?_
  refine⟨rfl,4,rfl,by decide,by decide,λr r0 r1=>?_⟩
  obtain⟨r,rfl⟩:=Ī r0
  have lp:=Ť.mpr hz
  have e1:cj (l.map Â) none (some (1+((r:Nat):Int)))=(l.take (1+r)).map Â:=by
   rw[show 1+((r:Nat):Int)=(((1+r:Nat):Nat):Int) by omega,wC,List.map_take]
  show uL (Hr 3 (tCl rH (dH (Iz (tV 2) CZ (CW (tV 4))) jF))) _ _ [.pen (CP K),.im (.int n),.sn (iL l),.dw 0 (.list (ls.map iL)),.im (.int (1+((r:Nat):Int)))]
  refine .inl ⟨by rw[e1];exact bC _,?_⟩
  rw[e1]
  refine⟨l.take (1+r),rfl,by rw[Ĕ];omega,λout hp ho=>⟨rfl,by rw[Á];omega,?_⟩⟩
  refine⟨rfl,3,rfl,by decide,by decide,λr2 a0 a1=>?_⟩
  obtain⟨r2,rfl⟩:=Ī a0
  have e2:cj (l.map Â) (some (1+((r:Nat):Int)+((r2:Nat):Int))) none=(l.drop (1+r+r2)).map Â:=by
   rw[show 1+((r:Nat):Int)+((r2:Nat):Int)=(((1+r+r2:Nat):Nat):Int) by omega,Fe,List.map_drop]
  refine .inl ⟨by rw[e2];exact bC _,?_⟩
  rw[e2]
  have ow:∀x∈out,0<=x/\x<n:=λx hx=>hl x (List.mem_of_mem_take (hp.mem_iff.mp hx))
  have ol:out.length<=16:=by
   rw[hp.length_eq,Ĕ]
   omega
  refine⟨(l.drop (1+r+r2)).length,by rw[ā];omega,l.drop (1+r+r2),ls++[out],?_,rfl,by rw[Ð,í,ā];omega,λx hx=>hl x (List.mem_of_mem_drop hx),⟨by rw[Ð,í];omega,?_,?_,?_⟩,λ_ z=>by simp at z⟩
  ·show([.pen (CP K),.im (.int n),.sn (iL (l.drop (1+r+r2))),.dw 0 (.list (ls.map iL++[iL out])),.any]:List Sl)=_
   rw[Đ]
   rfl
  all_goals
   intro k hk
   rcases è.mp hk with hk|hk
  ·exact fam.len k hk
  ·rw[ý.mp hk];exact ol
  ·exact fam.one k hk
  ·rw[ý.mp hk];exact ow
  ·exact fam.le k hk
  ·rw[ý.mp hk];exact ho
end
def hI(o:List Int):Int:=o.getD 0 0
def CV(o:List Int):List D:=[.none,.int ((o.length:Nat):Int),.bool true,.str "0",.tuple (o.map Â),.dict [],.list (o.map Â++[.int 0]),.list (.int ((o.length:Nat):Int)::(o.drop 1).map Â),.list (.int (-1)::(o.drop 1).map Â),.list (.none::(o.drop 1).map Â)]
def CQ(o:List Int):List D:=[.list (.str (á (toString (hI o)))::(o.drop 1).map Â),.list (.list [.int (hI o)]::(o.drop 1).map Â),.list (o.dropLast.map Â++[.int (10 ^ 29)]),.tuple [iL o]]
def JQ(o:List Int):List D:=[.list ((o.drop 1).map Â++((o.drop 1).take 1).map Â),.list ((È o.length (hI o)).map Â),.list (o.map λx=>.bool (decide (x=1)))]
def tM(o:List Int):List D:=if 1<((o.length:Nat):Int) then (CV o++CQ o)++JQ o else CV o++CQ o
def Kz(ds:List D)(P:D->Prop):Prop:=∃o:List Int,ds=[iL o]/\Ord o/\1<=o.length/\P (.list (tM o))
def rN{P:DEnds}{ρ:List Sl}{rg:Option Nat}{i:Nat}{k:Kd}{d:D}{s:Sl}(e:Dl.stK rg ρ i (norm k d) d=some s)(h:P.nx (ρ.set i s)):(match Dl.stK rg ρ i (norm k d) d with
 |some s=>P.nx (ρ.set i s)
 |none=>False):=by
 rw[e]
 exact h
section
variable {P:Program}{w:World}{K:Ê}{mg:Str->Option Value}{base:Heap}{f:Addr}{fd:FuncData}{CN:Addr}
def gn:FnScope ["_law_order_here","_law_n","_law_some"] ["_law_order_here"] (aB (top 39)):=zC
def jz:(["_law_one","_law_order_here","_law_n","_law_some"]:List Str).Nodup:=by decide +kernel
def lg(F:Fun K "_law_no_orders" "_law_no_orders" (top 39) f fd)(B:Dl.Bn mg)(m_str:mg "str"=none):FnOk P w K mg base CX0 1 f fd ["_law_order_here"] (spR Kz):=by
 refine F.ok gn G4 (λcdv A outer s H vs Q E hr h=>?_)
 have nd:=gn.nd
 refine⟨_,Dl.WR.h (Dl.lY (Wr.bV none (i:=1) nd rfl zQ (Wr.fX B.len (Wr.aj (Wr.dv 0) Wr.ak)))
  (Dl.lY (Wr.bV none (i:=2) nd rfl zQ (Wr.aU (Wr.aj Wr.kW (Wr.aj (Wr.dv 1) (Wr.aj Wr.jr (Wr.aj Wr.nu (Wr.aj (Wr.dZ B.tuple (Wr.aj (Wr.dv 0) Wr.ak)) (Wr.aj Wr.qX (Wr.aj (Wr.aR (Wr.dv 0) (Wr.aU (Wr.aj Wr.aq Wr.ak))) (Wr.aj (Wr.aR (Wr.aU (Wr.aj (Wr.dv 1) Wr.ak)) (Wr.fK (Wr.dv 0) (Wr.bO Wr.aq) Wr.cJ)) (Wr.aj (Wr.aR (Wr.aU (Wr.aj (Wr.qQ Wr.aq) Wr.ak)) (Wr.fK (Wr.dv 0) (Wr.bO Wr.aq) Wr.cJ)) (Wr.aj (Wr.aR (Wr.aU (Wr.aj Wr.kW Wr.ak)) (Wr.fK (Wr.dv 0) (Wr.bO Wr.aq) Wr.cJ)) Wr.ak))))))))))))
  (Dl.lY (Wr.bV none (i:=2) nd rfl zQ (Wr.aR (Wr.dv 2) (Wr.aU (Wr.aj (Wr.aR (Wr.aU (Wr.aj (Wr.qO m_str (Wr.aj (Wr.aQ (Wr.dv 0) Wr.aq) Wr.ak)) Wr.ak)) (Wr.fK (Wr.dv 0) (Wr.bO Wr.aq) Wr.cJ)) (Wr.aj (Wr.aR (Wr.aU (Wr.aj (Wr.aU (Wr.aj (Wr.aQ (Wr.dv 0) Wr.aq) Wr.ak)) Wr.ak)) (Wr.fK (Wr.dv 0) (Wr.bO Wr.aq) Wr.cJ)) (Wr.aj (Wr.aR (Wr.fK (Wr.dv 0) Wr.cJ (Wr.bO (Wr.qQ Wr.aq))) (Wr.aU (Wr.aj (Wr.qP Wr.aq Wr.aq) Wr.ak))) (Wr.aj (Wr.bR (Wr.aj (Wr.dv 0) Wr.ak)) Wr.ak)))))))
  (Dl.lY (Wr.bW (Wr.vI (Wr.dv 1) Wr.aq) (Wr.aD (Wr.bV none (i:=2) nd rfl zQ (Wr.aR (Wr.dv 2) (Wr.aU (Wr.aj (Wr.aR (Wr.fK (Wr.dv 0) (Wr.bO Wr.aq) Wr.cJ) (Wr.fK (Wr.dv 0) (Wr.bO Wr.aq) (Wr.bO Wr.aq))) (Wr.aj (Wr.iH (Wr.fK (Wr.dv 0) Wr.cJ (Wr.bO Wr.aq)) (Wr.dv 1)) (Wr.aj (Wr.cZ ["_law_one"] rfl (Wr.dD (Wr.dv 0)) (λc=>(Wr.aN (i:=0) jz rfl zQ)) (λc=>Wr.bN) (λc=>(Wr.gK hr.units (Wr.dv 0) Wr.aq))) Wr.ak))))))) Wr.aL)
  (Dl.Jh (Wr.dv 2)))))),KR h ?_⟩
 rintro ds P ⟨o,rfl,ho,o1,q⟩
 have few:=ho.few
 have cf:cj (o.map Â) (some 1) none=(o.drop 1).map Â:=by
  rw[show(1:Int)=((1:Nat):Int) from rfl,Fe,List.map_drop]
 have lc:(cj (o.map Â) (some 1) none).length<=20:=by
  rw[cf,Á,ā]
  omega
 have ic:cC (cj (o.map Â) (some 1) none)=true:=by
  rw[cf]
  exact bC _
 have i1:∀x:D,eZ x=true->cC ([x]++cj (o.map Â) (some 1) none)=true:=λx hx=>by
  show(eZ x&&cC (cj (o.map Â) (some 1) none))=true
  rw[hx,ic]
  rfl
 have i7:cC (o.map Â++[.int 0])=true:=by
  have:=bC (o++[0])
  rw[Đ] at this
  exact this
 have l1:∀x:D,([x]:List D).length+(cj (o.map Â) (some 1) none).length<=1000:=λx=>by
  show 1+_<=1000
  omega
 have one:1<=1000:=by decide
 have h0:atI (o.map Â) 0=some (.int (hI o)):=by
  cases o with
  |nil=>exact absurd o1 (by decide)
  |cons x o=>exact j9 (xs:=(x::o).map Â) (j:=0) rfl
 refine⟨[.sh (iL o),.any,.any],rfl,?_⟩
 refine⟨one,by show(o.map Â).length+1<=1000;rw[Á];omega,.inl ⟨i7,?_⟩⟩
 refine⟨one,.inl ⟨ic,l1 _,.inl ⟨i1 _ rfl,one,.inl ⟨ic,l1 _,.inl ⟨i1 _ rfl,one,.inl ⟨ic,l1 _,.inl ⟨i1 _ rfl,zK,?_⟩⟩⟩⟩⟩⟩⟩
 have kt:∀k,norm k (ĺ (o.map Â))=.imm:=λk=>cA (show cC (o.map Â)=true from bC o)
 refine rN (s:=.sn (.list [.none,.int ((o.length:Nat):Int),.bool true,.str "0",.tuple (o.map Â),.dict [],.list (o.map Â++[.int 0]),.list (.int ((o.length:Nat):Int)::cj (o.map Â) (some 1) none),.list (.int (-1)::cj (o.map Â) (some 1) none),.list (.none::cj (o.map Â) (some 1) none)])) ?_ ?_
 ·rw[kt,Á]
  rfl
 have cb:cj (o.map Â) none (some (-1))=o.dropLast.map Â:=by rw[uM,List.map_dropLast]
 have ib:cC (cj (o.map Â) none (some (-1)))=true:=by
  rw[cb]
  exact bC _
 have ib2:cC (cj (o.map Â) none (some (-1))++[.int (10 ^ 29)])=true:=by
  rw[cb]
  have:=bC (o.dropLast++[10 ^ 29])
  rw[Đ] at this
  exact this
 have hl:0<=hI o/\hI o<16:=by
  have:hI o∈o:=by
   cases o with
   |nil=>exact absurd o1 (by decide)
   |cons x o=>exact Ì
  have:=ho.one _ this
  omega
 refine⟨_,h0,?_,one,.inl ⟨ic,l1 _,.inl ⟨i1 _ rfl,_,h0,one,one,.inl ⟨ic,l1 _,.inr ?_⟩⟩⟩⟩
 ·by_cases z:(hI o).natAbs=0
  ·rw[z]
   decide
  ·have:=(Nat.log2_lt (k:=5) z).mpr (by omega)
   omega
 refine .inl ⟨ib,⟨by decide,by decide,by decide⟩,one,by rw[cb,Á,List.length_dropLast];show _+1<=1000;omega,.inl ⟨ib2,one,zK,zK,.inr ?_⟩⟩
 rw[cf,cb]
 have c2:cj (o.map Â) (some 1) (some 2)=((o.drop 1).take 1).map Â:=by
  unfold cj
  rw[show(1:Int)=((1:Nat):Int) from rfl,show(2:Int)=((2:Nat):Int) from rfl,HT.lW,HT.lW,Á,List.map_take,List.map_drop]
  by_cases z:2<=o.length
  ·rw[Nat.min_eq_left o1,Nat.min_eq_left z]
  ·rw[Nat.min_eq_left o1,Nat.min_eq_right (show o.length<=2 by omega),show o.length=1 by omega,List.drop_of_length_le (by rw[Á];omega)]
   rfl
 have c1:cj (o.map Â) none (some 1)=[Â (hI o)]:=by
  cases o with
  |nil=>exact absurd o1 (by decide)
  |cons x o =>
   rw[show(1:Int)=((1:Nat):Int) from rfl,wC]
   rfl
 show Ms _ _ P [.sh (iL o),.im (.int (((o.map Â).length:Nat):Int)),.sh (.list (CV o++CQ o))]
 show if decide (1<(((o.map Â).length:Nat):Int))=true then _ else _
 rw[Á]
 unfold tM at q
 by_cases c:1<((o.length:Nat):Int)
 ·rw[if_pos c] at q
  rw[decide_eq_true c]
  refine bw (B:=True) ?_
  have i3:cC (cj (o.map Â) (some 1) none++cj (o.map Â) (some 1) (some 2))=true:=by
   rw[cf,c2,←Đ]
   exact bC _
  refine .inl ⟨ic,.inl ⟨by rw[c2];exact bC _,by rw[cf,c2,Á,Á,Ĕ,ā];omega,.inl ⟨i3,?_⟩⟩⟩
  refine .inl ⟨by rw[c1];rfl,?_⟩
  have rp:(È ((o.length:Nat):Int).toNat (cj (o.map Â) none (some 1))).flatten=(È o.length (hI o)).map Â:=by
   rw[c1,List.flatten_replicate_singleton,List.map_replicate]
   rfl
  refine⟨by omega,by omega,by rw[c1];show 1 * _<=1000;omega,.inl ⟨by rw[rp];exact bC _,?_⟩⟩
  rw[rp]
  refine gO o Â (λx=>.bool (decide (x=1))) .imm rfl (by omega) (λx hx A B hA=>bw (B:=B) ⟨rfl,hA⟩) ?_
  refine⟨zK,zK,.inr ?_⟩
  rw[cf,c2]
  exact q
 ·rw[if_neg c] at q
  rw[decide_eq_false c]
  exact cI (A:=True) q
end
def Ord.nats{o:List Int}(h:Ord o):(o.map Int.toNat).Perm (Ø o.length):=by
 have nd:(o.map Int.toNat).Nodup:=by
  rw[Ů,List.pairwise_map]
  refine List.Pairwise.imp_of_mem (λ{a b} ha hb n e=>n ?_) h.nd
  have:=h.one a ha
  have:=h.one b hb
  omega
 have sub:∀x∈o.map Int.toNat,x∈Ø o.length:=λx hx=>by
  obtain⟨y,hy,rfl⟩:=ß.mp hx
  have:=h.one y hy
  exact ċ.mpr (by omega)
 refine(List.perm_ext_iff_of_nodup nd List.nodup_range).mpr λx=>⟨sub x,λhx=>?_⟩
 apply Classical.byContradiction
 intro hn
 have:=(Ě.mpr ⟨hn,nd⟩).length_le_of_subset (l₂:=Ø o.length) λy hy=>by
  rcases É.mp hy with rfl|hy
  ·exact hx
  ·exact sub y hy
 rw[ç,Á,ĵ] at this
 omega
def Ord.mem{o:List Int}(h:Ord o){i:Int}(i0:0<=i)(i1:i<((o.length:Nat):Int)):i∈o:=by
 have hx:i.toNat∈o.map Int.toNat:=h.nats.mem_iff.mpr (ċ.mpr (by omega))
 obtain⟨y,hy,e⟩:=ß.mp hx
 have:=h.one y hy
 rw[show i=y by omega]
 exact hy
def nF{es:List D}{x:D}(hx:x∈es)(h:fj ((es.length:Nat):Int) x=false):fC (.list es)=false:=by
 show(es.all _&&_)=false
 rw[List.all_eq_false.mpr ⟨x,hx,by rw[h];exact Î⟩]
 rfl
def nC{l:List Int}(h:¬l.Nodup):fC (iL l)=false:=by
 show((l.map Â).all _&&decide ((l.map Â).map toI).Nodup)=false
 rw[Fv,decide_eq_false h,Bool.and_false]
def j6{es:List D}(h:es.length<=400):Few (.list es):=λ_ e=>by
 cases e
 exact h
def jD{d:D}(h:∀es,d≠.list es):Few d:=λes e=>absurd e (h es)
def JN{o:List Int}(h:Ord o)(o1:1<=o.length){d:D}(hd:d∈tM o):fC d=false/\Few d:=by
 have few:=h.few
 have ld:((o.drop 1).map Â).length=o.length - 1:=by rw[Á,ā]
 have hd1:d∈CV o\/d∈CQ o\/(1<((o.length:Nat):Int)/\d∈JQ o):=by
  unfold tM at hd
  split at hd
  ·rename_i c
   rcases è.mp hd with hd|hd
   ·rcases è.mp hd with hd|hd
    ·exact .inl hd
    ·exact .inr (.inl hd)
   ·exact .inr (.inr ⟨c,hd⟩)
  ·rcases è.mp hd with hd|hd
   ·exact .inl hd
   ·exact .inr (.inl hd)
 have lc:∀x:D,(x::(o.drop 1).map Â).length=o.length:=λx=>by rw[ç,ld];omega
 have hdx:∀x:D,fj ((o.length:Nat):Int) x=false->fC (.list (x::(o.drop 1).map Â))=false/\Few (.list (x::(o.drop 1).map Â)):=λx hx=>⟨nF Ì (by rw[lc];exact hx),j6 (by rw[lc];omega)⟩
 rcases hd1 with hd|hd|⟨c,hd⟩
 ·unfold CV at hd
  simp only[É,Ö,or_false] at hd
  rcases hd with rfl|rfl|rfl|rfl|rfl|rfl|rfl|rfl|rfl|rfl
  ·exact⟨rfl,jD λ_ z=>nomatch z⟩
  ·exact⟨rfl,jD λ_ z=>nomatch z⟩
  ·exact⟨rfl,jD λ_ z=>nomatch z⟩
  ·exact⟨rfl,jD λ_ z=>nomatch z⟩
  ·exact⟨rfl,jD λ_ z=>nomatch z⟩
  ·exact⟨rfl,jD λ_ z=>nomatch z⟩
  ·have e:å (o.map Â++[.int 0])=iL (o++[0]):=by
    unfold iL
    rw[Đ]
    rfl
   rw[e]
   refine⟨nC λz=>?_,oh (by rw[Ð,í];omega)⟩
   rw[List.nodup_append] at z
   exact z.2.2 0 (h.mem (by omega) (by omega)) 0 Ì rfl
  ·exact hdx _ (show decide (0<=((o.length:Nat):Int)/\((o.length:Nat):Int)<((o.length:Nat):Int))=false from decide_eq_false (by omega))
  ·exact hdx _ (show decide ((0:Int)<=-1/\(-1:Int)<((o.length:Nat):Int))=false from decide_eq_false (by omega))
  ·exact hdx _ rfl
 ·unfold CQ at hd
  simp only[É,Ö,or_false] at hd
  rcases hd with rfl|rfl|rfl|rfl
  ·exact hdx _ rfl
  ·exact hdx _ rfl
  ·have ll:(o.dropLast.map Â++[Â (10 ^ 29)]).length=o.length:=by
    rw[Ð,Á,List.length_dropLast,í]
    omega
   exact⟨nF (x:=.int (10 ^ 29)) (Ý _ Ì) (by rw[ll];exact(show decide ((0:Int)<=10 ^ 29/\(10 ^ 29:Int)<((o.length:Nat):Int))=false from decide_eq_false (by omega))),j6 (by rw[ll];omega)⟩
  ·exact⟨rfl,jD λ_ z=>nomatch z⟩
 ·have o2:2<=o.length:=by omega
  unfold JQ at hd
  simp only[É,Ö,or_false] at hd
  rcases hd with rfl|rfl|rfl
  ·have e:å ((o.drop 1).map Â++((o.drop 1).take 1).map Â)=iL (o.drop 1++(o.drop 1).take 1):=by
    unfold iL
    rw[Đ]
   rw[e]
   refine⟨nC λz=>?_,oh (by rw[Ð,Ĕ,ā];omega)⟩
   rw[List.nodup_append] at z
   match o,o2,z with
   |x::y::o,_,z=>exact z.2.2 y Ì y Ì rfl
  ·refine⟨nC λz=>?_,oh (by rw[ğ];omega)⟩
   match o,o2,z with
   |x::y::o,_,z =>
    rw[show(x::y::o).length=o.length+1+1 from rfl,ĉ,ĉ,Ě] at z
    exact z.1 Ì
  ·have ll:(o.map λx=>ů (decide (x=1))).length=o.length:=Á _
   refine⟨nF (x:=.bool (decide (hI o=1))) ?_ rfl,j6 (by rw[ll];omega)⟩
   match o,o1 with
   |x::o,_=>exact Ì
def FT{o:List Int}(h:Ord o)(o1:1<=o.length){d:D}(hd:d∈tM o)(n k:Int):vB n k d=false/\Few d:=by
 obtain⟨a,b⟩:=JN h o1 hd
 refine⟨?_,b⟩
 unfold vB q9
 rw[a]
 split <;> rfl
def sX{n k:Int}{es:List D}(hk:k<2)(hl:((es.length:Nat):Int)≠n):vB n k (.list es)=false:=by
 unfold vB
 rw[if_pos hk]
 show(fC (.list es)&&decide (((es.length:Nat):Int)=n))=false
 rw[decide_eq_false hl,Bool.and_false]
structure RefN(K:Ê)(mg:Str->Option Value)(CN CF c1 c2 c3 c4 c5 c6 c7 c8 c9:Addr):Prop where
 mF:mg "FallError"=some (.ref CF)
 mN:mg "NoOrder"=some (.ref CN)
 m1:mg "NoBack"=some (.ref c1)
 m2:mg "NoOffers"=some (.ref c2)
 m3:mg "NoPlace"=some (.ref c3)
 m4:mg "NoRow"=some (.ref c4)
 m5:mg "NoSet"=some (.ref c5)
 m6:mg "NoText"=some (.ref c6)
 m7:mg "NoTie"=some (.ref c7)
 m8:mg "NoWeb"=some (.ref c8)
 m9:mg "TooMany"=some (.ref c9)
 mV:mg "ValueError"=none
 exm:W.exmOne K (.ref CN) (.ref CF)=some true
 kx:ExcK K CN
 any:W.kitAny K (.ref CN) [.ref c1,.ref c2,.ref c3,.ref c4,.ref c5,.ref c6,.ref c7,.ref c8,.ref c9]=some false
 one:Ĳ K (.ref CN) (.ref CN)=some true
 val:Ĳ K (.ref CN) (.type "ValueError")=some true
def Mg(Z:Hp->Prop)(CN:Addr):Sp:=λvs H Q E=>vs=[]/\Z H/\∀H',Same H H'->E (.ref CN) none H'
def Mh(P:Program)(w:World)(K:Ê)(mg:Str->Option Value)(CN:Addr)(base:Heap):Sp:=λvs H Q _=>∃(f:Addr) (fd:FuncData) (Z:Hp->Prop),vs=[.ref f]/\FnOk P w K mg base (CX1 P w) 7 f fd [] (Mg Z CN)/\W.FnAt f base/\Binds K fd [] []/\Z H/\∀H',Same H H'->Q (.bl true) H'
structure CalA(P:Program)(w:World)(K:Ê)(mg:Str->Option Value)(k:Nat)(x:Str)(ps:List Str)(sp:Heap->Sp):Prop where
 ex:∃f fd,(∀base,FnOk P w K mg base CX0 k f fd ps (sp base))/\Binds K fd ps []/\ň K (.ref f)=true/\mg x=some (.ref f)
section
variable {P:Program}{w:World}{K:Ê}{mg:Str->Option Value}{base:Heap}{f:Addr}{fd:FuncData}{CN:Addr}
def Hy:FnScope ["_law_asked","_law_caught","e"] ["_law_asked"] (aB (top 38)):=zC
def HW{CF c1 c2 c3 c4 c5 c6 c7 c8 c9:Addr}(F:Fun K "_law_refused" "_law_refused" (top 38) f fd)(B:Dl.Bn mg)(R:RefN K mg CN CF c1 c2 c3 c4 c5 c6 c7 c8 c9):FnOk P w K mg base CX0 8 f fd ["_law_asked"] (Mh P w K mg CN base):=by
 refine F.ok Hy (λvs H Q E h=>by obtain⟨_,_,_,rfl,_⟩:=h;rfl) (λcdv A outer s H vs Q E hr h=>?_)
 obtain⟨fl,fdl,Z,rfl,FL,hfl,hbl,hZ,q⟩:=h
 have nd:=Hy.nd
 refine⟨_,aO (eF (i:=1) nd rfl (Ļ rfl) BP)
  (aO (Gb (E:=λcls _ H'=>cls=.ref CN/\Same H H') (i:=0) (j:=2) rfl rfl FL hfl (hr.mono (by decide)) hbl (pv 0) rfl R.mF (λcls H' z=>by rw[z.1];exact R.exm) nd rfl rfl (λev=>cH (eF (i:=1) nd rfl (Ļ rfl) (pv 2))))
  (aO (sY (Bt (bQ Fj rfl B.isinstance Ų (aF (pv 1) (aF (vH (aF (dJ (v:=.ref c1) rfl R.m1 rfl) (aF (dJ (v:=.ref c2) rfl R.m2 rfl) (aF (dJ (v:=.ref c3) rfl R.m3 rfl) (aF (dJ (v:=.ref c4) rfl R.m4 rfl) (aF (dJ (v:=.ref c5) rfl R.m5 rfl)
    (aF (dJ (v:=.ref c6) rfl R.m6 rfl) (aF (dJ (v:=.ref c7) rfl R.m7 rfl) (aF (dJ (v:=.ref c8) rfl R.m8 rfl) (aF (dJ (v:=.ref c9) rfl R.m9 rfl) bA)))))))))) bA)))) (cH (iC HN)) jP)
  (cH (iC (Cd (bQ qg rfl B.isinstance Ų (aF (pv 1) (aF (dJ (v:=.ref CN) rfl R.mN rfl) bA))) (BL (bQ qg rfl B.isinstance Ų (aF (pv 1) (aF (mz (v:=.ty "ValueError") rfl R.mV pF rfl) bA))))))))),?_⟩
 refine⟨rfl,⟨rfl,hZ,λH' sm=>⟨rfl,sm⟩⟩,?_⟩
 rintro cls H2 a ⟨rfl,s2⟩ ha
 have b1:=sV ha (uF a (.ref CN))
 refine⟨_,rfl,?_⟩
 refine⟨_,rfl,(by show 9<=sizeLine;decide),λtp htp=>?_⟩
 have b2':=sV htp (.tup [V.ref c1,V.ref c2,V.ref c3,V.ref c4,V.ref c5,V.ref c6,V.ref c7,V.ref c8,V.ref c9])
 have hea:=b2' _ _ (aA (H:=H2) (a:=a) (o:=uF a (.ref CN)))
 refine⟨a,CN,tp,[c1,c2,c3,c4,c5,c6,c7,c8,c9],false,rfl,hea,R.kx,SqT.of aA,R.any,false,rfl,cI ?_⟩
 refine⟨_,rfl,a,CN,.ref CN,.ref CN,true,rfl,hea,R.kx,R.one,λu z=>z,true,rfl,bw ?_⟩
 exact⟨_,rfl,a,CN,.ty "ValueError",.type "ValueError",true,rfl,hea,R.kx,R.val,λu z=>z,q _ (s2.trans (b1.trans b2'))⟩
end
def lamOf:Expr->Arguments×Expr×Scope×Pos
 |.Lambda a b s p=>(a,b,s,p)
 |e=>(⟨[],[],none,[],[],none,[]⟩,e,{ kind:=.function,names:=[],isGenerator:=false,isCoroutine:=false },⟨0,0,0,0⟩)
def G7:List Stmt->Expr
 |[.For _ _ [_,.For _ _ [.If (.UnaryOp _ (.Call _ [e] _ _) _) _ _ _] _ _] _ _,_]=>e
 |_=>.Constant .none 0 ⟨0,0,0,0⟩
def Nt(st:Stmt):Arguments:=(lamOf (G7 (bY st))).1
def Nr(st:Stmt):Expr:=(lamOf (G7 (bY st))).2.1
def G6(st:Stmt):Scope:=(lamOf (G7 (bY st))).2.2.1
def lamP(st:Stmt):Pos:=(lamOf (G7 (bY st))).2.2.2
def arq:Str:=("_law_all_refused":Str)++".<locals>."++"<lambda>"
def bJ(PT:Addr):Pn:=O1 PT (lamP (top 40)) arq
abbrev cl3(b:Nat):List (Str×Addr):=[(á "_law_which",b+1+1+1),(á "_law_thing",b+1),(á "_law_odd",b+1+1)]
abbrev ys3:List Str:=["_law_thing","_law_which","_law_odd"]
def vV{b:Nat}{x:Str}{c:Addr}(h:Ĭ x (cl3 b)=some c):(x="_law_odd"/\c=b+1+1)\/(x="_law_thing"/\c=b+1)\/(x="_law_which"/\c=b+1+1+1):=by
 rw[Ü,Ü,Ü] at h
 cases e1:x == á "_law_which" with
 |true=>rw[e1] at h;cases h;exact .inr (.inr ⟨eq_of_beq e1,rfl⟩)
 |false =>
  rw[e1] at h
  cases e2:x == á "_law_thing" with
  |true=>rw[e2] at h;cases h;exact .inr (.inl ⟨eq_of_beq e2,rfl⟩)
  |false =>
   rw[e2] at h
   cases e3:x == á "_law_odd" with
   |true=>rw[e3] at h;cases h;exact .inl ⟨eq_of_beq e3,rfl⟩
   |false=>rw[e3] at h;cases h
def ug(b:Nat):Ĭ (á "_law_which") (cl3 b)=some (b+1+1+1):=by rw[Ü,beq_self_eq_true]
def uh(b:Nat):Ĭ (á "_law_thing") (cl3 b)=some (b+1):=by
 rw[Ü,show(á "_law_thing" == á "_law_which")=false by decide +kernel,Ü,beq_self_eq_true]
def Dz(b:Nat):Ĭ (á "_law_odd") (cl3 b)=some (b+1+1):=by
 rw[Ü,show(á "_law_odd" == á "_law_which")=false by decide +kernel,Ü,show(á "_law_odd" == á "_law_thing")=false by decide +kernel,Ü,beq_self_eq_true]
def yP(b:Nat):LamScope [] ys3 (G6 (top 40)) (cl3 b):=by
 have fr:∀y∈(G6 (top 40)).names,y.2=.free->y.1="_law_odd"\/y.1="_law_thing"\/y.1="_law_which":=by decide +kernel
 refine⟨rfl,rfl,rfl,by decide +kernel,(λx hx=>nomatch hx),λy hy=>?_,by decide +kernel,λx h=>?_,λx y c h1 h2=>?_⟩
 ·rcases É.mp hy with rfl|hy
  ·rfl
  ·rcases É.mp hy with rfl|hy
   ·rfl
   ·rw[ý.mp hy];rfl
 ·rcases fr _ (Ā h) rfl with z|z|z
  ·have z:x="_law_odd":=z
   subst z;exact⟨_,Dz b⟩
  ·have z:x="_law_thing":=z
   subst z;exact⟨_,uh b⟩
  ·have z:x="_law_which":=z
   subst z;exact⟨_,ug b⟩
 ·rcases vV h1 with ⟨a1,a2⟩|⟨a1,a2⟩|⟨a1,a2⟩ <;> rcases vV h2 with ⟨b1,b2⟩|⟨b1,b2⟩|⟨b1,b2⟩
  all_goals first
   |exact absurd (show(_:Nat)=_ from a2.symm.trans b2) (by omega)
   |rw[a1,b1]
def Hg:Sl->D->Prop
 |.im d,e=>d=e
 |.sh d,e=>d=e
 |.sn d,e=>d=e
 |_,_=>False
def vZ{p:Pn}{H0 H:Hp}{own:Addr->Option Nat}{σ:L2.St}{i:Nat}{s:Sl}{d:D}(h:gU p H0 own σ H i s)(e:Hg s d):∃v,σ[i]?=some (some v)/\Rp (λa=>¬p.fp a) H v d:=by
 cases s with
 |im d'=>cases e;exact let ⟨v,a,b⟩:=h;⟨v,a,b.mono (λ_ o=>o.elim) (λ_ _ _ e=>e) λ_ _ e=>e⟩
 |sh d'=>cases e;exact let ⟨v,a,b⟩:=h;⟨v,a,b.mono (λ_ o=>o.1) (λ_ _ _ e=>e) λ_ _ e=>e⟩
 |sn d'=>cases e;exact let ⟨v,a,b⟩:=h;⟨v,a,b.mono (λ_ o=>o.2.1) (λ_ _ _ e=>e) λ_ _ e=>e⟩
 |_=>exact e.elim
def Hx(CN:Addr):DE:=λρ P=>∃s0 s1 s2 d0 d1 d2,ρ[0]?=some s0/\ρ[2]?=some s1/\ρ[4]?=some s2/\Hg s0 d0/\Hg s1 d1/\Hg s2 d2/\Em CN [d0,d1,d2] (λ_=>False) (λc=>c=.ref CN)/\P .imm (.bool true)
def Io(ds:List D)(P:D->Prop):Prop:=∃(t:Th) (o:List Int),ds=[t.D,iL o]/\Ord o/\((o.length:Nat):Int)=t.n/\1<=o.length/\P (.bool true)
section
variable {P:Program}{w:World}{K:Ê}{mg:Str->Option Value}{base:Heap}{f:Addr}{fd:FuncData}{PT CN:Addr}
def J3(C_single:∀base,Dl.Cal1 P w K mg base 6 "_law_single" ["_law_thing","_law_which","_law_order_here"] (spX (Em CN))){v0 v1 v2:V}{d0 d1 d2:D}(sg:Em CN [d0,d1,d2] (λ_=>False) (λc=>c=.ref CN)){base':Heap}{fl c':Addr}{pm ctv:Value}{b:Nat}(e:base'.get? fl=some (ŵ "<lambda>" arq (Nt (top 40)) (Nr (top 40)) (G6 (top 40)) (cl3 b) pm c' ctv))(C:Caps base' (cl3 b) ys3 [v0,v1,v2]) :
  ∃fd,FnOk P w K mg base' (CX1 P w) 7 fl fd [] (Mg (λH=>qw H c' arq/\Rps (λ_=>True) H [v0,v1,v2] [d0,d1,d2]) CN)/\Binds K fd [] []:=by
 refine⟨_,Kw (cvs:=[v0,v1,v2]) e (λ_ _ _ _ h=>h.2.1.1) (yP b) C (λvs H Q E h=>by rw[h.1];rfl) (λA outer s H vs Q E hr h=>?_),.all λus hl=>?_⟩
 ·obtain⟨rfl,⟨kn,rs⟩,q⟩:=h
  refine⟨_,pcX (E:=E) (C_single base') hr (fL Dv) (aF (pv 0) (aF (pv 1) (aF (pv 2) bA))) (by decide) (by rfl) (by decide) (by rfl) (by rfl),?_⟩
  exact⟨v0,rfl,v1,rfl,v2,rfl,[d0,d1,d2],_,_,rs,sg,λd v H' z=>z.elim,λc H' ec sm=>by rw[ec];exact q H' sm⟩
 ·obtain rfl:us=[]:=List.length_eq_zero_iff.mp hl
  rfl
abbrev xAR(P:Program)(w:World)(K:Ê)(mg:Str->Option Value)(base:Heap)(f c:Addr)(A:Around)(outer:List Env)(s:Shared)(H:Hp)(E:XK):Cx:=(rR CX0 P w K mg base ["_law_thing","_law_order_here","_law_which","_law_more","_law_odd"] "_law_all_refused" (aB (top 40)) f (.ref c) A outer s H E).nox
def Hz:FnScope ["_law_thing","_law_order_here","_law_which","_law_more","_law_odd"] ["_law_thing","_law_order_here"] (aB (top 40)):=zC
def M7{c:Addr}{oc kV doc pm ct:Value}{od an:Option Addr}{osl:Array (Option Value)}(lk:K.lookup f=some ⟨oc,od,.func (W.fnOf "_law_all_refused" "_law_all_refused" (fV (top 40)) (bY (top 40)) (aB (top 40)) .none kV doc pm an (.ref c) ct),osl⟩)(hcd:W.codeIn K (.ref c) "_law_all_refused"=true)(hC:∀h:Heap,K.In h->W.CodeHd h c PT)(hB:base.BuiltinsAt mg PT)(B:Dl.Bn mg)(C_rf:CalA P w K mg 8 "_law_refused" ["_law_asked"] (Mh P w K mg CN))(C_single:∀base,Dl.Cal1 P w K mg base 6 "_law_single" ["_law_thing","_law_which","_law_order_here"] (spX (Em CN)))(C__law_no_orders:Dl.Cal P w K mg base 1 "_law_no_orders" ["_law_order_here"] (spR Kz)) :
  FnOk P w K mg base CX0 9 f (W.fnOf "_law_all_refused" "_law_all_refused" (fV (top 40)) (bY (top 40)) (aB (top 40)) .none kV doc pm an (.ref c) ct) ["_law_thing","_law_order_here"] (spT (bJ PT) Io):=by
 obtain⟨fh,fdh,HF,hbH,hkH,hmH⟩:=C_rf.ex
 refine Ej (N:=["_law_thing","_law_order_here","_law_which","_law_more","_law_odd"]) lk hcd Hz G3 (λA outer s H vs Q E hr h=>?_)
 have nd:=Hz.nd
 letI:=grU (bJ PT)
 have LAMR:∀{p pos:Pos},Wr.WD (xAR P w K mg base f c A outer s H E) (.Call (.Name "_law_refused" p) [.Lambda (Nt (top 40)) (Nr (top 40)) (G6 (top 40)) (lamP (top 40))] [] pos) (Hx CN):=λ{p pos}=>by
  refine⟨PE.wk (sZ (X:=xAR P w K mg base f c A outer s H E) (x:="_law_refused") (c:=c) (P:=PT) (ys:=ys3) (qual:=arq) (cl:=cl3 s.heap.objs.size) HF hr rfl hmH hkH hbH rfl rfl rfl rfl (hC base) (λ_=>hB) (λ_=>rfl) ?_ ?_) ?_⟩
  ·intro y b h
   have h:Ĭ y (cl3 s.heap.objs.size)=some b:=h
   show Ĭ y [(á "_law_which",s.heap.objs.size+1+1+1),(á "_law_odd",s.heap.objs.size+1+1),(á "_law_thing",s.heap.objs.size+1)]=some b
   rcases vV h with ⟨rfl,rfl⟩|⟨rfl,rfl⟩|⟨rfl,rfl⟩ <;> rfl
  ·intro y hy
   rcases É.mp hy with rfl|hy
   ·exact⟨rfl,_,uh _⟩
   ·rcases É.mp hy with rfl|hy
    ·exact⟨rfl,_,ug _⟩
    ·rw[ý.mp hy]
     exact⟨rfl,_,Dz _⟩
  ·rintro σ H1 Q1 ⟨q,H0,own,ρ,Pd,En,⟨s0,s1,s2,d0,d1,d2,i0,i1,i2,h0,h1,h2,sg,hP⟩,k⟩
   have eq:q=bJ PT:=En.gr
   subst eq
   obtain⟨v0,e0,r0⟩:=vZ (En.slot 0 _ i0) h0
   obtain⟨v1,e1,r1⟩:=vZ (En.slot 2 _ i1) h1
   obtain⟨v2,e2,r2⟩:=vZ (En.slot 4 _ i2) h2
   refine⟨En.pen,[v0,v1,v2],rfl,λj y v hj hv=>?_,λbase' fl c' H' lam T' kp=>?_⟩
   ·match j,hj,hv with
    |0,hj,hv=>cases hj;cases hv;exact⟨0,rfl,e0⟩
    |1,hj,hv=>cases hj;cases hv;exact⟨2,rfl,e1⟩
    |2,hj,hv=>cases hj;cases hv;exact⟨4,rfl,e2⟩
   obtain⟨pm',ctv,hfn⟩:=lam.fn
   obtain⟨fdl,FL,bL⟩:=J3 C_single sg hfn lam.caps
   have tp:∀a xs,H1 a=some (.tup xs)->H' a=some (.tup xs):=λa xs e=>kp a _ e λz=>by
    obtain⟨ps,h,_⟩:=En.pen
    rw[z,h] at e
    cases e
   have g3:Rps (λ_=>True) H' [v0,v1,v2] [d0,d1,d2]:=(Rps.cons r0 (.cons r1 (.cons r2 .nil))).mono (λ_ _=>trivial) (λa o n e=>kp a o e n) tp
   refine⟨fl,fdl,_,rfl,FL,⟨_,_,_,_,hfn⟩,bL,⟨lam.kn,g3⟩,λH2 sm=>?_⟩
   have kp2:Kp (bJ PT) H1 H2:=λb o e n=>sm b o (kp b o e n)
   exact k .imm (.bool true) (.bl true) H2 hP (En.at.go kp2 ((bJ PT).mono H' H2 T' λb o _ e=>sm b o e)) (.bl true)
 refine⟨_,PSs.nox (Wr.WDSs.h (Wr.aC (Wr.iW Ė rfl (Wr.cW B.range (Wr.aj Wr.aq Wr.ak)) (Wr.aN (i:=2) nd rfl zQ) (Wr.aC (Wr.bV none (i:=3) nd rfl zQ (Wr.iH (Wr.aU (Wr.aj (Wr.eO rfl B.list B.range (Wr.aj (Wr.aR (Wr.fX B.len (Wr.aj (Wr.dv 1) Wr.ak)) Wr.aq) Wr.ak)) (Wr.aj (Wr.eO rfl B.list B.range (Wr.aj (Wr.qM (Wr.fX B.len (Wr.aj (Wr.dv 1) Wr.ak)) Wr.aq) Wr.ak)) Wr.ak))) (Wr.jh B.int boot_int (Wr.aj (Wr.Ce (Wr.dv 2) Wr.aq) Wr.ak))))
  (Wr.aC (Wr.iW Ė rfl (Wr.dD (Wr.aR (Dl.dcR C__law_no_orders hr (Wr.aj (Wr.dv 1) Wr.ak)) (Wr.dv 3))) (Wr.aN (i:=4) nd rfl zQ) (Wr.aC (Wr.bW (Wr.fJ (Wr.cN LAMR)) (Wr.aD (Wr.aG Wr.jr)) Wr.aL) (Wr.bU [4] Wr.aL))) (Wr.bU [2,3,4] Wr.aL))))
  (Wr.bU [2,3,4] (Wr.aD (Wr.aG Wr.jr))))),KQ h ?_⟩
 rintro ds P ⟨t,o,rfl,ho,ln,o1,q⟩
 refine⟨[.sh t.D,.sh (iL o),.any,.any,.any],rfl,?_⟩
 have few:=ho.few
 have lo:(tM o).length<=17:=by
  unfold tM
  split
  ·exact(show 10+4+3<=17 by decide)
  ·exact(show 10+4<=17 by decide)
 have st:∀(i:Int) (M:List D),0<=i->i<6->M.length<=2->(∀d∈M,vB t.n i d=false/\Few d)->∀En:DEnds,En.nx [.sh t.D,.sh (iL o),.any,.any,.any]->uL
     (K7 (iSq (t2 Ef (LQ Kz (dH (tV 1) jF)) (tV 3))) (gNm 4)
      (uL (dIf (K6 (jJ (Hx CN))) (EY (tK (ů false))) p7) (rQ [4] p7)))
     (rQ [2,3,4] p7) En [.sh t.D,.sh (iL o),.im (.int i),.sn (.list M),.any]:=λi M i0 i6 lm hM En hE=>by
  refine⟨rfl,o,rfl,ho,o1,by omega,.inr ?_⟩
  refine mK (tM o++M) id (λρ=>ρ=[.sh t.D,.sh (iL o),.im (.int i),.sn (.list M),.any]) (by rw[Ĥ]) rfl rfl ?_ ?_
  ·rintro d hd ρ rfl
   have hr:vB t.n i d=false/\Few d:=by
    rcases è.mp hd with hd|hd
    ·exact FT ho o1 hd _ _
    ·exact hM d hd
   refine xM (.inr rfl) ?_
   rintro s (rfl|rfl)
   all_goals exact⟨_,_,_,t.D,.int i,d,rfl,rfl,rfl,rfl,rfl,rfl,⟨t,i,d,rfl,i0,i6,hr.2,.inl ⟨hr.1,rfl⟩⟩,cI (A:=True) rfl⟩
  ·rintro ρ rfl
   exact hE
 refine⟨⟨by decide,by decide⟩,mK (Ø 6) (λi:Nat=>.int (0+((i:Nat):Int))) (λρ=>ρ=[.sh t.D,.sh (iL o),.any,.any,.any]) rfl rfl rfl ?_ ?_⟩
 ·rintro i hi ρ rfl
  have hi:=ċ.mp hi
  have lm:(o.map Â).length=o.length:=Á _
  refine⟨⟨by rw[lm];omega,by rw[lm];omega⟩,⟨by rw[lm];omega,by rw[lm];omega⟩,zK,?_⟩
  show 0<=(if decide (0+((i:Nat):Int)<2)=true then (1:Int) else 0)/\_
  by_cases c:0+((i:Nat):Int)<2
  ·rw[decide_eq_true c]
   refine⟨by decide,by decide,(show 2 * 1<=1000 by decide),.inr ?_⟩
   refine st (0+((i:Nat):Int)) [.list (gA 0 ((((o.map Â).length:Nat):Int)+1 - 0).toNat),.list (gA 0 ((((o.map Â).length:Nat):Int) - 1 - 0).toNat)] (by omega) (by omega) (show 2<=2 by decide) (λd hd=>?_) _ rfl
   rw[lm] at hd
   simp only[É,Ö,or_false] at hd
   rcases hd with rfl|rfl
   ·exact⟨sX c (by rw[d9];omega),j6 (by rw[d9];omega)⟩
   ·exact⟨sX c (by rw[d9];omega),j6 (by rw[d9];omega)⟩
  ·rw[decide_eq_false c]
   refine⟨by decide,by decide,(show 2 * 0<=1000 by decide),.inr ?_⟩
   exact st (0+((i:Nat):Int)) [] (by omega) (by omega) (by decide) (λd hd=>nomatch hd) _ rfl
 ·rintro ρ rfl
  exact⟨rfl,q⟩
end
def rF{k:Kd}{d1 d2:D}{ρ:List Sl}{Q:List Sl->Prop}{i j:Nat}(h:∀s5 s6,s5=sS (norm (norm k d1) d1) d1->s6=sS (norm (norm k d2) d2) d2->Q ((ρ.set i s5).set j s6)):rG (gNm i) (rG (gNm j) DW) k [d1,d2] ρ Q:=h _ _ rfl rfl
def Dw(d:D):Prop:=d=.none\/(∃b,d=.bool b)\/(∃i,d=.int i)\/∃z,d=.str z
def GA:Nat->D->Prop
 |0,d=>Dw d
 |k+1,d=>Dw d\/∃ds:List D,(d=.list ds\/d=.tuple ds)/\ds.length<=100/\∀x∈ds,GA k x
def fAl:Nat->List D->(D->Prop)->Prop
 |0,_,_=>False
 |k+1,ds,P=>∃d,ds=[d,d]/\GA k d/\P (.bool true)
def jX{k:Kd}{T:D}(h:k=.imm\/k=.shr):norm k T=.imm\/norm k T=.shr:=by
 by_cases i:eZ T=true
 ·exact .inl (cA i)
 ·rw[dO i]
  exact h
def Az{k:Kd}{d:D}{s:Sl}(hk:k=.imm\/k=.shr)(e:s=sS (norm (norm k d) d) d):s=.im d\/s=.sh d:=by
 subst e
 rcases jX (jX (T:=d) hk) with h|h
 ·exact .inl (by rw[h];rfl)
 ·exact .inr (by rw[h];rfl)
section
variable {P:Program}{w:World}{K:Ê}{mg:Str->Option Value}{base:Heap}{f:Addr}{fd:FuncData}{kk LL:Nat}
def gD:FnScope ["_law_found","_law_due"] ["_law_found","_law_due"] (aB (top 30)):=zC
def iQ:(["_law_one","_law_other","_law_found","_law_due"]:List Str).Nodup:=by decide +kernel
def yG(F:Fun K "_law_alike" "_law_alike" (top 30) f fd)(B:Dl.Bn mg)(m_zip:mg "zip"=none)(m_str:mg "str"=none)(C__law_alike:Dl.Cal P w K mg base LL "_law_alike" ["_law_found","_law_due"] (spD (fAl kk))):FnOk P w K mg base CX0 LL.succ f fd ["_law_found","_law_due"] (spD (fAl (kk+1))):=by
 refine F.ok gD cQ (λcdv A outer s H vs Q E hr h=>?_)
 have nd:=gD.nd
 refine⟨_,Wr.WDSs.h (Wr.aC (Wr.bW (Wr.qL (Wr.dv 1) Wr.kW) (Wr.aD (Wr.aG (Wr.vK (Wr.dv 0) Wr.kW))) Wr.aL)
  (Wr.aC (Wr.bW (Wr.cN (Wr.mG B.isinstance (Wr.dv 1) (Wr.wty rfl B.list boot_list) (Wr.wty rfl B.tuple boot_tuple))) (Wr.aC (Wr.bW (Wr.wpt (Wr.kO (Wr.fJ (Wr.cN (Wr.mG B.isinstance (Wr.dv 0) (Wr.wty rfl B.list boot_list) (Wr.wty rfl B.tuple boot_tuple)))) (Wr.jg (Wr.gG hr.units (Wr.aV nY B.isinstance (Wr.dv 0) (Wr.wty rfl B.list boot_list)) (Wr.aV nY B.isinstance (Wr.dv 1) (Wr.wty rfl B.list boot_list)))))) (Wr.aD (Wr.aG Wr.jr)) Wr.aL)
  (Wr.aD (Wr.aG (Wr.fY (Wr.gK hr.units (Wr.fX B.len (Wr.aj (Wr.dv 0) Wr.ak)) (Wr.fX B.len (Wr.aj (Wr.dv 1) Wr.ak))) (Wr.gH (Wr.qZ rfl B.all Dl.boot_all (Wr.aj (Wr.cZ ["_law_one","_law_other"] rfl (Wr.rO m_zip (Wr.aj (Wr.dv 0) (Wr.aj (Wr.dv 1) Wr.ak))) (λc=>(Wr.iY (n:=2) rfl (Wr.dF (Wr.aN (i:=0) iQ rfl zQ) (Wr.dF (Wr.aN (i:=1) iQ rfl zQ) Wr.fU)))) (λc=>Wr.bN) (λc=>(Wr.dc (hk:=Æ _) C__law_alike hr (Wr.aj (Wr.dv 0) (Wr.aj (Wr.dv 1) Wr.ak))))) Wr.ak))))))) Wr.aL)
  (Wr.aC (Wr.bW (Wr.wpt (Wr.kO (Wr.cN (Wr.aV iV B.isinstance (Wr.dv 1) (Wr.wty rfl B.bool boot_bool))) (Wr.jg (Wr.cN (Wr.aV iV B.isinstance (Wr.dv 0) (Wr.wty rfl B.bool boot_bool)))))) (Wr.aD (Wr.aG (Wr.fY (Wr.aV iV B.isinstance (Wr.dv 1) (Wr.wty rfl B.bool boot_bool)) (Wr.fY (Wr.aV iV B.isinstance (Wr.dv 0) (Wr.wty rfl B.bool boot_bool)) (Wr.gH (Wr.gK hr.units (Wr.dv 0) (Wr.dv 1))))))) Wr.aL)
  (Wr.aC (Wr.bW (Wr.cN (Wr.aV xr B.isinstance (Wr.dv 1) (Wr.wty rfl m_str Dl.boot_str))) (Wr.aD (Wr.aG (Wr.fY (Wr.aV xr B.isinstance (Wr.dv 0) (Wr.wty rfl m_str Dl.boot_str)) (Wr.gH (Wr.gK hr.units (Wr.dv 0) (Wr.dv 1)))))) Wr.aL)
  (Wr.aD (Wr.aG (Wr.fY (Wr.aV xu B.isinstance (Wr.dv 0) (Wr.wty rfl B.int boot_int)) (Wr.gH (Wr.gK hr.units (Wr.dv 0) (Wr.dv 1)))))))))),fZ h ?_⟩
 rintro ds P ⟨d,rfl,g,q⟩
 refine⟨[cF d,cF d],rfl,?_⟩
 have leaf:Dw d\/∃ds:List D,(d=.list ds\/d=.tuple ds)/\ds.length<=100/\∃k,kk=k+1/\∀x∈ds,GA k x:=by
  cases kk with
  |zero=>exact .inl g
  |succ k =>
   rcases g with g|⟨ds,h1,h2,h3⟩
   ·exact .inl g
   ·exact .inr ⟨ds,h1,h2,k,rfl,h3⟩
 rcases leaf with (rfl|⟨b,rfl⟩|⟨i,rfl⟩|⟨z,rfl⟩)|⟨ds,rfl|rfl,lk,k,rfl,gk⟩
 ·exact bw (B:=True) ⟨rfl,q⟩
 ·refine cI (A:=True) (cI (A:=True) (bw (B:=True) (bw (B:=True) (bw (B:=True) ?_))))
  show _/\P (.bool (decide (b=b)))
  rw[decide_eq_true rfl]
  exact⟨rfl,q⟩
 ·refine cI (A:=True) (cI (A:=True) (cI (A:=True) (cI (A:=True) (cI (A:=True) (bw (B:=True) ?_)))))
  show _/\P (.bool (decide (i=i)))
  rw[decide_eq_true rfl]
  exact⟨rfl,q⟩
 ·refine cI (A:=True) (cI (A:=True) (cI (A:=True) (cI (A:=True) (bw (B:=True) (bw (B:=True) ?_)))))
  show _/\P (.bool (decide (z=z)))
  rw[decide_eq_true rfl]
  exact⟨rfl,q⟩
 ·refine cI (A:=True) (bw (B:=True) (cI (A:=True) (cI (A:=True) ?_)))
  show if decide (((ds.length:Nat):Int)=((ds.length:Nat):Int))=true then _ else _
  rw[decide_eq_true rfl]
  refine bw (B:=True) ?_
  refine⟨by rw[Á,Č];omega,.imm,λi ys=>ys=(ds.take i).map λ_=>ů true,rfl,λi d ys hd hy=>?_,λys hy=>?_⟩
  ·subst hy
   rw[Þ] at hd
   cases hi:ds[i]? with
   |none =>
    rw[show(ds.zip ds)[i]?=none by rw[Ľ,Č];rw[Ľ] at hi;omega] at hd
    cases hd
   |some x =>
    rw[ġ (z:=(x,x)) |>.mpr ⟨hi,hi⟩] at hd
    cases hd
    refine⟨rfl,rF λs0 s1 e0 e1=>?_⟩
    have e2:s1=s0:=e1.trans e0.symm
    subst e2
    rcases Az (jX (.inr rfl)) e0 with rfl|rfl
    all_goals exact bw (B:=True) ⟨x,rfl,gk x (Ñ hi),rfl,(Dk _ hi).symm⟩
  dsimp only at hy
  rw[show((ds.zip ds).map prD).length=ds.length by rw[Á,Č];omega,List.take_length] at hy
  subst hy
  refine⟨ds.map λ_=>true,by rw[Ú];rfl,?_⟩
  refine⟨rfl,?_⟩
  rw[show(ds.map λ_=>true).all id=true from ć.mpr λx hx=>by
   obtain⟨_,_,rfl⟩:=ß.mp hx
   rfl]
  exact q
 ·rcases bD (.tuple ds) with e|e
  all_goals
   rw[e]
   refine cI (A:=True) (bw (B:=True) (cI (A:=True) (cI (A:=True) ?_)))
   show if decide (((ds.length:Nat):Int)=((ds.length:Nat):Int))=true then _ else _
   rw[decide_eq_true rfl]
   refine bw (B:=True) ?_
   refine⟨by rw[Á,Č];omega,.imm,λi ys=>ys=(ds.take i).map λ_=>ů true,rfl,λi d ys hd hy=>?_,λys hy=>?_⟩
   ·subst hy
    rw[Þ] at hd
    cases hi:ds[i]? with
    |none =>
     rw[show(ds.zip ds)[i]?=none by rw[Ľ,Č];rw[Ľ] at hi;omega] at hd
     cases hd
    |some x =>
     rw[ġ (z:=(x,x)) |>.mpr ⟨hi,hi⟩] at hd
     cases hd
     refine⟨rfl,rF λs0 s1 e0 e1=>?_⟩
     have e2:s1=s0:=e1.trans e0.symm
     subst e2
     rcases Az (jX (by first|exact .inl rfl|exact .inr rfl)) e0 with rfl|rfl
     all_goals exact bw (B:=True) ⟨x,rfl,gk x (Ñ hi),rfl,(Dk _ hi).symm⟩
   dsimp only at hy
   rw[show((ds.zip ds).map prD).length=ds.length by rw[Á,Č];omega,List.take_length] at hy
   subst hy
   refine⟨ds.map λ_=>true,by rw[Ú];rfl,?_⟩
   refine⟨rfl,?_⟩
   rw[show(ds.map λ_=>true).all id=true from ć.mpr λx hx=>by
    obtain⟨_,_,rfl⟩:=ß.mp hx
    rfl]
   exact q
def yI(F:Fun K "_law_alike" "_law_alike" (top 30) f fd):FnOk P w K mg base CX0 1 f fd ["_law_found","_law_due"] (spD (fAl 0)) :=
 F.ok gD (cQ λds P h=>h.elim) (λcdv A outer s H vs Q E hr h=>by
  obtain⟨_,_,_,t,_⟩:=h
  exact t.elim)
def Cy(k:Nat)(F:Fun K "_law_alike" "_law_alike" (top 30) f fd)(B:Dl.Bn mg)(m_zip:mg "zip"=none)(m_str:mg "str"=none)(b:Binds K fd ["_law_found","_law_due"] [])(m:mg "_law_alike"=some (.ref f)):FnOk P w K mg base CX0 (k+1) f fd ["_law_found","_law_due"] (spD (fAl k)):=by
 induction k with
 |zero=>exact yI F
 |succ k ih=>exact yG F B m_zip m_str ⟨f,fd,ih,b,F.kp,m⟩
def yH(F:Fun K "_law_alike" "_law_alike" (top 30) f fd)(B:Dl.Bn mg)(m_zip:mg "zip"=none)(m_str:mg "str"=none)(b:Binds K fd ["_law_found","_law_due"] [])(m:mg "_law_alike"=some (.ref f)):FnOk P w K mg base CX0 6 f fd ["_law_found","_law_due"] (spD (fAl 5)):=Cy 5 F B m_zip m_str b m
end
def Sh(k m:Nat)(d:D):Prop:=d.showable=true/\d.leavesShort 40=true/\d.depth<=k/\d.bulk<=m
instance (k m:Nat)(d:D):Decidable (Sh k m d):=by unfold Sh;exact inferInstance
def Sh.mono{k m k' m':Nat}{d:D}(h:Sh k m d)(h1:k<=k')(h2:m<=m'):Sh k' m' d:=⟨h.1,h.2.1,ô h.2.2.1 h1,ô h.2.2.2 h2⟩
def Sh.int{k m:Nat}{i:Int}(h0:-1000<=i)(h1:i<=1000):Sh k m (.int i):=by
 refine⟨?_,?_,û _,û _⟩
 ·simp only[PyData.showable,decide_eq_true_eq]
  have:=Nat.log2_le_self i.natAbs
  omega
 ·simp only[PyData.leavesShort,decide_eq_true_eq]
  have:=PyData.shown_int_le (i:=i) (by omega)
  omega
def vA{k m:Nat}:∀{ds:List D},(∀d∈ds,Sh k m d)->PyData.showableAll ds=true/\PyData.leavesShortAll 40 ds=true/\ö ds<=k/\PyData.bulkAll ds<=ds.length * (m+1)
 |[],_=>⟨rfl,rfl,û _,û _⟩
 |d::ds,h=>by
  obtain⟨h1,h2,h3,h4⟩:=vA (ds:=ds) λe he=>h e (Ï _ he)
  obtain⟨g1,g2,g3,g4⟩:=h d Ì
  refine⟨?_,?_,?_,?_⟩
  ·show(d.showable&&PyData.showableAll ds)=true
   rw[g1,h1];rfl
  ·show(d.leavesShort 40&&PyData.leavesShortAll 40 ds)=true
   rw[g2,h2];rfl
  ·show max d.depth (ö ds)<=k
   omega
  ·show d.bulk+1+PyData.bulkAll ds<=(ds.length+1) * (m+1)
   rw[Nat.add_mul]
   omega
def Sh.list{k m c:Nat}{ds:List D}(h:∀d∈ds,Sh k m d)(hc:ds.length * (m+1)<=c):Sh (k+1) c (.list ds):=by
 obtain⟨h1,h2,h3,h4⟩:=vA h
 exact⟨h1,h2,Nat.succ_le_succ h3,ô h4 hc⟩
def Sh.tuple{k m c:Nat}{ds:List D}(h:∀d∈ds,Sh k m d)(hc:ds.length * (m+1)<=c):Sh (k+1) c (.tuple ds):=by
 obtain⟨h1,h2,h3,h4⟩:=vA h
 exact⟨h1,h2,Nat.succ_le_succ h3,ô h4 hc⟩
def Sh.ok{k m:Nat}{d:D}(h:Sh k m d)(hk:k<=50)(hm:m<=100000):Gz d:=by
 obtain⟨h1,h2,h3,h4⟩:=h
 refine⟨h1,by omega,?_⟩
 have b:=PyData.shown_le_bulk 40 (by decide) d h2
 have h24:=ì
 have:(40+2) * d.bulk<=42 * 100000:=Nat.mul_le_mul (by decide) (by omega)
 omega
def Sh.big{k m:Nat}{i:Int}(h0:0<=i)(h1:i<10 ^ 30):Sh k m (.int i):=by
 have hn:i.natAbs<10 ^ 30:=by
  have e1:(10:Int) ^ 30=1000000000000000000000000000000:=by decide
  have e2:(10:Nat) ^ 30=1000000000000000000000000000000:=by decide
  rw[e2]
  rw[e1] at h1
  omega
 refine⟨?_,?_,û _,û _⟩
 ·simp only[PyData.showable,decide_eq_true_eq]
  by_cases z:i.natAbs=0
  ·rw[z]
   decide
  ·have h2:i.natAbs<2 ^ 100:=Ó hn (by decide)
   have:=(Nat.log2_lt z).mpr h2
   omega
 ·simp only[PyData.leavesShort,decide_eq_true_eq]
  have e:=PySem.int_text_length_le10 (k:=30) (by decide) hn
  rw[PyData.shown_int]
  have e2:=PySem.ofString_length (toString i)
  omega
def Ay(K:Ê)(T:Pn):Sp:=λvs H Q _=>∃(a:Addr) (ns:List Int),vs=[.ref a]/\SqL K H a (ns.map V.int)/\T.PI H/\∀H',Q (.bl true) H'
def Lb{p c PT:Addr}{ns:List Int}{b:Bool}:Apart (Gh p c ns b) (bJ PT):=λH ⟨⟨x,y,h1⟩,h2⟩ ⟨ps,h,_⟩ d hb hT=>by
 have hT:d=PT:=hT
 subst hT
 rcases hb with rfl|⟨e,rfl⟩
 ·rw[h1] at h;cases h
 ·rcases h2 e with z|⟨o,z⟩ <;> (rw[z] at h;cases h)
def KZ{K:Ê}{T:DS}{N:List Str}{H:Hp}{Q:VK}{sc PT:Addr}{ns:List Int}(hS:SqL K H sc (ns.map V.int))(q:(bJ PT).PI H/\∀H',Q (.bl true) H')(hN:2<=N.length)(body:T { nx:=λ_=>False,rt:=λd=>d=.bool true } (.any::.pen (CT (CP K) (bJ PT))::È (N.length - 2) .any)) :
  Ln (vh (jK vo [] E0 (Ar (mQ 0) Ls)) (jx 1)) (iT T) { nx:=λ_ H'=>Q .non H',rt:=Q } (L2.start N [.ref sc]) H:=by
 refine⟨_,rfl,sc,rfl,λp H1 hp sm hp1=>?_⟩
 show iT T _ ((L2.start N [.ref sc]).set 1 (some (.ref p))) _
 have main:∀b,(b=true->p≠sc)->(b=false->∀H,SqL K H sc (ns.map V.int))->(b=true->Rd H1 sc (.lst (ns.map V.int)))->iT T { nx:=λ_ H'=>Q .non H',rt:=Q } ((L2.start N [.ref sc]).set 1 (some (.ref p))) H1:=by
  intro b h1 h2 h3
  refine⟨(Gh p sc ns b).plus (bJ PT),H1,λ_=>none,_,_,?_,body,⟨λ_ _ _ _ _ _ n=>n.elim,λd v H' n w=>?_,λ_ _ _ _ _ _ n=>n.elim,λ_ _ _ _ _ _ n=>n.elim⟩⟩
  ·have hl:(L2.start N [.ref sc]).length=N.length:=by unfold L2.start;simp;omega
   refine⟨λb o e _=>e,⟨⟨⟨0,0,hp1⟩,h3⟩,(bJ PT).mono H H1 q.1 λb o _ e=>sm b o e⟩,λa r e=>(nomatch e),λj s e=>?_,by rw[List.length_set,hl,ç,ç,ğ];omega,trivial⟩
   rcases j with _|_|j
   ·cases e;trivial
   ·cases e
    exact⟨Ć (by rw[hl];omega),Gh p sc ns b,⟨p,sc,ns,b,h1,h2,rfl⟩,Lb,rfl⟩
   ·rw[Ż,Ż] at e
    have e2:=(List.mem_replicate.mp (Ñ e)).2
    subst e2
    trivial
  ·have n:d=.bool true:=n
   subst n
   have r:=w.rp
   cases r
   exact q.2 H'
 rcases hS with h|h
 ·have hn:p≠sc:=by
   rintro rfl
   rcases h with z|⟨o,z⟩ <;> rw[hp] at z <;> cases z
  exact main true (λ_=>hn) (λz=>nomatch z) λ_=>h.elim (λz=>.inl (sm _ _ z)) λ⟨o,z⟩=>.inr ⟨o,sm _ _ z⟩
 ·exact main false (λz=>nomatch z) (λ_ H=>.inr h) λz=>nomatch z
def N5(i:Nat):DS:=λP ρ=>match ρ[i]? with
 |some (.dw r d)=>(∃t:Th,d=t.D/\t.Ok/\t.ls≠[])/\P.nx (forget r ρ)
 |_=>False
end Nf
namespace Wr
open PySem L2 PyProof.Rows Dl Nf
variable [Gr] {X:Cx}{pos p1 p2 p3:Pos}
def K3{i k j:Nat}{y z:Str}{ps:List Str}(C:Cal X.prog X.w X.K X.mg X.base k y ps Aw)(hr:Room j X.A)(hv:WV X (.Name z p3) i)(hk:k<=j:=by decide)(hg:Gl X y:=by rfl)(hdb:zB y:=by decide)(he:starEach [.Name z p3] X.env=(false,eval (.Name z p3) X.env)::starEach [] X.env:=by rfl)(hpl:zP X p1 []:=by rfl)(hs:swapsWith (.Call (.Name y p2) [.Name z p3] [] p1) none pos.line X.env=pure false:=by rfl) :
  WDS X (.Expr (.Call (.Name y p2) [.Name z p3] [] p1) pos) (N5 i):=⟨PS.wk' (gF (pcS C hr (aF hv.h bA he) hk hg hdb he hpl) hs) (by
 rintro Q σ H ⟨p,H0,own,ρ,P,E,t,w⟩
 unfold N5 at t
 split at t
 ·rename_i r d hr
  obtain⟨⟨t,rfl,tok,ne⟩,hn⟩:=t
  obtain⟨v,hv,x⟩:=E.slot i _ hr
  refine⟨v,hv,?_⟩
  exact⟨λc=>own c=some r,t,v,rfl,x,tok,ne,λH' S=>w.nx _ σ H' _ (E.many S) (Fy S) hn⟩
 ·exact t.elim)⟩
end Wr
open Wr renaming aj → Ã,ak → Í,dv → î,aC → ù,aq → ĕ,aN → Ġ,bV → ĥ,bR → Ħ,aQ → ŗ,dF → š,aU → ų,bN → Ŵ,dD → ž
open L2 renaming Kv → ĝ,yQ → ť
open Dl.Cal renaming plus → ī
open Dl renaming Cal → ż
namespace Nf
open PySem L2 PyProof.Rows Dl
abbrev SoT(ts:List Tie):Prop:=ts.Pairwise λa b=>aH a<=aH b
structure Th.Fine(t:Th):Prop where
 n1:1<=t.n
 n16:t.n<=16
 ok:t.Ok
 us:SoT t.us/\∀x∈t.us,mmT x=x
 vs:SoT t.vs
 l:t.l.Pairwise (·<=·)
 ls:(∀l∈t.ls,l.Pairwise (·<=·))/\t.ls≠[]
 ws:SoT t.ws/\∀x∈t.ws,mmT x=x
 os:∀u∈t.os,0<=u.2.2/\u.2.2<10 ^ 30
def JW{t:Tie}(h:t.1<=t.2):mmT t=t:=by
 unfold mmT
 rw[if_neg (by omega)]
 by_cases g:t.2 > t.1
 ·rw[if_pos g]
 ·rw[if_neg g]
  exact ŭ rfl (show t.1=t.2 by omega)
def JV(t:Tie):mmT (mmT t)=mmT t:=JW (by
 unfold mmT
 dsimp only
 split <;> split <;> omega)
def Nk(o:List Int)(t:Tie):mmT (eX o (mmT t))=mmT (eX o t):=by
 have c:mmT t=t\/mmT t=(t.2,t.1):=by
  unfold mmT
  by_cases h:t.2<t.1
  ·rw[if_pos h,if_neg (by omega)];exact .inr rfl
  ·rw[if_neg h]
   by_cases g:t.2 > t.1
   ·rw[if_pos g];exact .inl rfl
   ·rw[if_neg g]
    have e:t.2=t.1:=by omega
    exact .inr (by rw[e])
 rcases c with c|c
 ·rw[c]
 ·rw[c]
  unfold eX mmT
  dsimp only
  by_cases h:oX o t.1<oX o t.2
  ·rw[if_pos h,if_neg (by omega),if_neg (by omega),if_pos h]
  ·by_cases g:oX o t.2<oX o t.1
   ·rw[if_neg h,if_pos g,if_pos g,if_neg (by omega)]
   ·rw[if_neg h,if_neg (by omega),if_neg g,if_neg (by omega)]
    rw[show oX o t.1=oX o t.2 by omega]
def gP{n:Int}{us:List Tie}(n16:n<=16)(h:InT n us):∀t∈us,gj t:=λt ht=>by
 obtain⟨o1,o2⟩:=h t ht
 exact⟨by omega,by omega⟩
def pY{o:List Int}(h:Ord o){us:List Tie}(hu:InT ((o.length:Nat):Int) us):InT ((o.length:Nat):Int) (us.map (eX o)):=λt ht=>by
 obtain⟨u,hu',rfl⟩:=ß.mp ht
 obtain⟨⟨o1,o2⟩,o3,o4⟩:=hu u hu'
 exact⟨h.oX o1 o2,h.oX o3 o4⟩
def Ih{n:Int}{us:List Tie}(h:InT n us):InT n (us.map mmT):=λt ht=>by
 obtain⟨u,hu',rfl⟩:=ß.mp ht
 obtain⟨⟨o1,o2⟩,o3,o4⟩:=h u hu'
 unfold mmT
 dsimp only
 split <;> split <;> omega
def xJ{n:Int}{us:List Tie}(h:InT n us):InT n (sT us):=λt ht=>h t ((cM us).mem_iff.mp ht)
def JX{l:List Int}{x:Int}:x∈sI l↔x∈l:=(lX l).mem_iff
def Th.Ip{t:Th}{o:List Int}(h:Ord o)(ln:((o.length:Nat):Int)=t.n)(k:t.Ok):(t.by o).Ok:=by
 have e1:∀us:List Tie,us.map (λt=>mmT (eX o t))=(us.map (eX o)).map mmT:=λus=>by rw[Ú];rfl
 have up:∀us:List Tie,us.length<=41/\InT t.n us->(sT (us.map λt=>mmT (eX o t))).length<=41/\InT t.n (sT (us.map λt=>mmT (eX o t))):=λus hu=>⟨by rw[(cM _).length_eq,Á];exact hu.1,by rw[e1];rw[←ln];exact xJ (Ih (pY h (by rw[ln];exact hu.2)))⟩
 have st:∀l:List Int,(l.length<=41/\∀i∈l,0<=i/\i<t.n)->((sI (l.map (oX o))).length<=41/\∀i∈sI (l.map (oX o)),0<=i/\i<t.n):=λl hl=>⟨by rw[(lX _).length_eq,Á];exact hl.1,λi hi=>by
  obtain⟨x,hx,rfl⟩:=ß.mp (JX.mp hi)
  have:=hl.2 x hx
  rw[←ln] at this ⊢
  exact h.oX this.1 this.2⟩
 refine⟨up _ k.us,⟨by show(sT _).length<=41;rw[(cM _).length_eq,Á];exact k.vs.1,by show InT t.n (sT _);rw[←ln];exact xJ (pY h (by rw[ln];exact k.vs.2))⟩,st _ k.l,⟨by show(t.ls.map _).length<=41;rw[Á];exact k.ls.1,λl hl=>?_⟩,up _ k.ws,⟨by show(t.os.map _).length<=41;rw[Á];exact k.os.1,λu hu=>?_⟩⟩
 ·obtain⟨m,hm,rfl⟩:=ß.mp hl
  exact st m (k.ls.2 m hm)
 ·obtain⟨m,hm,rfl⟩:=ß.mp hu
  obtain⟨⟨o1,o2⟩,o3,o4⟩:=k.os.2 m hm
  show(0<=oX o m.1/\oX o m.1<t.n)/\0<=oX o m.2.1/\oX o m.2.1<t.n
  rw[←ln] at o2 o4 ⊢
  exact⟨h.oX o1 o2,h.oX o3 o4⟩
def Oa{t:Th}{o p:List Int}(ho:Ord o)(ln:((o.length:Nat):Int)=t.n)(f:t.Fine)(hp:∀i,0<=i->i<t.n->oX p (oX o i)=i):(t.by o).by p=t:=by
 have ee:∀us:List Tie,InT t.n us->∀x∈us,eX p (eX o x)=x:=λus hu x hx=>by
  obtain⟨⟨o1,o2⟩,o3,o4⟩:=hu x hx
  exact ŭ (hp _ o1 o2) (hp _ o3 o4)
 have nc:∀{a b:List Tie},InT t.n b->a.Perm b->∀t∈a,gj t:=λ{a b} hb pm x hx=>gP f.n16 hb x (pm.mem_iff.mp hx)
 have up:∀us:List Tie,InT t.n us->SoT us->(∀x∈us,mmT x=x)->sT ((sT (us.map λt=>mmT (eX o t))).map λt=>mmT (eX p t))=us:=λus hu hs hm=>by
  have pm:((sT (us.map λt=>mmT (eX o t))).map λt=>mmT (eX p t)).Perm us:=by
   refine((cM _).map _).trans ?_
   rw[Ú]
   refine List.Perm.of_eq ((ä λx hx=>?_).trans (Ĥ us))
   show mmT (eX p (mmT (eX o x)))=x
   rw[Nk,ee us hu x hx,hm x hx]
  exact(jM (nc hu pm) pm.symm hs).symm
 have vp:sT ((sT (t.vs.map (eX o))).map (eX p))=t.vs:=by
  have pm:((sT (t.vs.map (eX o))).map (eX p)).Perm t.vs:=by
   refine((cM _).map _).trans ?_
   rw[Ú]
   exact List.Perm.of_eq ((ä λx hx=>ee t.vs f.ok.vs.2 x hx).trans (Ĥ _))
  exact(jM (nc f.ok.vs.2 pm) pm.symm f.vs).symm
 have lp:∀l:List Int,(∀i∈l,0<=i/\i<t.n)->l.Pairwise (·<=·)->sI ((sI (l.map (oX o))).map (oX p))=l:=λl hl hs=>by
  have pm:((sI (l.map (oX o))).map (oX p)).Perm l:=by
   refine((lX _).map _).trans ?_
   rw[Ú]
   exact List.Perm.of_eq ((ä λx hx=>hp x (hl x hx).1 (hl x hx).2).trans (Ĥ _))
  exact(pL pm.symm hs).symm
 obtain⟨n,us,vs,l,ls,ws,os⟩:=t
 have e1:=up us f.ok.us.2 f.us.1 f.us.2
 have e2:=lp l f.ok.l.2 f.l
 have e3:(ls.map λl=>sI (l.map (oX o))).map (λl=>sI (l.map (oX p)))=ls:=by
  rw[Ú]
  exact(ä λx hx=>lp x (f.ok.ls.2 x hx).2 (f.ls.1 x hx)).trans (Ĥ _)
 have e4:=up ws f.ok.ws.2 f.ws.1 f.ws.2
 have e5:(os.map λu=>((oX o u.1,oX o u.2.1,u.2.2):Off)).map (λu=>((oX p u.1,oX p u.2.1,u.2.2):Off))=os:=by
  rw[Ú]
  refine(ä λx hx=>?_).trans (Ĥ _)
  obtain⟨⟨o1,o2⟩,o3,o4⟩:=f.ok.os.2 x hx
  exact ŭ (hp _ o1 o2) (ŭ (hp _ o3 o4) rfl)
 show Th.mk _ _ _ _ _ _ _=_
 unfold Th.by
 dsimp only at e1 vp e2 e3 e4 e5 ⊢
 rw[e1,vp,e2,e3,e4,e5]
def N8{t:Th}{o:List Int}(f:t.Fine)(hp:∀i,0<=i->i<t.n->oX o i=i):t.by o=t:=by
 have ee:∀us:List Tie,InT t.n us->∀x∈us,eX o x=x:=λus hu x hx=>by
  obtain⟨⟨o1,o2⟩,o3,o4⟩:=hu x hx
  exact ŭ (hp _ o1 o2) (hp _ o3 o4)
 have up:∀us:List Tie,InT t.n us->SoT us->(∀x∈us,mmT x=x)->sT (us.map λt=>mmT (eX o t))=us:=λus hu hs hm=>by
  have e:us.map (λt=>mmT (eX o t))=us:=(ä λx hx=>by rw[ee us hu x hx];exact hm x hx).trans (Ĥ us)
  rw[e]
  exact(jM (gP f.n16 hu) (Ž _) hs).symm
 have vp:sT (t.vs.map (eX o))=t.vs:=by
  rw[(ä λx hx=>ee t.vs f.ok.vs.2 x hx).trans (Ĥ _)]
  exact(jM (gP f.n16 f.ok.vs.2) (Ž _) f.vs).symm
 have lp:∀l:List Int,(∀i∈l,0<=i/\i<t.n)->l.Pairwise (·<=·)->sI (l.map (oX o))=l:=λl hl hs=>by
  rw[(ä λx hx=>hp x (hl x hx).1 (hl x hx).2).trans (Ĥ _)]
  exact(pL (Ž _) hs).symm
 obtain⟨n,us,vs,l,ls,ws,os⟩:=t
 have e1:=up us f.ok.us.2 f.us.1 f.us.2
 have e2:=lp l f.ok.l.2 f.l
 have e3:(ls.map λl=>sI (l.map (oX o)))=ls:=(ä λx hx=>lp x (f.ok.ls.2 x hx).2 (f.ls.1 x hx)).trans (Ĥ _)
 have e4:=up ws f.ok.ws.2 f.ws.1 f.ws.2
 have e5:(os.map λu=>((oX o u.1,oX o u.2.1,u.2.2):Off))=os:=by
  refine(ä λx hx=>?_).trans (Ĥ _)
  obtain⟨⟨o1,o2⟩,o3,o4⟩:=f.ok.os.2 x hx
  exact ŭ (hp _ o1 o2) (ŭ (hp _ o3 o4) rfl)
 unfold Th.by
 dsimp only at e1 vp e2 e3 e4 e5 ⊢
 rw[e1,vp,e2,e3,e4,e5]
def turn(o:List Int):List Int:=(Ø o.length).map λ(v:Nat)=>((o.idxOf ((v:Nat):Int):Nat):Int)
def nU(o:List Int):(turn o).length=o.length:=by
 unfold turn
 rw[Á,ĵ]
def GF{o:List Int}{i:Int}(i0:0<=i)(i1:i<((o.length:Nat):Int)):oX (turn o) i=((o.idxOf i:Nat):Int):=by
 unfold oX turn
 rw[ë,Þ,List.getElem?_range (by omega)]
 show((o.idxOf ((i.toNat:Nat):Int):Nat):Int)=_
 rw[show((i.toNat:Nat):Int)=i by omega]
def Al{o:List Int}(h:Ord o):Ord (turn o):=by
 refine⟨λx hx=>?_,?_,by rw[nU];exact h.few⟩
 ·rw[nU]
  unfold turn at hx
  obtain⟨v,hv,rfl⟩:=ß.mp hx
  have:=Ū (h.mem (i:=((v:Nat):Int)) (by omega) (by have:=ċ.mp hv;omega))
  omega
 ·unfold turn
  rw[Ů,List.pairwise_map]
  refine List.Pairwise.imp_of_mem (λ{a b} ha hb n e=>n ?_) List.nodup_range
  have ma:=h.mem (i:=((a:Nat):Int)) (by omega) (by have:=ċ.mp ha;omega)
  have mb:=h.mem (i:=((b:Nat):Int)) (by omega) (by have:=ċ.mp hb;omega)
  have ea:=List.getElem_idxOf (Ū ma)
  have eb:=List.getElem_idxOf (Ū mb)
  have e':o.idxOf ((a:Nat):Int)=o.idxOf ((b:Nat):Int):=by omega
  have:((a:Nat):Int)=((b:Nat):Int):=by
   rw[←ea,←eb]
   congr 1
  omega
def yq{o:List Int}(h:Ord o){i:Int}(i0:0<=i)(i1:i<((o.length:Nat):Int)):oX (turn o) (oX o i)=i:=by
 have r:=h.oX i0 i1
 rw[GF r.1 r.2]
 obtain⟨k,rfl⟩:=Ī i0
 have hk:k<o.length:=by omega
 have e:oX o ((k:Nat):Int)=o[k]:=by
  unfold oX
  rw[ë,Ŗ,Õ hk]
  rfl
 rw[e,h.nd.idxOf_getElem k hk]
def mkT(n:Int)(a b:List Tie)(l0:List Int)(ls:List (List Int))(c:List Tie)(os:List Off):Th:=⟨n,a,b,l0,l0::ls,c,os⟩
def lG{k m:Nat}{i:Int}(h0:0<=i)(h1:i<17):Sh k m (.int i):=Sh.int (by omega) (by omega)
def qD{n:Int}(n16:n<=16){l:List Int}(h:l.length<=41/\∀i∈l,0<=i/\i<n):Sh 1 41 (iL l):=Sh.list (k:=0) (m:=0) (λd hd=>by
 obtain⟨x,hx,rfl⟩:=ß.mp hd
 have:=h.2 x hx
 exact lG (by omega) (by omega)) (by rw[Á];omega)
def Bc{n:Int}(n16:n<=16){us:List Tie}(h:InT n us):∀d∈us.map pD,Sh 1 2 d:=λd hd=>by
 obtain⟨t,ht,rfl⟩:=ß.mp hd
 obtain⟨⟨o1,o2⟩,o3,o4⟩:=h t ht
 refine Sh.tuple (k:=0) (m:=0) (λd hd=>?_) (show 2 * 1<=2 by decide)
 simp only[É,Ö,or_false] at hd
 rcases hd with rfl|rfl
 ·exact lG o1 (by omega)
 ·exact lG o3 (by omega)
def Bb{n:Int}(n1:1<=n)(n16:n<=16){us:List Tie}(h:us.length<=41/\InT n us):Sh 3 260 (bx n us):=Sh.tuple (k:=2) (m:=123) (λd hd=>by
 simp only[É,Ö,or_false] at hd
 rcases hd with rfl|rfl
 ·exact lG (by omega) (by omega)
 ·exact Sh.tuple (k:=1) (m:=2) (Bc n16 h.2) (by rw[Á];omega)) (show 2 * 124<=260 by decide)
def Ml{t:Th}(f:t.Fine):Sh 4 12000 t.D:=Sh.list (k:=3) (m:=1800) (λd hd=>by
 have n16:=f.n16
 unfold Th.ps at hd
 simp only[É,Ö,or_false] at hd
 rcases hd with rfl|rfl|rfl|rfl|rfl|rfl
 ·exact(Bb f.n1 n16 f.ok.us).mono (by decide) (by decide)
 ·exact(Bb f.n1 n16 f.ok.vs).mono (by decide) (by decide)
 ·exact(qD n16 f.ok.l).mono (by decide) (by decide)
 ·refine(Sh.list (k:=1) (m:=41) (c:=1722) (λd hd=>?_) (by rw[Á];have:=f.ok.ls.1;omega)).mono (by decide) (by decide)
  obtain⟨l,hl,rfl⟩:=ß.mp hd
  exact qD n16 (f.ok.ls.2 l hl)
 ·exact(Sh.list (k:=1) (m:=2) (c:=123) (Bc n16 f.ok.ws.2) (by rw[Á];have:=f.ok.ws.1;omega)).mono (by decide) (by decide)
 ·refine(Sh.list (k:=1) (m:=3) (c:=164) (λd hd=>?_) (by rw[Á];have:=f.ok.os.1;omega)).mono (by decide) (by decide)
  obtain⟨u,hu,rfl⟩:=ß.mp hd
  obtain⟨⟨o1,o2⟩,o3,o4⟩:=f.ok.os.2 u hu
  have o5:=f.os u hu
  refine Sh.tuple (k:=0) (m:=0) (λd hd=>?_) (show 3 * 1<=3 by decide)
  simp only[É,Ö,or_false] at hd
  rcases hd with rfl|rfl|rfl
  ·exact lG o1 (by omega)
  ·exact lG o3 (by omega)
  ·exact Sh.big o5.1 o5.2) (show 6 * 1801<=12000 by decide)
def wQ{t:Th}(f:t.Fine){o:List Int}(h:Ord o):Gz (.tuple [t.D,iL o]):=(Sh.tuple (ds:=[t.D,iL o]) (k:=4) (m:=12000) (c:=30000) (λd hd=>by
 simp only[É,Ö,or_false] at hd
 rcases hd with rfl|rfl
 ·exact Ml f
 ·have few:=h.few
  exact(qD (n:=16) (by decide) ⟨by omega,λi hi=>by have:=h.one i hi;omega⟩).mono (by decide) (by decide)) (show 2 * 12001<=30000 by decide)).ok (by decide) (by decide)
def ga_int(k:Nat)(i:Int):GA k (.int i):=by
 cases k with
 |zero=>exact .inr (.inr (.inl ⟨i,rfl⟩))
 |succ k=>exact .inl (.inr (.inr (.inl ⟨i,rfl⟩)))
def xK(k:Nat){l:List Int}(h:l.length<=41):GA (k+1) (iL l):=.inr ⟨_,.inl rfl,by rw[Á];omega,λx hx=>by
 obtain⟨i,_,rfl⟩:=ß.mp hx
 exact ga_int k i⟩
def Ea(k:Nat)(t:Tie):GA (k+1) (pD t):=.inr ⟨_,.inr rfl,(show 2<=100 by decide),λx hx=>by
 simp only[É,Ö,or_false] at hx
 rcases hx with rfl|rfl <;> exact ga_int k _⟩
def DY{n:Int}{us:List Tie}(h:us.length<=41):GA 3 (bx n us):=.inr ⟨_,.inr rfl,(show 2<=100 by decide),λx hx=>by
 simp only[É,Ö,or_false] at hx
 rcases hx with rfl|rfl
 ·exact ga_int 2 n
 ·refine .inr ⟨_,.inr rfl,by rw[Á];omega,λx hx=>?_⟩
  obtain⟨t,_,rfl⟩:=ß.mp hx
  exact Ea 0 t⟩
def Ii{t:Th}(h:t.Ok):GA 4 t.D:=.inr ⟨_,.inl rfl,(show 6<=100 by decide),λx hx=>by
 unfold Th.ps at hx
 simp only[É,Ö,or_false] at hx
 rcases hx with rfl|rfl|rfl|rfl|rfl|rfl
 ·exact DY h.us.1
 ·exact DY h.vs.1
 ·exact xK 2 h.l.1
 ·refine .inr ⟨_,.inl rfl,by rw[Á];have:=h.ls.1;omega,λx hx=>?_⟩
  obtain⟨l,hl,rfl⟩:=ß.mp hx
  exact xK 1 (h.ls.2 l hl).1
 ·refine .inr ⟨_,.inl rfl,by rw[Á];have:=h.ws.1;omega,λx hx=>?_⟩
  obtain⟨t,_,rfl⟩:=ß.mp hx
  exact Ea 1 t
 ·refine .inr ⟨_,.inl rfl,by rw[Á];have:=h.os.1;omega,λx hx=>?_⟩
  obtain⟨u,_,rfl⟩:=ß.mp hx
  refine .inr ⟨_,.inr rfl,(show 3<=100 by decide),λx hx=>?_⟩
  simp only[É,Ö,or_false] at hx
  rcases hx with rfl|rfl|rfl <;> exact ga_int 1 _⟩
def G9{n:Int}{us:List Tie}(n16:n<=16)(h:InT n us):InT 16 us:=λt ht=>by
 obtain⟨⟨o1,o2⟩,o3,o4⟩:=h t ht
 omega
def xU{P:DEnds}{ρ:List Sl}{i:Nat}{k:Kd}{d:D}(e:eZ d=true)(h:P.nx (ρ.set i (.im d))):(match Dl.stK none ρ i (norm k d) d with
 |some s=>P.nx (ρ.set i s)
 |none=>False):=rN (s:=.im d) (by rw[cA e];rfl) h
def uw:∀os:List Off,cC (os.map oD)=true
 |[]=>rfl
 |o::os=>by
  show(eZ (oD o)&&cC (os.map oD))=true
  rw[uw os]
  rfl
def idO(n:Nat):List Int:=(Ø n).map λ(v:Nat)=>((v:Nat):Int)
def vY(n:Nat):(idO n).length=n:=by
 unfold idO
 rw[Á,ĵ]
def Nu{n:Nat}{i:Int}(i0:0<=i)(i1:i<((n:Nat):Int)):oX (idO n) i=i:=by
 unfold oX idO
 rw[ë,Þ,List.getElem?_range (by omega)]
 show((i.toNat:Nat):Int)=i
 omega
def Km{n:Nat}(h:n<=16):Ord (idO n):=by
 refine⟨λx hx=>?_,?_,by rw[vY];exact h⟩
 ·rw[vY]
  unfold idO at hx
  obtain⟨v,hv,rfl⟩:=ß.mp hx
  have:=ċ.mp hv
  omega
 ·unfold idO
  rw[Ů,List.pairwise_map]
  exact List.Pairwise.imp (λ{a b} n e=>n (by omega)) List.nodup_range
def Nq{o:List Int}(h:Ord o):(å (o.map Â)).layable0=true:=by
 have few:=h.few
 have w:∀l:List Int,(∀x∈l,0<=x/\x<16)->PyData.weightAll (l.map Â)<=6 * l.length:=λl=>by
  induction l with
  |nil=>exact λ_=>Æ _
  |cons x l ih =>
   intro hl
   have hx:=hl x Ì
   have:=ih λy hy=>hl y (Ï _ hy)
   have e:(if (x == 0)=true then 0 else x.natAbs.log2+1)<=5:=by
    by_cases z:x.natAbs=0
    ·rw[show x=0 by omega];decide
    ·have:=(Nat.log2_lt (k:=4) z).mpr (by omega)
     split <;> omega
   show(if (x == 0)=true then 0 else x.natAbs.log2+1)+1+PyData.weightAll (l.map Â)<=6 * (l.length+1)
   omega
 have h1:=lay_ints o
 have h2:=oF o
 have h3:=w o λx hx=>by have:=h.one x hx;omega
 show(Ĉ (o.map Â)&&decide (ö (o.map Â)+1<=64)&&decide (PyData.weightAll (o.map Â)<=2 ^ 20))=true
 rw[h1,decide_eq_true (by omega),decide_eq_true (by omega)]
 rfl
section
variable {P:Program}{w:World}{K:Ê}{mg:Str->Option Value}{base:Heap}{f:Addr}{fd:FuncData}{PT CN:Addr}
def Bg:FnScope ["_law_script","_law_pen_here","_law_n","_law_web","_law_one","_law_family_here","_law_added","_law_most","_law_offers","_law_thing","_law_same","_law_order_here","_law_kept","_law_due","_law_turned","_law_by","_law_meant","_law_turn","_law_told_here"] ["_law_script"] (aB (top 41)):=zC
def tU:(["_law_a","_law_b","_law_script","_law_pen_here","_law_n","_law_web","_law_one","_law_family_here","_law_added","_law_most","_law_offers","_law_thing","_law_same","_law_order_here","_law_kept","_law_due","_law_turned","_law_by","_law_meant","_law_turn","_law_told_here"]:List Str).Nodup:=by decide +kernel
def tR:(["_law_some","_law_script","_law_pen_here","_law_n","_law_web","_law_one","_law_family_here","_law_added","_law_most","_law_offers","_law_thing","_law_same","_law_order_here","_law_kept","_law_due","_law_turned","_law_by","_law_meant","_law_turn","_law_told_here"]:List Str).Nodup:=by decide +kernel
def tQ:(["_law_v","_law_script","_law_pen_here","_law_n","_law_web","_law_one","_law_family_here","_law_added","_law_most","_law_offers","_law_thing","_law_same","_law_order_here","_law_kept","_law_due","_law_turned","_law_by","_law_meant","_law_turn","_law_told_here"]:List Str).Nodup:=by decide +kernel
def Df:(["_law_v","_law_some","_law_script","_law_pen_here","_law_n","_law_web","_law_one","_law_family_here","_law_added","_law_most","_law_offers","_law_thing","_law_same","_law_order_here","_law_kept","_law_due","_law_turned","_law_by","_law_meant","_law_turn","_law_told_here"]:List Str).Nodup:=by decide +kernel
def nP:(["_law_a","_law_b","_law_cost","_law_script","_law_pen_here","_law_n","_law_web","_law_one","_law_family_here","_law_added","_law_most","_law_offers","_law_thing","_law_same","_law_order_here","_law_kept","_law_due","_law_turned","_law_by","_law_meant","_law_turn","_law_told_here"]:List Str).Nodup:=by decide +kernel
def JK(F:Fun K "law" "law" (top 41) f fd)(B:Dl.Bn mg)(m_repr:mg "repr"=none)(SY:Dl.uX base)(C__law_pen:ż P w K mg base 1 "_law_pen" ["_law_script"] vo)(C__law_draw:ż P w K mg base 1 "_law_draw" ["_law_pen_here","_law_many"] (spP (CP K) uD))(C__law_up:ż P w K mg base 1 "_law_up" ["_law_pairs_here"] (spD fUp))(C__law_pairs:ż P w K mg base 2 "_law_pairs" ["_law_pen_here","_law_n"] (spP (CP K) Eo))(C__law_family:ż P w K mg base 3 "_law_family" ["_law_pen_here","_law_n"] (spP (CP K) NT))(C__law_order:ż P w K mg base 2 "_law_order" ["_law_pen_here","_law_n"] (spP (CP K) wz))(C__law_put:ż P w K mg base 1 "_law_put" ["_law_pairs_here","_law_order_here"] (spD NQ))(C__law_all_refused:ż P w K mg base 9 "_law_all_refused" ["_law_thing","_law_order_here"] (spT (bJ PT) Io))(C__law_alike:ż P w K mg base 6 "_law_alike" ["_law_found","_law_due"] (spD (fAl 5)))(C__law_told:ż P w K mg base 7 "_law_told" ["_law_thing","_law_order_here"] (spD El))(C__law_spoil:ż P w K mg base 1 "_law_spoil" ["_law_told_here"] Aw):FnOk P w K mg base CX0 10 f fd ["_law_script"] (Ay K (bJ PT)):=by
 refine F.ok Bg (λvs H Q E h=>by obtain⟨a,ns,rfl,_⟩:=h;rfl) (λcdv A outer s H vs Q E hr h=>?_)
 obtain⟨sc,ns,rfl,hS,q⟩:=h
 have nd:=Bg.nd
 refine⟨_,(aO (eF (i:=1) nd rfl zQ (pcS C__law_pen hr (aF (pv 0) bA) (by decide) rfl (by decide) rfl rfl)) (Wr.WDSs.h (ù (ĥ none (i:=2) nd rfl zQ (ŗ (ų (Ã (Wr.aR ĕ (Wr.dcP (ī (T:=(bJ PT)) C__law_draw) hr (Wr.wv 1) (Ã ĕ Í))) (Ã ĕ Í))) (Wr.jh B.int boot_int (Ã (Wr.gK hr.units (Wr.dcP (ī (T:=(bJ PT)) C__law_draw) hr (Wr.wv 1) (Ã ĕ Í)) ĕ) Í))))
  (ù (ĥ none (i:=3) nd rfl zQ (Ħ (Ã (î 2) (Ã (Wr.dZ B.tuple (Ã (Wr.dc C__law_up hr (Ã (Wr.dcP (ī (T:=(bJ PT)) C__law_pairs) hr (Wr.wv 1) (Ã (î 2) Í)) Í)) Í)) Í))))
  (ù (ĥ none (i:=4) nd rfl zQ (Ħ (Ã (î 2) (Ã (Wr.dZ B.tuple (Ã (Wr.eG B.sorted (Ã (Wr.dcP (ī (T:=(bJ PT)) C__law_pairs) hr (Wr.wv 1) (Ã (î 2) Í)) Í)) Í)) Í))))
  (ù (ĥ none (i:=5) nd rfl zQ (Wr.dcP (ī (T:=(bJ PT)) C__law_family) hr (Wr.wv 1) (Ã (î 2) Í)))
  (ù (ĥ none (i:=6) nd rfl zQ (Wr.dc C__law_up hr (Ã (Wr.dcP (ī (T:=(bJ PT)) C__law_pairs) hr (Wr.wv 1) (Ã (î 2) Í)) Í)))
  (ù (ĥ none (i:=7) nd rfl zQ (ŗ (ų (Ã ĕ (Ã ĕ (Ã (Wr.qP ĕ ĕ) Í)))) (Wr.dcP (ī (T:=(bJ PT)) C__law_draw) hr (Wr.wv 1) (Ã ĕ Í))))
  (ù (Wr.uH none ["_law_a","_law_b"] (i:=8) rfl nd rfl zQ (ž (Wr.fK (Wr.dcP (ī (T:=(bJ PT)) C__law_pairs) hr (Wr.wv 1) (Ã (î 2) Í)) Wr.cJ (Wr.bO ĕ))) (λc=>(Wr.iY (n:=2) rfl (š (Ġ (i:=0) tU rfl zQ) (š (Ġ (i:=1) tU rfl zQ) Wr.fU)))) (λc=>Ŵ) (λc=>(Ħ (Ã (î 0) (Ã (î 1) (Ã (Wr.dcP (ī (T:=(bJ PT)) C__law_draw) hr (Wr.wv 3) (Ã (î 9) Í)) Í))))))
  (ù (ĥ none (i:=9) nd rfl zQ (ų (Ã (î 3) (Ã (î 4) (Ã (Wr.gJ B.list (Ã (ŗ (î 5) ĕ) Í)) (Ã (î 5) (Ã (î 6) (Ã (î 8) Í))))))))
  (ù (ĥ none (i:=10) nd rfl zQ (ų (Ã (î 3) (Ã (î 4) (Ã (Wr.gJ B.list (Ã (ŗ (î 5) ĕ) Í)) (Ã (Wr.cZ ["_law_some"] rfl (ž (î 5)) (λc=>(Ġ (i:=0) tR rfl zQ)) (λc=>Ŵ) (λc=>(Wr.gJ B.list (Ã (î 0) Í)))) (Ã (Wr.gJ B.list (Ã (î 6) Í)) (Ã (Wr.gJ B.list (Ã (î 8) Í)) Í))))))))
  (ù (ĥ none (i:=11) nd rfl zQ (Wr.dcP (ī (T:=(bJ PT)) C__law_order) hr (Wr.wv 1) (Ã (î 2) Í)))
  (ù (ĥ none (i:=12) nd rfl zQ (Wr.jQ SY hr.gd hr.units m_repr (Ã (Ħ (Ã (î 9) (Ã (î 11) Í))) Í)))
  (ù (ĥ none (i:=13) nd rfl zQ (ų (Ã (Ħ (Ã (î 2) (Ã (Wr.dZ B.tuple (Ã (Wr.dc C__law_up hr (Ã (Wr.dc C__law_put hr (Ã (ŗ (î 3) ĕ) (Ã (î 11) Í))) Í)) Í)) Í))) (Ã (Ħ (Ã (î 2) (Ã (Wr.dZ B.tuple (Ã (Wr.eG B.sorted (Ã (Wr.dc C__law_put hr (Ã (ŗ (î 4) ĕ) (Ã (î 11) Í))) Í)) Í)) Í))) Í))))
  (ù (ĥ none (i:=13) nd rfl zQ (Wr.aR (î 13) (ų (Ã (Wr.eN B.sorted (Ã (Wr.cZ ["_law_v"] rfl (ž (ŗ (î 5) ĕ)) (λc=>(Ġ (i:=0) tQ rfl zQ)) (λc=>Ŵ) (λc=>(ŗ (î 12) (î 0)))) Í)) (Ã (Wr.cZ ["_law_some"] rfl (ž (î 5)) (λc=>(Ġ (i:=0) tR rfl zQ)) (λc=>Ŵ) (λc=>(Wr.eN B.sorted (Ã (Wr.cZ ["_law_v"] rfl (ž (î 0)) (λc=>(Ġ (i:=0) Df rfl zQ)) (λc=>Ŵ) (λc=>(ŗ (î 13) (î 0)))) Í)))) Í)))))
  (ù (ĥ none (i:=13) nd rfl zQ (Wr.aR (î 13) (ų (Ã (Wr.dc C__law_up hr (Ã (Wr.dc C__law_put hr (Ã (î 6) (Ã (î 11) Í))) Í)) (Ã (Wr.cZ ["_law_a","_law_b","_law_cost"] rfl (ž (î 8)) (λc=>(Wr.iY (n:=3) rfl (š (Ġ (i:=0) nP rfl zQ) (š (Ġ (i:=1) nP rfl zQ) (š (Ġ (i:=2) nP rfl zQ) Wr.fU))))) (λc=>Ŵ) (λc=>(Ħ (Ã (ŗ (î 14) (î 0)) (Ã (ŗ (î 14) (î 1)) (Ã (î 2) Í)))))) Í)))))
  (ù (Wr.uH none ["_law_v"] (i:=14) rfl nd rfl zQ (Wr.cW B.range (Ã (î 2) Í)) (λc=>(Ġ (i:=0) tQ rfl zQ)) (λc=>Ŵ) (λc=>(Wr.nA (î 12) (Ã (î 0) Í))))
  (ù (Wr.bW (Wr.wpt (Wr.kO (Wr.fJ (Wr.cN (Wr.dc C__law_alike hr (Ã (Wr.dc C__law_told hr (Ã (Wr.dc C__law_told hr (Ã (î 9) (Ã (î 11) Í))) (Ã (î 14) Í))) (Ã (î 10) Í))))) (Wr.jg (Wr.fJ (Wr.cN (Wr.dcT (C:=(CP K)) (i:=1) C__law_all_refused hr (Ã (î 9) (Ã (î 11) Í)))))))) (Wr.aD (Wr.aG Wr.jr)) Wr.aL)
  (ù (Wr.iW Ė rfl (ž (Ħ (Ã (Ħ (Ã (î 11) (Ã (î 13) Í))) (Ã (Ħ (Ã (Wr.eO rfl B.list B.range (Ã (î 2) Í)) (Ã (î 10) Í))) Í)))) (Wr.iY (n:=2) rfl (š (Ġ (i:=15) nd rfl zQ) (š (Ġ (i:=16) nd rfl zQ) Wr.fU))) (ù (Wr.iW Ė rfl (Wr.cW B.range (Ã ĕ Í)) (Ġ (i:=17) nd rfl zQ) (ù (ĥ (some 0) (i:=18) nd rfl zQ (Wr.dc C__law_told hr (Ã (î 9) (Ã (î 15) Í))))
  (ù (Wr.bW (Wr.fJ (Wr.cN (Wr.dc C__law_alike hr (Ã (î 18) (Ã (î 16) Í))))) (Wr.aD (Wr.aG Wr.jr)) Wr.aL)
  (ù (Wr.K3 C__law_spoil hr (Wr.wv 18))
  (ù (Wr.bW (Wr.gG hr.units (Wr.jQ SY hr.gd hr.units m_repr (Ã (Ħ (Ã (î 9) (Ã (î 11) Í))) Í)) (î 12)) (Wr.aD (Wr.aG Wr.jr)) Wr.aL) (Wr.bU [17,18] Wr.aL)))))) (Wr.bU [15,16,17,18] Wr.aL)))
  (Wr.bU [15,16,17,18] (Wr.aD (Wr.aG Wr.jr)))))))))))))))))))))),KZ hS q (by decide) ?_⟩
 refine⟨rfl,8,rfl,by decide,by decide,λr r0 r1=>⟨zK,rfl,4,rfl,by decide,by decide,λr2 a0 a1=>?_⟩⟩
 obtain⟨n,hn,n1,n16⟩:∃n:Int,atI [Â (1+r),Â 16] (if decide (r2=0)=true then 1 else 0)=some (.int n)/\1<=n/\n<=16:=by
  by_cases c:r2=0
  ·rw[decide_eq_true c]
   exact⟨16,rfl,by decide,by decide⟩
  ·rw[decide_eq_false c]
   exact⟨1+r,rfl,by omega,by omega⟩
 refine⟨.int n,hn,?_⟩
 refine⟨rfl,n,rfl,n1,n16,λus1 l1 h1=>⟨us1,rfl,by omega,G9 n16 h1,zK,?_⟩⟩
 refine xU (d:=bx n (sT (us1.map mmT))) (ji _ _) ?_
 have pick:∀us:List Tie,us.length<=40->InT n us->∀vs:List Tie,vs.Perm us->vs.Pairwise (λa b=>aH a<=aH b)->vs=sT us:=λus lu hu vs hp hs=>jM (gP n16 hu) hp hs
 refine⟨rfl,n,rfl,n1,n16,λvs1 l2 h2=>⟨vs1,.inl rfl,by omega,gP n16 h2,λvs hp hs=>⟨zK,?_⟩⟩⟩
 have ev:=pick vs1 l2 h2 vs hp hs
 subst ev
 refine xU (d:=bx n (sT vs1)) (ji _ _) ?_
 refine⟨rfl,n,rfl,n1,n16,λls fam ne=>?_⟩
 refine⟨rfl,n,rfl,n1,n16,λws1 l3 h3=>⟨ws1,rfl,by omega,G9 n16 h3,?_⟩⟩
 refine⟨⟨by decide,by decide,by decide⟩,zK,rfl,3,rfl,by decide,by decide,λr3 b0 b1=>?_⟩
 obtain⟨m,hm,m1,m2⟩:∃m:Int,atI [Â 10,Â 1000,Â (10 ^ 30)] r3=some (.int m)/\1<=m/\m<=10 ^ 30:=by
  have:r3=0\/r3=1\/r3=2:=by omega
  rcases this with rfl|rfl|rfl
  ·exact⟨10,rfl,by decide,by decide⟩
  ·exact⟨1000,rfl,by decide,by decide⟩
  ·exact⟨10 ^ 30,rfl,by decide,by decide⟩
 refine⟨.int m,hm,?_⟩
 refine⟨rfl,n,rfl,n1,n16,λps1 l4 h4=>?_⟩
 have e8:cj (ps1.map pD) none (some 8)=(ps1.take 8).map pD:=by rw[show(8:Int)=((8:Nat):Int) from rfl,wC,List.map_take]
 refine .inl ⟨by show cC (cj (ps1.map pD) none (some 8))=true;rw[e8];exact jj _,?_⟩
 rw[e8]
 have l8:(ps1.take 8).length<=8:=by rw[Ĕ];omega
 refine⟨by rw[Á];omega,.imm,λi ys=>∃os:List Off,ys=os.map oD/\os.length=i/\∀u∈os,((0<=u.1/\u.1<n)/\0<=u.2.1/\u.2.1<n)/\0<=u.2.2/\u.2.2<10 ^ 30,⟨[],rfl,rfl,λu h=>nomatch h⟩,λi d ys hd hy=>?_,λys hy=>?_⟩
 ·obtain⟨os,rfl,lo,ho⟩:=hy
  rw[Þ] at hd
  obtain⟨p,hp,rfl⟩:=Ő.mp hd
  have hp:=h4 p (List.mem_of_mem_take (Ñ hp))
  refine⟨rfl,rF λs0 s1 e0 e1=>?_⟩
  have e0:s0=.im (.int p.1):=e0
  have e1:s1=.im (.int p.2):=e1
  subst e0 e1
  refine bw (B:=True) ⟨rfl,m,rfl,by omega,by omega,λc c0 c1=>⟨zK,rfl,os++[(p.1,p.2,c)],by rw[Đ];rfl,by rw[Ð,í,lo],λu hu=>?_⟩⟩
  rcases è.mp hu with hu|hu
  ·exact ho u hu
  ·rw[ý.mp hu]
   exact⟨hp,c0,by show c<10 ^ 30;omega⟩
 obtain⟨os,rfl,lo,hos⟩:=hy
 rw[Á] at lo
 obtain⟨l0,ls',rfl⟩:∃a b,ls=a::b:=by
  cases ls with
  |nil=>exact absurd rfl ne
  |cons a b=>exact⟨a,b,rfl⟩
 have hx0:atI ((l0::ls').map iL) 0=some (iL l0):=j9 (xs:=(l0::ls').map iL) (j:=0) rfl
 have up:∀a:List Tie,a.length<=40->InT n a->((sT (a.map mmT)).length<=41/\InT n (sT (a.map mmT)))/\SoT (sT (a.map mmT))/\∀x∈sT (a.map mmT),mmT x=x:=λa la ha=>⟨⟨by rw[(cM _).length_eq,Á];omega,xJ (Ih ha)⟩,Bh _,λx hx=>by
  obtain⟨y,_,rfl⟩:=ß.mp ((cM _).mem_iff.mp hx)
  exact JV y⟩
 have fine:(mkT n (sT (us1.map mmT)) (sT vs1) l0 ls' (sT (ws1.map mmT)) os).Fine:=⟨n1,n16,⟨(up us1 l1 h1).1,⟨by show(sT vs1).length<=41;rw[(cM _).length_eq];omega,xJ h2⟩,⟨by have:=fam.len l0 Ì;show l0.length<=41;omega,fam.one l0 Ì⟩,⟨by have:=fam.few;show(l0::ls').length<=41;omega,λl hl=>⟨by have:=fam.len l hl;omega,fam.one l hl⟩⟩,(up ws1 l3 h3).1,⟨by show os.length<=41;omega,λu hu=>(hos u hu).1⟩⟩,(up us1 l1 h1).2,Bh _,fam.le l0 Ì,⟨fam.le,λz=>nomatch z⟩,(up ws1 l3 h3).2,λu hu=>(hos u hu).2⟩
 refine⟨_,hx0,.inl ⟨bC l0,zK,?_⟩⟩
 refine⟨_,hx0,.inl ⟨bC l0,?_⟩⟩
 have lf:=fam.few
 refine gO (l0::ls') iL iL .new rfl (by omega) (λl hl A B hA=>bw (B:=B) (.inl ⟨bC l,rfl,hA⟩)) ?_
 refine .inl ⟨jj _,.inl ⟨uw os,zK,?_⟩⟩
 refine⟨rfl,n,rfl,by omega,by omega,λo io=>?_⟩
 have io':Ord o:=⟨λx hx=>by rw[io.len];exact io.rng x hx,io.nd,by have:=io.len;omega⟩
 show uL (Hq 12 none (tCl wj (dH (vd (dH (tV 9) (dH (tV 11) jF))) jF))) _ _ [.any,.pen (CT (CP K) (bJ PT)),.im (.int (mkT n (sT (us1.map mmT)) (sT vs1) l0 ls' (sT (ws1.map mmT)) os).n),.im (bx (mkT n (sT (us1.map mmT)) (sT vs1) l0 ls' (sT (ws1.map mmT)) os).n (mkT n (sT (us1.map mmT)) (sT vs1) l0 ls' (sT (ws1.map mmT)) os).us),.im (bx (mkT n (sT (us1.map mmT)) (sT vs1) l0 ls' (sT (ws1.map mmT)) os).n (mkT n (sT (us1.map mmT)) (sT vs1) l0 ls' (sT (ws1.map mmT)) os).vs),.sn (.list ((mkT n (sT (us1.map mmT)) (sT vs1) l0 ls' (sT (ws1.map mmT)) os).ls.map iL)),.sn (.list ((mkT n (sT (us1.map mmT)) (sT vs1) l0 ls' (sT (ws1.map mmT)) os).ws.map pD)),.im (.int m),.sn (.list ((mkT n (sT (us1.map mmT)) (sT vs1) l0 ls' (sT (ws1.map mmT)) os).os.map oD)),.sn (mkT n (sT (us1.map mmT)) (sT vs1) l0 ls' (sT (ws1.map mmT)) os).D,.sn (mkT n (sT (us1.map mmT)) (sT vs1) l0 ls' (sT (ws1.map mmT)) os).D,.sn (iL o),.any,.any,.any,.any,.any,.any,.any]
 have ln:((o.length:Nat):Int)=(mkT n (sT (us1.map mmT)) (sT vs1) l0 ls' (sT (ws1.map mmT)) os).n:=io.len
 have hx1:atI ((mkT n (sT (us1.map mmT)) (sT vs1) l0 ls' (sT (ws1.map mmT)) os).ls.map iL) 0=some (iL (mkT n (sT (us1.map mmT)) (sT vs1) l0 ls' (sT (ws1.map mmT)) os).l):=hx0
 generalize mkT n (sT (us1.map mmT)) (sT vs1) l0 ls' (sT (ws1.map mmT)) os=t at *
 clear hx0 fam ne l1 h1 l2 h2 hp hs l3 h3 l4 h4 e8 l8 lo hos up pick
 refine⟨zK,_,_,rfl,wQ fine io',?_⟩
 have few:=io'.few
 have ok:=fine.ok
 have n16':=fine.n16
 have n1':=fine.n1
 have iu:InT ((o.length:Nat):Int) t.us:=by rw[ln];exact ok.us.2
 have iv:InT ((o.length:Nat):Int) t.vs:=by rw[ln];exact ok.vs.2
 have iw:InT ((o.length:Nat):Int) t.ws:=by rw[ln];exact ok.ws.2
 have nn:((o.length:Nat):Int)<=16:=by omega
 have mm:∀us:List Tie,(us.map (eX o)).map mmT=us.map λt=>mmT (eX o t):=λus=>by rw[Ú];rfl
 have wi:∀(k:Kd) (us:List Tie),norm k (bx t.n us)=.imm:=λk us=>cA (ji t.n us)
 refine⟨.tuple (t.us.map pD),rfl,false,t.us,o,rfl,ok.us.1,io',iu,?_⟩
 refine⟨t.us.map (eX o),rfl,by rw[Á];exact ok.us.1,G9 nn (pY io' iu),zK,?_⟩
 refine⟨.tuple (t.vs.map pD),rfl,false,t.vs,o,rfl,ok.vs.1,io',iv,?_⟩
 refine⟨t.vs.map (eX o),.inl rfl,by rw[Á];have:=ok.vs.1;omega,gP nn (pY io' iv),λvs hp hs=>⟨zK,zK,?_⟩⟩
 have ev:=jM (gP nn (pY io' iv)) hp hs
 subst ev
 clear hp hs
 rw[mm]
 refine rN (s:=.sn (.list [bx t.n (t.by o).us,bx t.n (t.by o).vs])) ?_ ?_
 ·show Dl.stK none _ 13 (norm ((joins [(norm _ (bx t.n (t.by o).us),bx t.n (t.by o).us),(norm _ (bx t.n (t.by o).vs),bx t.n (t.by o).vs)]).join .new) _) _=some _
  rw[wi,wi]
  rfl
 have hl:∀i∈t.l,0<=i/\i<((o.length:Nat):Int):=by rw[ln];exact ok.l.2
 have hls:∀l∈t.ls,l.length<=41/\∀i∈l,0<=i/\i<((o.length:Nat):Int):=by rw[ln];exact ok.ls.2
 refine⟨_,hx1,?_⟩
 refine gO t.l Â (λi=>.int (oX o i)) .imm rfl (by have:=ok.l.1;omega) (λi hi A B hA=>bw (B:=B) ⟨_,cL (hl i hi).1 (hl i hi).2,rfl,hA⟩) ?_
 refine⟨t.l.map (oX o),by rw[Ú];rfl,by rw[Á];have:=ok.l.1;omega,λout hp hs=>?_⟩
 have ev:=pL hp hs
 subst ev
 clear hp hs
 refine gO t.ls iL (λl=>iL (sI (l.map (oX o)))) .new rfl (by have:=ok.ls.1;omega) (λl hl' A B hA=>bw (B:=B) ?_) ?_
 ·refine gO l Â (λi=>.int (oX o i)) .imm rfl (by have:=(hls l hl').1;omega) (λi hi A B hA=>bw (B:=B) ⟨_,cL ((hls l hl').2 i hi).1 ((hls l hl').2 i hi).2,rfl,hA⟩) ?_
  exact⟨l.map (oX o),by rw[Ú];rfl,by rw[Á];have:=(hls l hl').1;omega,λout hp hs=>⟨rfl,by rw[pL hp hs];exact hA⟩⟩
 refine⟨zK,zK,.inr ?_⟩
 refine⟨true,t.ws,o,rfl,ok.ws.1,io',iw,?_⟩
 refine⟨t.ws.map (eX o),rfl,by rw[Á];exact ok.ws.1,G9 nn (pY io' iw),?_⟩
 rw[mm]
 have hos:∀u∈t.os,(0<=u.1/\u.1<((o.length:Nat):Int))/\0<=u.2.1/\u.2.1<((o.length:Nat):Int):=by rw[ln];exact ok.os.2
 refine gO t.os oD (λu=>oD (oX o u.1,oX o u.2.1,u.2.2)) .imm rfl (by have:=ok.os.1;omega) (λu hu A B hA=>?_) ?_
 ·obtain⟨⟨o1,o2⟩,o3,o4⟩:=hos u hu
  exact bw (B:=True) ⟨rfl,_,cL o1 o2,_,cL o3 o4,zK,rfl,hA⟩
 refine⟨zK,zK,.inr ?_⟩
 refine⟨⟨by omega,by omega⟩,?_⟩
 have tn:(t.n - 0).toNat=o.length:=by omega
 have tn0:t.n.toNat=o.length:=by omega
 refine gO (Ø t.n.toNat) (λi:Nat=>Â (0+((i:Nat):Int))) (λi:Nat=>.int ((o.idxOf (0+((i:Nat):Int)):Nat):Int)) .imm rfl (by rw[ĵ];omega) (λi hi A B hA=>bw (B:=B) ⟨o,rfl,Nq io',io'.mem (by omega) (by have:=ċ.mp hi;omega),rfl,hA⟩) ?_
 have et:(Ø t.n.toNat).map (λi:Nat=>Â ((o.idxOf (0+((i:Nat):Int)):Nat):Int))=(turn o).map Â:=by
  unfold turn
  rw[Ú,tn0]
  exact ä λv _=>by rw[Int.zero_add];rfl
 rw[et]
 refine⟨t,o,rfl,io',ln,ok,t.by o,turn o,rfl,Al io',by rw[nU];exact ln,Th.Ip io' ln ok,?_⟩
 rw[Oa io' ln fine (λi i0 i1=>yq io' i0 (by omega))]
 refine⟨t.D,rfl,Ii ok,cI (A:=True) ⟨rfl,t,o,rfl,io',ln,by omega,cI (A:=True) ?_⟩⟩
 have e13:å [bx t.n (t.by o).us,bx t.n (t.by o).vs,iL (t.by o).l,.list (t.ls.map λl=>iL (sI (l.map (oX o)))),.list ((t.by o).ws.map pD),.list (t.os.map λu=>oD (oX o u.1,oX o u.2.1,u.2.2))]=(t.by o).D:=by
  show å _=å [bx t.n (t.by o).us,bx t.n (t.by o).vs,iL (t.by o).l,.list ((t.ls.map λl=>sI (l.map (oX o))).map iL),.list ((t.by o).ws.map pD),.list ((t.os.map λu=>((oX o u.1,oX o u.2.1,u.2.2):Off)).map oD)]
  rw[Ú,Ú]
  rfl
 have ei:å (gA 0 (t.n - 0).toNat)=iL (idO o.length):=by
  unfold iL idO
  rw[Ú,tn]
  show å ((Ø o.length).map λi:Nat=>Â (0+((i:Nat):Int)))=_
  exact congrArg å (ä λv _=>by rw[Int.zero_add];rfl)
 have fp:∀p∈[(o,t.by o),(idO o.length,t)],Ord p.1/\((p.1.length:Nat):Int)=t.n/\t.by p.1=p.2/\p.2.Ok/\p.2.ls≠[]:=λp hp=>by
  simp only[É,Ö,or_false] at hp
  rcases hp with rfl|rfl
  ·refine⟨io',ln,rfl,Th.Ip io' ln ok,λz=>fine.ls.2 ?_⟩
   have z:t.ls.map (λl=>sI (l.map (oX o)))=[]:=z
   exact List.map_eq_nil_iff.mp z
  ·exact⟨Km few,by rw[vY];exact ln,N8 fine (λi i0 i1=>Nu i0 (by omega)),ok,fine.ls.2⟩
 refine⟨zK,⟨by omega,by omega⟩,zK,zK,?_⟩
 refine mK [(o,t.by o),(idO o.length,t)] (λp=>ĺ [iL p.1,p.2.D]) (λρ=>∃s13 s14,ρ=[.any,.pen (CT (CP K) (bJ PT)),.im (.int t.n),.im (bx t.n t.us),.im (bx t.n t.vs),.sn (.list (t.ls.map iL)),.sn (.list (t.ws.map pD)),.im (.int m),.sn (.list (t.os.map oD)),.sn t.D,.sn t.D,.sn (iL o),.im (.str (ĺ [t.D,iL o]).shown),.sn s13,.sn s14,.any,.any,.any,.any]) ?_ rfl ⟨_,_,rfl⟩ ?_ ?_
 ·show [ĺ [iL o,å [bx t.n (t.by o).us,bx t.n (t.by o).vs,iL (t.by o).l,.list (t.ls.map λl=>iL (sI (l.map (oX o)))),.list ((t.by o).ws.map pD),.list (t.os.map λu=>oD (oX o u.1,oX o u.2.1,u.2.2))]],ĺ [.list (gA 0 (t.n - 0).toNat),t.D]]=_
  rw[e13,ei]
  rfl
 ·rintro p hp ρ ⟨s13,s14,rfl⟩
  obtain⟨op,lp,ep,okp,nep⟩:=fp p hp
  refine⟨rfl,rF λs0 s1 e0 e1=>?_⟩
  have e0:s0=.sn (iL p.1):=e0
  have e1:s1=.sn p.2.D:=e1
  subst e0 e1
  refine⟨⟨by decide,by decide⟩,mK (Ø 2) (λi:Nat=>.int (0+((i:Nat):Int))) (λρ=>ρ=[.any,.pen (CT (CP K) (bJ PT)),.im (.int t.n),.im (bx t.n t.us),.im (bx t.n t.vs),.sn (.list (t.ls.map iL)),.sn (.list (t.ws.map pD)),.im (.int m),.sn (.list (t.os.map oD)),.sn t.D,.sn t.D,.sn (iL o),.im (.str (ĺ [t.D,iL o]).shown),.sn s13,.sn s14,.sn (iL p.1),.sn p.2.D,.any,.any]) rfl rfl rfl ?_ ?_⟩
  ·rintro i hi ρ rfl
   refine⟨t,p.1,rfl,op,lp,ok,?_⟩
   rw[ep]
   refine⟨p.2.D,rfl,Ii okp,cI (A:=True) ?_⟩
   refine⟨⟨p.2,rfl,okp,nep⟩,?_⟩
   refine⟨zK,_,_,rfl,wQ fine io',?_⟩
   show if (!decide ((ĺ [t.D,iL o]).shown=(ĺ [t.D,iL o]).shown))=true then _ else _
   rw[decide_eq_true rfl]
   exact cI (A:=True) rfl
  ·rintro ρ rfl
   exact⟨s13,s14,rfl⟩
 ·rintro ρ ⟨s13,s14,rfl⟩
  exact⟨rfl,rfl⟩
end
def len1{α:Type}:∀us:List α,us.length=1->∃a,us=[a]
 |[a],_=>⟨a,rfl⟩
def len2{α:Type}:∀us:List α,us.length=2->∃a b,us=[a,b]
 |[a,b],_=>⟨a,b,rfl⟩
def O9{α:Type}:∀us:List α,us.length=3->∃a b c,us=[a,b,c]
 |[a,b,c],_=>⟨a,b,c,rfl⟩
def aJ{K:Ê}{f:Addr}{oc:Value}{od:Option Addr}{fd:FuncData}{sl:Array (Option Value)}(l:K.lookup f=some ⟨oc,od,.func fd,sl⟩):ň K (.ref f)=true:=by
 unfold ň
 simp only[l]
def cD{P:Program}{w:World}{K:Ê}{mg:Str->Option Value}{base:Heap}{k:Nat}{x:Str}{st:Stmt}{f:Addr}{fd:FuncData}{ps:List Str}{sp:Sp}(F:Fun K x x st f fd)(b:Binds K fd ps [])(m:mg x=some (.ref f))(h:FnOk P w K mg base CX0 k f fd ps sp) :
  ż P w K mg base k x ps sp:=⟨f,fd,h,b,F.kp,m⟩
def d8{P:Program}{w:World}{K:Ê}{mg:Str->Option Value}{base:Heap}{k:Nat}{x:Str}{st:Stmt}{f:Addr}{fd:FuncData}{ps:List Str}{sp:Sp}(F:Fun K x x st f fd)(b:Binds K fd ps [])(m:mg x=some (.ref f))(h:FnOk P w K mg base (CX1 P w) k f fd ps sp) :
  Dl.Cal1 P w K mg base k x ps sp:=⟨f,fd,h,b,F.kp,m⟩
abbrev zl(K:Ê)(f:Addr)(x:Str)(st:Stmt)(oc:Value)(od:Option Addr)(kV dc pm:Value)(an:Option Addr)(cd ct:Value)(sl:Array (Option Value)):Prop:=K.lookup f=some ⟨oc,od,.func (W.fnOf x x (fV st) (bY st) (aB st) .none kV dc pm an cd ct),sl⟩
abbrev za(K:Ê)(x:Str)(f:Addr):Prop:=W.nsIn K mainGlobals x=some (some (.ref f))
abbrev zc(K:Ê)(x:Str)(cd:Value):Prop:=W.codeIn K cd x=true
abbrev zn(K:Ê)(x:Str):Prop:=W.nsIn K mainGlobals x=some none
def all_mk{l:W.OpenLaw}{w:World}{K:Ê}{h:Heap}{mg:Str->Option Value}{c PT fa f0 f1 f2 f3 f4 f5 f6 f7 f8 f9 f10 f11 f12 f13 f14 f15 f16 f17 f18 f19 f20 f21 f22 f23 f24 f25 f26:Addr}(hT:h.get? PT=some (ţ #[]))(X:K.In h)(G:h.Ns mainGlobals mg)(hfa:mg "law"=some (.ref fa)){od0 an0 od1 an1 od2 an2 od3 an3 od4 an4 od5 an5 od6 an6 od7 an7 od8 an8 od9 an9 od10 an10 od11 an11 od12 an12 od13 an13 od14 an14 od15 an15 od16 an16 od17 an17 od18 an18 od19 an19 od20 an20 od21 an21 od22 an22 od23 an23 od24 an24 od25 an25 od26 an26:Option Addr}{sl0 sl1 sl2 sl3 sl4 sl5 sl6 sl7 sl8 sl9 sl10 sl11 sl12 sl13 sl14 sl15 sl16 sl17 sl18 sl19 sl20 sl21 sl22 sl23 sl24 sl25 sl26:Array (Option Value)}{oc0 kV0 dc0 pm0 cd0 ct0 oc1 kV1 dc1 pm1 cd1 ct1 oc2 kV2 dc2 pm2 cd2 ct2 oc3 kV3 dc3 pm3 cd3 ct3 oc4 kV4 dc4 pm4 cd4 ct4 oc5 kV5 dc5 pm5 cd5 ct5 oc6 kV6 dc6 pm6 cd6 ct6 oc7 kV7 dc7 pm7 cd7 ct7 oc8 kV8 dc8 pm8 cd8 ct8 oc9 kV9 dc9 pm9 cd9 ct9 oc10 kV10 dc10 pm10 cd10 ct10 oc11 kV11 dc11 pm11 cd11 ct11 oc12 kV12 dc12 pm12 cd12 ct12 oc13 kV13 dc13 pm13 cd13 ct13 oc14 kV14 dc14 pm14 cd14 ct14 oc15 kV15 dc15 pm15 cd15 ct15 oc16 kV16 dc16 pm16 cd16 ct16 oc17 kV17 dc17 pm17 cd17 ct17 oc18 kV18 dc18 pm18 cd18 ct18 oc19 kV19 dc19 pm19 cd19 ct19 oc20 kV20 dc20 pm20 cd20 ct20 oc21 kV21 dc21 pm21 cd21 ct21 oc22 kV22 dc22 pm22 cd22 ct22 oc23 kV23 dc23 pm23 cd23 ct23 oc24 kV24 dc24 pm24 cd24 ct24 oc25 kV25 dc25 pm25 ct25 oc26 kV26 dc26 pm26 cd26 ct26:Value}{CF CN ec1 ec2 ec3 ec4 ec5 ec6 ec7 ec8 ec9 NN:Addr}{nmN qN:Str}{bsN subN:List Value}{hdN abN:Bool}{snN:List Str}{colN:Option Bool}{ddN ddF:Option Addr}{q0 q1 q2 q3 q5:Option Value}{cdF:ClassData}{slF:Array (Option Value)}{cNN cNF:Value}{dNN dNF:Option Addr}{esN esF:Array DictEntry}{epN epF:Nat}{sNN sNF:Array (Option Value)}{ed1 ed2 ed3 ed4 ed5 ed6 ed7 ed8 ed9:Option Addr}{ek1 ek2 ek3 ek4 ek5 ek6 ek7 ek8 ek9:ClassData}{es1 es2 es3 es4 es5 es6 es7 es8 es9:Array (Option Value)}(a0:za K "is_whole" f0)(l0:zl K f0 "is_whole" (top 13) oc0 od0 kV0 dc0 pm0 an0 cd0 ct0 sl0)(c0:zc K "is_whole" cd0)(a1:za K "is_below" f1)(l1:zl K f1 "is_below" (top 14) oc1 od1 kV1 dc1 pm1 an1 cd1 ct1 sl1)(c1:zc K "is_below" cd1)(a2:za K "check_order" f2)(l2:zl K f2 "check_order" (top 16) oc2 od2 kV2 dc2 pm2 an2 cd2 ct2 sl2)(c2:zc K "check_order" cd2)(a3:za K "check_order_of" f3)(l3:zl K f3 "check_order_of" (top 17) oc3 od3 kV3 dc3 pm3 an3 cd3 ct3 sl3)(c3:zc K "check_order_of" cd3)(a4:za K "led_ties" f4)(l4:zl K f4 "led_ties" (top 18) oc4 od4 kV4 dc4 pm4 an4 cd4 ct4 sl4)(c4:zc K "led_ties" cd4)(a5:za K "rising_ties" f5)(l5:zl K f5 "rising_ties" (top 19) oc5 od5 kV5 dc5 pm5 an5 cd5 ct5 sl5)(c5:zc K "rising_ties" cd5)(a6:za K "exchanged_web" f6)(l6:zl K f6 "exchanged_web" (top 20) oc6 od6 kV6 dc6 pm6 an6 cd6 ct6 sl6)(c6:zc K "exchanged_web" cd6)(a7:za K "exchanged_one_way" f7)(l7:zl K f7 "exchanged_one_way" (top 21) oc7 od7 kV7 dc7 pm7 an7 cd7 ct7 sl7)(c7:zc K "exchanged_one_way" cd7)(a8:za K "exchanged_set" f8)(l8:zl K f8 "exchanged_set" (top 22) oc8 od8 kV8 dc8 pm8 an8 cd8 ct8 sl8)(c8:zc K "exchanged_set" cd8)(a9:za K "exchanged_family" f9)(l9:zl K f9 "exchanged_family" (top 23) oc9 od9 kV9 dc9 pm9 an9 cd9 ct9 sl9)(c9:zc K "exchanged_family" cd9)(a10:za K "exchanged_ties" f10)(l10:zl K f10 "exchanged_ties" (top 24) oc10 od10 kV10 dc10 pm10 an10 cd10 ct10 sl10)(c10:zc K "exchanged_ties" cd10)(a11:za K "exchanged_offers" f11)(l11:zl K f11 "exchanged_offers" (top 25) oc11 od11 kV11 dc11 pm11 an11 cd11 ct11 sl11)(c11:zc K "exchanged_offers" cd11)(a12:za K "_law_pen" f12)(l12:zl K f12 "_law_pen" (top 27) oc12 od12 kV12 dc12 pm12 an12 cd12 ct12 sl12)(c12:zc K "_law_pen" cd12)(a13:za K "_law_draw" f13)(l13:zl K f13 "_law_draw" (top 28) oc13 od13 kV13 dc13 pm13 an13 cd13 ct13 sl13)(c13:zc K "_law_draw" cd13)(a14:za K "_law_order" f14)(l14:zl K f14 "_law_order" (top 29) oc14 od14 kV14 dc14 pm14 an14 cd14 ct14 sl14)(c14:zc K "_law_order" cd14)(a15:za K "_law_alike" f15)(l15:zl K f15 "_law_alike" (top 30) oc15 od15 kV15 dc15 pm15 an15 cd15 ct15 sl15)(c15:zc K "_law_alike" cd15)(a16:za K "_law_pairs" f16)(l16:zl K f16 "_law_pairs" (top 31) oc16 od16 kV16 dc16 pm16 an16 cd16 ct16 sl16)(c16:zc K "_law_pairs" cd16)(a17:za K "_law_up" f17)(l17:zl K f17 "_law_up" (top 32) oc17 od17 kV17 dc17 pm17 an17 cd17 ct17 sl17)(c17:zc K "_law_up" cd17)(a18:za K "_law_family" f18)(l18:zl K f18 "_law_family" (top 33) oc18 od18 kV18 dc18 pm18 an18 cd18 ct18 sl18)(c18:zc K "_law_family" cd18)(a19:za K "_law_put" f19)(l19:zl K f19 "_law_put" (top 34) oc19 od19 kV19 dc19 pm19 an19 cd19 ct19 sl19)(c19:zc K "_law_put" cd19)(a20:za K "_law_single" f20)(l20:zl K f20 "_law_single" (top 35) oc20 od20 kV20 dc20 pm20 an20 cd20 ct20 sl20)(c20:zc K "_law_single" cd20)(a21:za K "_law_told" f21)(l21:zl K f21 "_law_told" (top 36) oc21 od21 kV21 dc21 pm21 an21 cd21 ct21 sl21)(c21:zc K "_law_told" cd21)(a22:za K "_law_spoil" f22)(l22:zl K f22 "_law_spoil" (top 37) oc22 od22 kV22 dc22 pm22 an22 cd22 ct22 sl22)(c22:zc K "_law_spoil" cd22)(a23:za K "_law_refused" f23)(l23:zl K f23 "_law_refused" (top 38) oc23 od23 kV23 dc23 pm23 an23 cd23 ct23 sl23)(c23:zc K "_law_refused" cd23)(a24:za K "_law_no_orders" f24)(l24:zl K f24 "_law_no_orders" (top 39) oc24 od24 kV24 dc24 pm24 an24 cd24 ct24 sl24)(c24:zc K "_law_no_orders" cd24)(a25:za K "_law_all_refused" f25)(l25:zl K f25 "_law_all_refused" (top 40) oc25 od25 kV25 dc25 pm25 an25 (.ref c) ct25 sl25)(c25:zc K "_law_all_refused" (.ref c))(a26:za K "law" f26)(l26:zl K f26 "law" (top 41) oc26 od26 kV26 dc26 pm26 an26 cd26 ct26 sl26)(c26:zc K "law" cd26)(xF:za K "FallError" CF)(xN:za K "NoOrder" CN)(x1:za K "NoBack" ec1)(x2:za K "NoOffers" ec2)(x3:za K "NoPlace" ec3)(x4:za K "NoRow" ec4)(x5:za K "NoSet" ec5)(x6:za K "NoText" ec6)(x7:za K "NoTie" ec7)(x8:za K "NoWeb" ec8)(x9:za K "TooMany" ec9)(lkN:K.lookup CN=some (excClassObj nmN qN CN NN bsN (.ref CF::[.type "ValueError",.type "Exception",.type "BaseException",.type "object"]) hdN snN subN abN colN ddN q0 q1 q2 q3 q5 "ValueError.__new__"))(lkF:K.lookup CF=some ⟨.type "type",ddF,.cls cdF,slF⟩)(lkNN:K.lookup NN=some ⟨cNN,dNN,.dict esN epN,sNN⟩)(niN:W.nsIn K NN "__init__"=some none)(lkNF:K.lookup cdF.ns=some ⟨cNF,dNF,.dict esF epF,sNF⟩)(ff1:W.nsIn K cdF.ns "__init__"=some none)(ff2:W.nsIn K cdF.ns "__getattribute__"=some none)(ff3:W.nsIn K cdF.ns "__getattr__"=some none)(ff4:W.nsIn K cdF.ns "args"=some none)(ga:W.findIn K (.ref CN) "__getattribute__"=some (some (.builtin "BaseException.__getattribute__")))(hook:W.findIn K (.ref CN) "__getattr__"=some none)(clsN:W.findIn K (.ref CN) "__class__"=some (some (.builtin "object.__class__")))(mroN:Ŀ K CN (.type "object")=some true)(mNN:Ŀ K CN (.ref CN)=some true)(mNF:Ŀ K CN (.ref CF)=some true)(mFB:Ŀ K CF (.type "BaseException")=some true)(mNV:Ŀ K CN (.type "ValueError")=some true)(lkc1:K.lookup ec1=some ⟨.type "type",ed1,.cls ek1,es1⟩)(mc1:Ŀ K CN (.ref ec1)=some false)(lkc2:K.lookup ec2=some ⟨.type "type",ed2,.cls ek2,es2⟩)(mc2:Ŀ K CN (.ref ec2)=some false)(lkc3:K.lookup ec3=some ⟨.type "type",ed3,.cls ek3,es3⟩)(mc3:Ŀ K CN (.ref ec3)=some false)(lkc4:K.lookup ec4=some ⟨.type "type",ed4,.cls ek4,es4⟩)(mc4:Ŀ K CN (.ref ec4)=some false)(lkc5:K.lookup ec5=some ⟨.type "type",ed5,.cls ek5,es5⟩)(mc5:Ŀ K CN (.ref ec5)=some false)(lkc6:K.lookup ec6=some ⟨.type "type",ed6,.cls ek6,es6⟩)(mc6:Ŀ K CN (.ref ec6)=some false)(lkc7:K.lookup ec7=some ⟨.type "type",ed7,.cls ek7,es7⟩)(mc7:Ŀ K CN (.ref ec7)=some false)(lkc8:K.lookup ec8=some ⟨.type "type",ed8,.cls ek8,es8⟩)(mc8:Ŀ K CN (.ref ec8)=some false)(lkc9:K.lookup ec9=some ⟨.type "type",ed9,.cls ek9,es9⟩)(mc9:Ŀ K CN (.ref ec9)=some false)(okN:(esN.toList.all (λe=>match e.key with|.str _ _=>true|_=>false))=true)(okF:(esF.toList.all (λe=>match e.key with|.str _ _=>true|_=>false))=true)(z0:zn K "isinstance")(z1:zn K "int")(z2:zn K "bool")(z3:zn K "tuple")(z4:zn K "list")(z5:zn K "len")(z6:zn K "all")(z7:zn K "min")(z8:zn K "max")(z9:zn K "sorted")(z10:zn K "range")(z11:zn K "abs")(z12:zn K "set")(z13:zn K "zip")(z14:zn K "str")(z15:zn K "repr")(z16:zn K "ValueError"){occ:Value}{odc:Option Addr}{vsc:Array Value}{slc:Array (Option Value)}(lc:K.lookup c=some ⟨occ,odc,.fields vsc,slc⟩)(v11:vsc[11]?=some (.ref PT))(hP0:K.lookup PT=none)(hcI:W.codeHdIn K c PT=true)
  :
  ∃(K':Ê) (c PT:Addr) (fd:FuncData) (sp:Sp),K'.In h/\K'.lookup PT=none/\W.CodeHd h c PT/\h.get? PT=some (ţ #[])/\(∀(s:Shared) (u:Value),BindsTo s fd ⟨[u],[]⟩ [("_law_script",u)]) /\
    (∀base:Heap,K'.In base->base.Ns mainGlobals mg->base.BuiltinsAt mg PT->Dl.uX base->FnOk l.prog w K' mg base CX0 10 fa fd ["_law_script"] sp)/\∀(H:Hp) (a:Addr) (ns:List Int),SqL K' H a (ns.map V.int)->H PT=some (.tbl #[])->sp [.ref a] H (λv _=>v=.bl true) λ_ _ _=>False:=by
 have e:=hfa.symm.trans (ó X G a26)
 cases e
 have F0:=ĝ (st:=top 13) l0 c0 (aJ l0)
 have b0:=F0.binds (ps:=["thing"])
 have m0:=ó X G a0
 have F1:=ĝ (st:=top 14) l1 c1 (aJ l1)
 have b1:=F1.binds (ps:=["limit","thing"])
 have m1:=ó X G a1
 have F2:=ĝ (st:=top 16) l2 c2 (aJ l2)
 have b2:=F2.binds (ps:=["thing"])
 have m2:=ó X G a2
 have F3:=ĝ (st:=top 17) l3 c3 (aJ l3)
 have b3:=F3.binds (ps:=["web","thing"])
 have m3:=ó X G a3
 have F4:=ĝ (st:=top 18) l4 c4 (aJ l4)
 have b4:=F4.binds (ps:=["ties","order"])
 have m4:=ó X G a4
 have F5:=ĝ (st:=top 19) l5 c5 (aJ l5)
 have b5:=F5.binds (ps:=["ties","order"])
 have m5:=ó X G a5
 have F6:=ĝ (st:=top 20) l6 c6 (aJ l6)
 have b6:=F6.binds (ps:=["web","order"])
 have m6:=ó X G a6
 have F7:=ĝ (st:=top 21) l7 c7 (aJ l7)
 have b7:=F7.binds (ps:=["one","order"])
 have m7:=ó X G a7
 have F8:=ĝ (st:=top 22) l8 c8 (aJ l8)
 have b8:=F8.binds (ps:=["some","order"])
 have m8:=ó X G a8
 have F9:=ĝ (st:=top 23) l9 c9 (aJ l9)
 have b9:=F9.binds (ps:=["family","order"])
 have m9:=ó X G a9
 have F10:=ĝ (st:=top 24) l10 c10 (aJ l10)
 have b10:=F10.binds (ps:=["added","order"])
 have m10:=ó X G a10
 have F11:=ĝ (st:=top 25) l11 c11 (aJ l11)
 have b11:=F11.binds (ps:=["offers","order"])
 have m11:=ó X G a11
 have F12:=ĝ (st:=top 27) l12 c12 (aJ l12)
 have b12:=F12.binds (ps:=["_law_script"])
 have m12:=ó X G a12
 have F13:=ĝ (st:=top 28) l13 c13 (aJ l13)
 have b13:=F13.binds (ps:=["_law_pen_here","_law_many"])
 have m13:=ó X G a13
 have F14:=ĝ (st:=top 29) l14 c14 (aJ l14)
 have b14:=F14.binds (ps:=["_law_pen_here","_law_n"])
 have m14:=ó X G a14
 have F15:=ĝ (st:=top 30) l15 c15 (aJ l15)
 have b15:=F15.binds (ps:=["_law_found","_law_due"])
 have m15:=ó X G a15
 have F16:=ĝ (st:=top 31) l16 c16 (aJ l16)
 have b16:=F16.binds (ps:=["_law_pen_here","_law_n"])
 have m16:=ó X G a16
 have F17:=ĝ (st:=top 32) l17 c17 (aJ l17)
 have b17:=F17.binds (ps:=["_law_pairs_here"])
 have m17:=ó X G a17
 have F18:=ĝ (st:=top 33) l18 c18 (aJ l18)
 have b18:=F18.binds (ps:=["_law_pen_here","_law_n"])
 have m18:=ó X G a18
 have F19:=ĝ (st:=top 34) l19 c19 (aJ l19)
 have b19:=F19.binds (ps:=["_law_pairs_here","_law_order_here"])
 have m19:=ó X G a19
 have F20:=ĝ (st:=top 35) l20 c20 (aJ l20)
 have b20:=F20.binds (ps:=["_law_thing","_law_which","_law_order_here"])
 have m20:=ó X G a20
 have F21:=ĝ (st:=top 36) l21 c21 (aJ l21)
 have b21:=F21.binds (ps:=["_law_thing","_law_order_here"])
 have m21:=ó X G a21
 have F22:=ĝ (st:=top 37) l22 c22 (aJ l22)
 have b22:=F22.binds (ps:=["_law_told_here"])
 have m22:=ó X G a22
 have F23:=ĝ (st:=top 38) l23 c23 (aJ l23)
 have b23:=F23.binds (ps:=["_law_asked"])
 have m23:=ó X G a23
 have F24:=ĝ (st:=top 39) l24 c24 (aJ l24)
 have b24:=F24.binds (ps:=["_law_order_here"])
 have m24:=ó X G a24
 have F25:=ĝ (st:=top 40) l25 c25 (aJ l25)
 have b25:=F25.binds (ps:=["_law_thing","_law_order_here"])
 have m25:=ó X G a25
 have F26:=ĝ (st:=top 41) l26 c26 (aJ l26)
 have B:Dl.Bn mg:=⟨ÿ X G z0,ÿ X G z1,ÿ X G z2,ÿ X G z3,ÿ X G z4,ÿ X G z5,ÿ X G z6,ÿ X G z7,ÿ X G z8,ÿ X G z9,ÿ X G z10,ÿ X G z11⟩
 have N12:=ÿ X G z12
 have N13:=ÿ X G z13
 have N14:=ÿ X G z14
 have N15:=ÿ X G z15
 have N16:=ÿ X G z16
 have HC:∀h:Heap,K.In h->W.CodeHd h c PT:=λh X2=>W.codeHd_of_K X2 hcI
 refine⟨K,c,PT,W.fnOf "law" "law" (fV (top 41)) (bY (top 41)) (aB (top 41)) .none kV26 dc26 pm26 an26 cd26 ct26,Ay K (bJ PT),X,hP0,W.codeHd_of_K X hcI,hT,λs v=>.of_eq rfl,λbase _ _ hBm SY=>?_,λH a ns hS hT=>⟨a,ns,rfl,hS,⟨_,hT,.inl rfl⟩,λ_=>rfl⟩⟩
 have nsN:=w5 lkNN okN
 have nsF:=w5 lkNF okF
 have tlN:W.tailIn K [.type "ValueError",.type "Exception",.type "BaseException",.type "object"] (.ref CF::[.type "ValueError",.type "Exception",.type "BaseException",.type "object"])=true:=Am lkF nsF ff1 yr
 have XC:ExcCls K CN "ValueError.__new__" [.type "ValueError",.type "Exception",.type "BaseException",.type "object"]:=⟨⟨nmN,qN,NN,bsN,_,hdN,snN,subN,abN,colN,ddN,q0,q1,q2,q3,q5,lkN,tlN,nsN,niN,rfl⟩⟩
 have XKN:ExcK K CN:=⟨⟨nmN,qN,NN,CF,bsN,[.type "ValueError",.type "Exception",.type "BaseException",.type "object"],hdN,snN,subN,abN,colN,ddN,ddF,q0,q1,q2,q3,q5,"ValueError.__new__","ValueError",.type "type",cdF,slF,lkN,lkF,nsF,λn hn=>by
  simp only[quietNames,É,Ö,or_false] at hn
  rcases hn with rfl|rfl|rfl|rfl
  ·exact ff1
  ·exact ff2
  ·exact ff3
  ·exact ff4,PySem.F.attrBase_ValueError⟩,ga,hook,clsN,mroN⟩
 have R:RefN K mg CN CF ec1 ec2 ec3 ec4 ec5 ec6 ec7 ec8 ec9:=⟨ó X G xF,ó X G xN,ó X G x1,ó X G x2,ó X G x3,ó X G x4,ó X G x5,ó X G x6,ó X G x7,ó X G x8,ó X G x9,N16,zm lkF mFB mNF,XKN,pR (λc hc=>by
  simp only[É,Ö,or_false] at hc
  rcases hc with rfl|rfl|rfl|rfl|rfl|rfl|rfl|rfl|rfl
  ·exact ť lkc1 mc1 mNN
  ·exact ť lkc2 mc2 mNN
  ·exact ť lkc3 mc3 mNN
  ·exact ť lkc4 mc4 mNN
  ·exact ť lkc5 mc5 mNN
  ·exact ť lkc6 mc6 mNN
  ·exact ť lkc7 mc7 mNN
  ·exact ť lkc8 mc8 mNN
  ·exact ť lkc9 mc9 mNN
  ),uq,uo (by decide +kernel) mNV⟩
 have C0:=λbase=>cD F0 b0 m0 (Cr (P:=l.prog) (w:=w) (base:=base) F0 B)
 have C1:=λbase=>cD F1 b1 m1 (Cw (P:=l.prog) (w:=w) (base:=base) F1 (C0 base))
 have C2:=λbase=>d8 F2 b2 m2 (nJ (P:=l.prog) (w:=w) (base:=base) F2 B N12 R.mN XC PySem.F.excBase_ValueError (C1 base))
 have C3:=λbase=>d8 F3 b3 m3 (jV (P:=l.prog) (w:=w) (base:=base) F3 B R.mN XC PySem.F.excBase_ValueError (C2 base))
 have C4:=λbase=>cD F4 b4 m4 (tG (P:=l.prog) (w:=w) (base:=base) F4 B)
 have C5:=λbase=>cD F5 b5 m5 (nH (P:=l.prog) (w:=w) (base:=base) F5 B (C4 base))
 have C6:=λbase=>d8 F6 b6 m6 (lA (P:=l.prog) (w:=w) (base:=base) F6 B (C3 base) (C5 base))
 have C7:=λbase=>d8 F7 b7 m7 (iM (P:=l.prog) (w:=w) (base:=base) F7 B (C3 base) (C4 base))
 have C8:=λbase=>d8 F8 b8 m8 (lB (P:=l.prog) (w:=w) (base:=base) F8 B (C2 base))
 have C9:=λbase=>d8 F9 b9 m9 (Gv (P:=l.prog) (w:=w) (base:=base) F9 B (C2 base) F8 b8 m8)
 have C10:=λbase=>d8 F10 b10 m10 (jU (P:=l.prog) (w:=w) (base:=base) F10 B (C2 base) (C5 base))
 have C11:=λbase=>d8 F11 b11 m11 (jm (P:=l.prog) (w:=w) (base:=base) F11 B (C2 base))
 have C12:=λbase=>cD F12 b12 m12 (JH (P:=l.prog) (w:=w) (base:=base) F12 )
 have C13:=λbase=>cD F13 b13 m13 (Gy (P:=l.prog) (w:=w) (base:=base) F13 B)
 have C14:=λbase=>cD F14 b14 m14 (Cv (P:=l.prog) (w:=w) (base:=base) F14 B (C13 base))
 have C15:=λbase=>cD F15 b15 m15 (yH (P:=l.prog) (w:=w) (base:=base) F15 B N13 N14 b15 m15)
 have C16:=λbase=>cD F16 b16 m16 (rm (P:=l.prog) (w:=w) (base:=base) F16 B (C13 base))
 have C17:=λbase=>cD F17 b17 m17 (yF (P:=l.prog) (w:=w) (base:=base) F17 B)
 have C18:=λbase=>cD F18 b18 m18 (oZ (P:=l.prog) (w:=w) (base:=base) F18 B (C14 base) (C13 base))
 have C19:=λbase=>cD F19 b19 m19 (vL (P:=l.prog) (w:=w) (base:=base) F19 B)
 have C20:=λbase=>d8 F20 b20 m20 (oY (P:=l.prog) (w:=w) (base:=base) F20 B (C6 base) (C7 base) (C8 base) (C9 base) (C10 base) (C11 base))
 have C21:=λbase=>cD F21 b21 m21 (Cu (P:=l.prog) (w:=w) (base:=base) F21 B F20 b20 m20 (C6 base) (C7 base) (C8 base) (C9 base) (C10 base) (C11 base))
 have C22:=λbase=>cD F22 b22 m22 (JG (P:=l.prog) (w:=w) (base:=base) F22 B)
 have C23:=λbase=>cD F23 b23 m23 (HW (P:=l.prog) (w:=w) (base:=base) F23 B R)
 have C24:=λbase=>cD F24 b24 m24 (lg (P:=l.prog) (w:=w) (base:=base) F24 B N14)
 have C25:=cD F25 b25 m25 (M7 (P:=l.prog) (w:=w) (base:=base) l25 c25 HC hBm B ⟨⟨_,_,λbase=>HW (P:=l.prog) (w:=w) (base:=base) F23 B R,b23,F23.kp,m23⟩⟩ C20 (C24 base))
 exact JK F26 B N15 SY (C12 base) (C13 base) (C17 base) (C16 base) (C18 base) (C14 base) (C19 base) C25 (C15 base) (C21 base) (C22 base)
end Nf
namespace Nf
open PySem PySem.W PyProof.Rows
def pU:List Nat:=[1,2,3,4,5,6,7,8,9,10,11,13,14,16,17,18,19,20,21,22,23,24,25,27,28,29,30,31,32,33,34,35,36,37,38,39,40,41]
def tZ(p:Program)(w:World)(os:OsState):=(yx p 6452 w os).map (λs=>Bd p (view p pU) (λs=>xlAt (view p pU) [] s&&recOk [] s) w s.abs)
def goodW(p:Program):=some (true,openGood (view p pU) [])
def frF(fr:Frag)(k:Nat):=some ((fr.map λp=>some p.2).take k)
def frB(fr:Frag)(k:Nat):=some ((fr.map λp=>some p.2).drop k)
def n8(p:Program)(w:World)(os:OsState)(as:List Addr)(k:Nat):=(yx p 6452 w os).map (λs=>(as.map s.abs.heap.get?).take k)
def uU(p:Program)(w:World)(os:OsState)(as:List Addr)(k:Nat):=(yx p 6452 w os).map (λs=>(as.map s.abs.heap.get?).drop k)
def vP:tZ=tZ:=rfl
def v7:goodW=goodW:=rfl
def uy:n8=n8:=rfl
def wI:uU=uU:=rfl
end Nf
lay_quick Nf.tZ Nf.goodW Nf.n8 Nf.uU
name_quick lookQ for Nf.tZ by Nf.vP
name_quick goodQ for Nf.goodW by Nf.v7
name_quick frontQ for Nf.n8 by Nf.uy
name_quick backQ for Nf.uU by Nf.wI
set_option maxHeartbeats 0 in
def Nf.GQ(w:PySem.World)(os:PySem.OsState):Nf.tZ à w os=Nf.goodW à:=by
 rw[PySem.W.Fast.lookQ_eq,PySem.W.Fast.goodQ_eq]
 kernel_rfl
def Nf.well:PySem.Challenge.rw_nofall_k61_places_exchanged.wellSaid=true:=by kernel_rfl
open PySem PySem.W PyProof.Rows
local macro_rules
 |`(tactic| k_qdec)=>`(tactic| fail)
local macro_rules
 |`(tactic| o_head (kmHook $k $a $e $t))=>`(tactic| o_head (kHook (λP=>List.append (List.map (λa=>(a,PySem.W.tabObj #[])) $t) ($k P)) (List.append $t $a) (λ_=>by kernel_rfl)))
local macro_rules
 |`(tactic| o_head (kHook $k $a $e))=>`(tactic| (
  refine holds_open (q:=view à Nf.pU) (loose:=[]) (Xt:=λs=>xlAt (view à Nf.pU) [] s&&recOk [] s) (XP:=XL (view à Nf.pU) []) (Yf:=Hook.obs (kHook $k $a $e)) (Ya:=Hook.val (kHook $k $a $e)) (YP:=Hook.says (kHook $k $a $e)) (N:=6452) ?hl (Hook.of (kHook $k $a $e)) (Hook.keeps (kHook $k $a $e)) (λs e=>xl_of s (Bool.and_eq_true_iff.mp e).1) XL.keeps (by rfl) (by rfl) (by rfl) (λs e=>recFacts_of (Bool.and_eq_true_iff.mp e).2) (by rfl) (by first|assumption|decide +kernel) (by decide +kernel) ⟨rfl,rfl,rfl,rfl,rfl,by decide +kernel⟩ ?hw ?hc))
set_option maxRecDepth 100000 in
set_option maxHeartbeats 0 in
theorem PySem.Challenge.cw_nofall_k61_places_exchanged_holds : PySem.Challenge.rw_nofall_k61_places_exchanged.Holds := by
 w_on;refine PySem.W.holds_law Nf.well λsaid=>?_;k_head
 ·refine Nf.G5 90 (boot_open (by kernel_rfl) rfl (λs=>by kernel_rfl)) Nf.GQ (λw os=>?_) (λw os=>?_)
  ·show Nf.n8 à w os _ 90=Nf.frF _ 90
   rw[PySem.W.Fast.frontQ_eq]
   kernel_rfl
  ·show Nf.uU à w os _ 90=Nf.frB _ 90
   rw[PySem.W.Fast.backQ_eq]
   kernel_rfl
 ·w_witness2
 k_fill
 refine L2.Af (n:=63) (k:=10) (x:="_law_script") (l:=PySem.Challenge.rw_nofall_k61_places_exchanged) (by rfl) rfl (by decide) rfl ⟨rfl,by decide,by decide,rfl⟩ (λw h Y=>PySem.W.kIn_of Y) ?F
 case F =>
  intro w mg fa h KX2 G hmg
  obtain⟨KX,hPT⟩:=L2.Iu KX2 (by kernel_rfl)
  refine' Nf.all_mk hPT KX G hmg ?a0 ?l0 ?c0 ?a1 ?l1 ?c1 ?a2 ?l2 ?c2 ?a3 ?l3 ?c3 ?a4 ?l4 ?c4 ?a5 ?l5 ?c5 ?a6 ?l6 ?c6 ?a7 ?l7 ?c7 ?a8 ?l8 ?c8 ?a9 ?l9 ?c9 ?a10 ?l10 ?c10 ?a11 ?l11 ?c11 ?a12 ?l12 ?c12 ?a13 ?l13 ?c13 ?a14 ?l14 ?c14 ?a15 ?l15 ?c15 ?a16 ?l16 ?c16 ?a17 ?l17 ?c17 ?a18 ?l18 ?c18 ?a19 ?l19 ?c19 ?a20 ?l20 ?c20 ?a21 ?l21 ?c21 ?a22 ?l22 ?c22 ?a23 ?l23 ?c23 ?a24 ?l24 ?c24 ?a25 ?l25 ?c25 ?a26 ?l26 ?c26 ?xF ?xN ?x1 ?x2 ?x3 ?x4 ?x5 ?x6 ?x7 ?x8 ?x9 ?lkN ?lkF ?lkNN ?niN ?lkNF ?ff1 ?ff2 ?ff3 ?ff4 ?ga ?hook ?clsN ?mroN ?mNN ?mNF ?mFB ?mNV ?lkc1 ?mc1 ?lkc2 ?mc2 ?lkc3 ?mc3 ?lkc4 ?mc4 ?lkc5 ?mc5 ?lkc6 ?mc6 ?lkc7 ?mc7 ?lkc8 ?mc8 ?lkc9 ?mc9 ?okN ?okF ?z0 ?z1 ?z2 ?z3 ?z4 ?z5 ?z6 ?z7 ?z8 ?z9 ?z10 ?z11 ?z12 ?z13 ?z14 ?z15 ?z16 ?lc ?v11 ?hP0 ?hcI
  any_goals (show _=_;k_is)
  case v11=>exact rfl
  case hP0=>kernel_rfl
  case hcI=>kernel_rfl
  all_goals rfl
end
