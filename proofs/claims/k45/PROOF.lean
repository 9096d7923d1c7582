import PyProof.Rows.All
import Wide.All
import OpenK.AllK
import Wide.FinOn
import Lean
import PyProof.EqAt
import PyProof.EqKinds
import PyProof.TupleCall
import PySem.Challenge.RW_nofall_k45_whole_offers_changed
set_option genSizeOf false
set_option genSizeOfSpec false
set_option Elab.async false
set_option linter.all false
set_option maxRecDepth 100000
open List renaming length_map → Á,getElem?_eq_getElem → Ä,length_append → È,mem_singleton → Ë,size_toArray → Ì,replicate → Ï,mem_of_getElem? → Ò,mem_cons_of_mem → Õ,getElem?_eq_some_iff → Ö,mem_append → Ù,mem_cons_self → Ú,getD_eq_getElem?_getD → Ü,getElem?_map → Þ,mem_append_right → á,map_append → â,range → ä,getElem?_append_right → ç,getElem?_append_left → é,map_cons → ë,map_map → î,length_cons → ð,lookup_cons → ô,append_nil → õ,getElem?_set_self → ý,mem_map → ą,mem_filter → ć,length_take → Ċ,length_drop → ċ,all_eq_true → Č,append_assoc → ď,mem_cons → Ē,take_add_one → Ĕ,mem_append_left → ĝ,getElem?_set_ne → Ğ,take_of_length_le → Ģ,take_length → Ħ,mem_iff_getElem → ī,getElem?_replicate → Į,replicate_succ → Ĳ,sum_cons → Ķ,take_append_drop → ķ,length_singleton → ĸ,toArray → ļ,reverse_reverse → Ľ,reverse_append → Ł,length_replicate → ŏ,flatten_cons → œ,filter_congr → Ŕ,take → Ś,pairwise_iff_getElem → Ŝ,extract_eq_drop_take → ŝ,length_reverse → Š,length_pos_iff → š,filterMap_cons → Ţ,length_zip → ũ,mem_filterMap → ū,filter_append → Ŭ,getElem?_cons_succ → Ů,drop → ů,pairwise_map → ŵ,mem_range → Ŷ
open PySem renaming wpAny_bind → Ã,wpAny_pure → Ñ,sizeLine_eq → ì,mem_of_lookup → ĉ,wpAny_holding → Ě,wpAny_truthy_bool → ĳ,wpAny_mono → Ĵ,wpAny_Call_Name_kw → Ő,wpAny_newObj_type → Ź
open Nat renaming le_refl → Å,lt_of_lt_of_le → à,ne_of_lt → ã,le_trans → ï,lt_irrefl → ó,zero_le → û,lt_succ_of_lt → ă,le_succ → Ĥ,ne_of_gt → ŋ,lt_succ_self → ś
open PySem.Heap renaming get?_push_of_some → Ç,lt_size → É,get?_push_size → Û,size_update → Ĝ,get?_update_other → ġ,size_push → Ń,get?_update_self → Ŏ,get?_push_ne → ő
open PySem.PyData renaming int → Í,list → ñ,eqv → Ė,canLayAll0 → Ġ,depthAll → ĺ
open PyProof.Rows renaming wpS_bind → Î,wpS_pure → Ó,wpS_forRange → Ĉ,callWith_type1 → Ī,wpS_modify → ĵ,wpS_mono → ŀ,listUpdate_at → ř
open Bool renaming false_ne_true → Ð,and_eq_true → Ý,not_eq_true' → ģ,false_eq_true → ħ,eq_iff_iff → į
open PySem.Obj renaming mapSeq → Ô
open PySem.W renaming Frag → Ø,mg_of → Ą,mg_none_of → ě,boot_heap → Ŀ,kla_obj → ţ,kia_tup → Ť,kia_one → ť,boot_o_0 → Ŧ,kitOne → ŭ
open Option.some renaming inj → ß
open PySem.Challenge renaming pw_nofall_k45_whole_offers_changed → å
open Array renaming length_toList → æ,toList_append → ü,getElem?_toList → č,size_extract → Ę,toList_push → Ĭ,perm_iff_toList_perm → ŗ,toList_reverse → ż,toList_extract → Ž
open PySem.NameKind renaming free → ê,cell → ø
open PySem.Str renaming ofString → ù
open Int renaming le_of_lt → ú,le_refl → ÿ,le_trans → Ă,not_lt → Ĺ,toNat_natCast → ľ,emod_lt_of_pos → Ű
open PySem.Value renaming type → ā,int → Đ,ref → ĕ,none → ĭ,bool → Ũ
open ForInStep renaming yield → đ
open False renaming elim → ė
open Ne renaming symm → ę
open PySem.Builtin.SmallTypes renaming ownedTupleIsFree → ĥ,nextOf → Ņ
open PySem.PassesOwn renaming never → ń
open PySem.Builtin.List renaming listExtendWith → ņ,listTooLong → Ŗ
open Or renaming inl → Ň
open Option renaming map_eq_some_iff → ň,isSome_iff_exists → ş
open PySem.Builtin.Slice renaming slicePlaces → Ō,sliceAdjust → ź
open PySem.Builtin.Tuple renaming tupleExact → Œ
open True renaming intro → Ř
open PySem.F renaming plainAttrs_list → ŧ
open List.cons renaming sizeOf_spec → ű
open PySem.Heap.SameBut renaming update → ŷ
noncomputable section
namespace L2
open PySem PySem.Spec PyProof.Rows
def zK{n:Nat}(h:Nat.ble n 1000=true:=by rfl):n<=1000:=Nat.le_of_ble_eq_true h
abbrev Key:=Sum Int Str
def JR:Key->Value->Bool
 |.inl k,v=>Value.isInt k v
 |.inr x,v=>Value.isStrOf x v
def QS(w:World):Key->Int
 |.inl k=>hashInt k
 |.inr x=>hashStr w x
def aZ:∀{k:Key}{v:Value},JR k v=true->(∃i t,k=Sum.inl i/\v=Đ i t)\/(∃x t,k=Sum.inr x/\v=Value.str x t)
 |.inl i,v,h=>by
  obtain⟨t,e⟩:=Value.isInt_shape (k:=i) (v:=v) h
  exact .inl ⟨i,t,rfl,e⟩
 |.inr x,v,h=>by
  obtain⟨t,e⟩:=Value.isStrOf_shape (x:=x) (v:=v) h
  exact .inr ⟨x,t,rfl,e⟩
def Ma(a b:Int):decide ((Sum.inl a:Key)=Sum.inl b)=(a == b):=by
 by_cases e:a=b
 ·subst e;simp
 ·have h:¬(Sum.inl a:Key)=Sum.inl b:=λq=>e (Sum.inl.inj q)
  rw[decide_eq_false h]
  exact(beq_eq_false_iff_ne.mpr e).symm
def LK(a b:Str):decide ((Sum.inr a:Key)=Sum.inr b)=decide (a=b):=by
 by_cases e:a=b
 ·subst e;simp
 ·have h:¬(Sum.inr a:Key)=Sum.inr b:=λq=>e (Sum.inr.inj q)
  rw[decide_eq_false h,decide_eq_false e]
def LR(a:Int)(b:Str):decide ((Sum.inl a:Key)=Sum.inr b)=false:=decide_eq_false (λq=>nomatch q)
def LQ(a:Str)(b:Int):decide ((Sum.inr a:Key)=Sum.inl b)=false:=decide_eq_false (λq=>nomatch q)
def yG(prog:Program)(w:World):PySem.KeyKind prog w Key where
 is:=JR
 hash:=QS w
 inj:=λv a b ha hb=>by
  rcases aZ ha with ⟨i,t,rfl,rfl⟩|⟨x,t,rfl,rfl⟩
  ·rcases aZ hb with ⟨j,u,rfl,e⟩|⟨y,u,rfl,e⟩
   ·injection e with e1 _;rw[e1]
   ·exact nomatch e
  ·rcases aZ hb with ⟨j,u,rfl,e⟩|⟨y,u,rfl,e⟩
   ·exact nomatch e
   ·injection e with e1 _;rw[e1]
 byValue:=λk v h=>by
  rcases aZ h with ⟨i,t,rfl,rfl⟩|⟨x,t,rfl,rfl⟩ <;> rfl
 pyHash:=λhv h=>by
  rcases aZ hv with ⟨i,t,rfl,rfl⟩|⟨x,t,rfl,rfl⟩
  ·exact wpAny_pyHash_int h
  ·exact wpAny_pyHash_str h
 eqBool:=λhu hv h=>by
  rcases aZ hu with ⟨i,t,rfl,rfl⟩|⟨x,t,rfl,rfl⟩
  ·rcases aZ hv with ⟨j,u,rfl,rfl⟩|⟨y,u,rfl,rfl⟩
   ·rw[Ma] at h;exact wpAny_eqBool_int h
   ·rw[LR] at h;exact SeqAt.EqAt.int_str i t y u _ _ _ _ h
  ·rcases aZ hv with ⟨j,u,rfl,rfl⟩|⟨y,u,rfl,rfl⟩
   ·rw[LQ] at h;exact SeqAt.EqAt.str_int x t j u _ _ _ _ h
   ·rw[LK] at h;exact wpAny_eqBool_str h
 «strs»:=λk x t v h=>by
  rcases aZ h with ⟨i,u,rfl,e⟩|⟨y,u,rfl,e⟩
  ·exact nomatch e
  ·injection e with e1 _
   subst e1
   cases v <;> rfl
inductive V where
 |non|bl (b:Bool)|int (i:Int)|str (x:Str)|byt (b:Array UInt8)|flt (b:UInt64)|ref (a:Addr)|ty (n:String)
 deriving DecidableEq
def RelV:V->Value->Prop
 |.non,u=>u=ĭ
 |.bl b,u=>u=Ũ b
 |.int i,u=>∃t,u=Đ i t
 |.str x,u=>∃t,u=Value.str x t
 |.byt b,u=>∃t,u=Value.bytes b t
 |.flt b,u=>∃t,u=Value.float b t
 |.ref a,u=>u=ĕ a
 |.ty n,u=>u=ā n
abbrev Vals:List V->List Value->Prop:=Paired RelV
def Vals.length{xs:List V}{us:List Value}(r:Vals xs us):xs.length=us.length:=Paired.length r
def Vals.get:∀{xs:List V}{us:List Value}{i:Nat}{x:V},Vals xs us->xs[i]?=some x->∃u,us[i]?=some u/\RelV x u
 |_,_,_,_,.nil,e=>by simp at e
 |_,_,0,_,.cons r _,e=>by simp at e;subst e;exact⟨_,rfl,r⟩
 |_,_,i+1,x,.cons _ t,e=>by
  obtain⟨u,h1,h2⟩:=Vals.get (i:=i) (x:=x) t (by simpa using e)
  exact⟨u,by simpa using h1,h2⟩
def Vals.set{x:V}{u:Value}(r:RelV x u):∀{xs:List V}{us:List Value} (i:Nat),Vals xs us->Vals (xs.set i x) (us.set i u)
 |_,_,_,.nil=>.nil
 |_,_,0,.cons _ t=>.cons r t
 |_,_,i+1,.cons q t=>.cons q (Vals.set r i t)
def Vals.append:∀{xs ys:List V}{us ws:List Value},Vals xs us->Vals ys ws->Vals (xs++ys) (us++ws)
 |_,_,_,_,.nil,s=>s
 |_,_,_,_,.cons r t,s=>.cons r (Vals.append t s)
def Vals.take:∀{xs:List V}{us:List Value} (n:Nat),Vals xs us->Vals (xs.take n) (us.take n)
 |_,_,0,_=>.nil
 |_,_,_+1,.nil=>.nil
 |_,_,n+1,.cons r t=>.cons r (Vals.take n t)
def Vals.drop:∀{xs:List V}{us:List Value} (n:Nat),Vals xs us->Vals (xs.drop n) (us.drop n)
 |_,_,0,r=>r
 |_,_,_+1,.nil=>.nil
 |_,_,n+1,.cons _ t=>Vals.drop n t
def MN:Option V->Option Value->Prop
 |some v,some u=>RelV v u
 |none,none=>True
 |_,_=>False
def KV{κ:Type}:List (κ×V)->List (κ×Value)->Prop:=Paired λ(p:κ×V) (q:κ×Value)=>p.1=q.1/\RelV p.2 q.2
def kV:Key->V
 |.inl i=>.int i
 |.inr x=>.str x
inductive HO where
 |lst (xs:List V)
 |tup (xs:List V)
 |dK (kvs:List (Key×V))|dT (kvs:List (List Key×V))
 |set (S:Int->Bool) (n:Nat)
 |ins (C dx:Addr) (fs:List (Str×V))
 |own (x:Addr)
 |xd (fs:List (Str×V))
 |met (f x:Addr)
 |rng (lo hi:Int)
 |frz (o:Obj) (u:HO)
 |tbl (ps:Array Value)
 |ext (φ:Heap->Prop)
abbrev Hp:=Addr->Option HO
def upd(H:Hp)(a:Addr)(o:HO):Hp:=λb=>if b=a then some o else H b
def ao{H:Hp}{a:Addr}{o:HO}:upd H a o a=some o:=by unfold upd;rw[if_pos rfl]
def ak{H:Hp}{a b:Addr}{o:HO}(h:b≠a):upd H a o b=H b:=by unfold upd;rw[if_neg h]
def aD{H:Hp}{a b:Addr}{o:HO}(h:H a=some o)(h':H b=none):a≠b:=by
 intro e;subst e;rw[h] at h';cases h'
section
variable (P:Program) (w:World)
def bx(H:Hp)(h:Heap)(a:Addr):HO->Prop
 |.lst xs=>xs.length<=sizeLine/\∃(its:List Value) (n:Nat),Vals xs its/\h.get? a=some { cls:=.type "list",data:=.seq its.toArray n }
 |.tup xs=>xs.length<=sizeLine/\∃its:List Value,Vals xs its/\IsTup h a its.toArray
 |.dK kvs=>kvs.length<=sizeLine/\(a == sysModules)=false/\∃vs,KV kvs vs/\h.DictOf (yG P w) a vs
 |.dT kvs=>kvs.length<=sizeLine/\(a == sysModules)=false/\∃xs:List (List Key×Addr×Value),
   Paired (λ(p:List Key×V) (q:List Key×Addr×Value)=>p.1=q.1/\H q.2.1=some (.tup (p.1.map kV))/\RelV p.2 q.2.2) kvs xs /\
   ∃o es ep,h.get? a=some o/\o.ExactDict/\o.data=.dict es ep/\es.toList=xs.map (entryOfKey (tupleKind (yG P w)))/\(xs.map (·.1)).Nodup
 |.set S n=>h.SetOf (intKind P w) a S n
 |.ins C dx fs=>H dx=some (.own a)/\fs.length<=1000/\dx≠a/\h.get? a=some (W.instObj C dx) /\
   ∃mA,h.Ns1 dx mA/\(∀f,MN (fs.lookup f) (mA f))/\PySem.Within mA (fs.map (·.1))
 |.own _=>∃o,h.get? a=some o
 |.xd fs=>∃mA,h.Ns1 a mA/\∀f,MN (fs.lookup f) (mA f)
 |.rng lo hi=>∃t u v,h.get? a=some { cls:=.type "range",data:=.fields #[.int lo t,.int hi u,.int 1 v] }
 |.frz o u=>h.get? a=some o/\bx H h a u
 |.tbl ps=>h.get? a=some { cls:=.none,data:=.fields ps }
 |.met f x=>h.get? a=some (W.methodObj (.ref f) (.ref x))
 |.ext φ=>φ h/\(∃o,h.get? a=some o)/\∀h1 h2:Heap,φ h1->(∀o,h1.get? a=some o->h2.get? a=some o)->φ h2
def HOk(H:Hp)(h:Heap):Prop:=∀a o,H a=some o->bx P w H h a o
end
section
variable {P:Program}{w:World}{H H':Hp}{h h':Heap}{a:Addr}{o:HO}
def bx.lt(x:bx P w H h a o):a<h.objs.size:=by
 cases o with
 |lst xs=>obtain⟨_,_,_,_,e⟩:=x;exact É e
 |tup xs=>obtain⟨_,_,_,p⟩:=x;exact p.lt
 |dK kvs=>obtain⟨_,_,_,_,o,_,_,e,_⟩:=x;exact É e
 |dT kvs=>obtain⟨_,_,_,_,o,_,_,e,_⟩:=x;exact É e
 |set S n=>obtain⟨o,_,_,_,e,_⟩:=x;exact É e
 |ins C dx fs=>obtain⟨_,_,_,e,_⟩:=x;exact É e
 |own y=>obtain⟨_,e⟩:=x;exact É e
 |xd fs=>obtain⟨_,⟨_,_,_,e,_⟩,_⟩:=x;exact É e
 |rng lo hi=>obtain⟨_,_,_,e⟩:=x;exact É e
 |frz ob u=>obtain⟨e,_⟩:=x;exact É e
 |tbl ps=>exact É (show h.get? a=some _ from x)
 |met f y=>exact É (show h.get? a=some _ from x)
 |ext φ=>obtain⟨_,⟨_,e⟩,_⟩:=x;exact É e
def Paired.Ek{α β:Type}{F G:α->β->Prop}:∀{l₁:List α}{l₂:List β},Paired F l₁ l₂->(∀a b,F a b->G a b)->Paired G l₁ l₂
 |_,_,.nil,_=>.nil
 |_,_,.cons r t,f=>.cons (f _ _ r) (Paired.Ek t f)
def bx.stay(x:bx P w H h a o)(k:∀b u,(b=a\/H b=some (.own a))->h.get? b=some u->h'.get? b=some u)(ho:∀b,H b=some (.own a)->H' b=some (.own a))(ht:∀b xs,H b=some (.tup xs)->H' b=some (.tup xs)):bx P w H' h' a o:=by
 induction o with
 |lst xs=>obtain⟨z,its,n,r,e⟩:=x;exact⟨z,its,n,r,k _ _ (.inl rfl) e⟩
 |tup xs=>obtain⟨z,its,r,ob,e,c⟩:=x;exact⟨z,its,r,ob,k _ _ (.inl rfl) e,c⟩
 |dK kvs=>obtain⟨z,y,vs,r,ob,es,ep,e,c⟩:=x;exact⟨z,y,vs,r,ob,es,ep,k _ _ (.inl rfl) e,c⟩
 |dT kvs =>
  obtain⟨z,y,xs,r,ob,es,ep,e,c⟩:=x
  exact⟨z,y,xs,Paired.Ek r λp q z=>⟨z.1,ht _ _ z.2.1,z.2.2⟩,ob,es,ep,k _ _ (.inl rfl) e,c⟩
 |set S n=>obtain⟨ob,es,ep,t,e,c⟩:=x;exact⟨ob,es,ep,t,k _ _ (.inl rfl) e,c⟩
 |ins C dx fs =>
  obtain⟨d,z,ne,e,mA,⟨od,es,ep,e2,c⟩,r⟩:=x
  exact⟨ho _ d,z,ne,k _ _ (.inl rfl) e,mA,⟨od,es,ep,k _ _ (.inr d) e2,c⟩,r⟩
 |own y=>obtain⟨ob,e⟩:=x;exact⟨ob,k _ _ (.inl rfl) e⟩
 |xd fs=>obtain⟨mA,⟨od,es,ep,e,c⟩,r⟩:=x;exact⟨mA,⟨od,es,ep,k _ _ (.inl rfl) e,c⟩,r⟩
 |rng lo hi=>obtain⟨t,u,v,e⟩:=x;exact⟨t,u,v,k _ _ (.inl rfl) e⟩
 |frz ob u ih=>obtain⟨e,q⟩:=x;exact⟨k _ _ (.inl rfl) e,ih q⟩
 |tbl ps =>
  have e:h.get? a=some { cls:=.none,data:=.fields ps }:=x
  show h'.get? a=some { cls:=.none,data:=.fields ps }
  exact k a _ (.inl rfl) e
 |met f y =>
  have e:h.get? a=some (W.methodObj (.ref f) (.ref y)):=x
  show h'.get? a=some (W.methodObj (.ref f) (.ref y))
  exact k a _ (.inl rfl) e
 |ext φ=>obtain⟨p,⟨o,e⟩,st⟩:=x;exact⟨st _ _ p λo q=>k _ _ (.inl rfl) q,⟨o,k _ _ (.inl rfl) e⟩,st⟩
def HOk.lt(x:HOk P w H h)(e:H a=some o):a<h.objs.size:=(x a o e).lt
def HOk.fresh(x:HOk P w H h)(e:h.objs.size<=a):H a=none:=by
 cases q:H a with
 |none=>rfl
 |some u=>exact absurd (à (x.lt q) e) (ó _)
def HOk.kept(x:HOk P w H h)(k:∀b u,h.get? b=some u->h'.get? b=some u):HOk P w H h':=λa o e =>
 (x a o e).stay (λb u _ q=>k b u q) (λ_ q=>q) λ_ _ q=>q
def HOk.laid(x:HOk P w H h)(k:∀b u,h.get? b=some u->h'.get? b=some u)(hp:h.objs.size<=a)(new:bx P w (upd H a o) h' a o):HOk P w (upd H a o) h':=λb u e=>by
 have hn:=x.fresh hp
 by_cases hb:b=a
 ·subst hb;rw[ao] at e;cases e;exact new
 ·rw[ak hb] at e
  exact(x b u e).stay (λc v _ q=>k c v q) (λc q=>by rw[ak (aD q hn)];exact q) λc xs q=>by rw[ak (aD q hn)];exact q
end
def Rd(H:Hp)(a:Addr)(u:HO):Prop:=H a=some u\/∃o,H a=some (.frz o u)
def Rd.ok{P:Program}{w:World}{H:Hp}{h:Heap}{a:Addr}{u:HO}(r:Rd H a u)(x:HOk P w H h):bx P w H h a u:=by
 rcases r with r|⟨o,r⟩
 ·exact x a u r
 ·obtain⟨_,q⟩:=x a _ r
  exact q
def Mut:Option HO->Prop
 |some (.lst _)=>True
 |some (.dK _)=>True
 |some (.dT _)=>True
 |some (.set _ _)=>True
 |some (.ins _ _ _)=>True
 |some (.ext _)=>True
 |_=>False
section
variable {P:Program}{w:World}{H:Hp}{h h':Heap}{x e:Addr}{o':HO}
def HOk.write(ok:HOk P w H h)(mu:Mut (H x))(he:e=x\/H e=some (.own x))(k:∀b u,b≠e->h.get? b=some u->h'.get? b=some u)(heo:∃u,h'.get? e=some u)(new:bx P w (upd H x o') h' x o'):HOk P w (upd H x o') h':=λb u q=>by
 have nown:∀c y,H c=some (.own y)->c≠x:=λc y r z=>by subst z;rw[r] at mu;exact mu
 have ntup:∀c xs,H c=some (.tup xs)->c≠x:=λc xs r z=>by subst z;rw[r] at mu;exact mu
 by_cases hb:b=x
 ·subst hb;rw[ao] at q;cases q;exact new
 ·rw[ak hb] at q
  by_cases hbe:b=e
  ·have q':H b=some (.own x):=by
    rcases he with z|z
    ·exact absurd (hbe.trans z) hb
    ·rw[hbe];exact z
   rw[q] at q';cases q'
   obtain⟨v,hv⟩:=heo
   exact⟨v,by rw[hbe];exact hv⟩
  ·refine(ok b u q).stay (λc v hc r=>k c v ?_ r) (λc r=>by rw[ak (nown c b r)];exact r) λc xs r=>by rw[ak (ntup c xs r)];exact r
   rcases hc with rfl|hc
   ·exact hbe
   ·rintro rfl
    rcases he with z|z
    ·exact nown c b hc z
    ·rw[hc] at z;cases z;exact hb rfl
end
structure Un(fs ex:List Addr)(H H':Hp)(h h':Heap):Prop where
 keep:∀b o,h.get? b=some o->H b=none->b∉fs->b∉ex->h'.get? b=some o
 slot:∀b o,h.get? b=some o->H b=none->b∈fs->b∉ex->∃sl,h'.get? b=some { o with slots:=sl }
 free:∀b o,h.get? b=some o->H b=none->b∉ex->H' b=none
 there:∀b o,h.get? b=some o->b∉ex->∃o',h'.get? b=some o'
 tups:∀b xs,H b=some (.tup xs)->H' b=some (.tup xs)
 frzs:∀b o u,H b=some (.frz o u)->H' b=some (.frz o u)
 tbls:∀b ps,H b=some (.tbl ps)->∃more,H' b=some (.tbl (ps++more))
section
variable {fs fs' ex ex':List Addr}{H H1 H2:Hp}{h h1 h2 h':Heap}{a x e:Addr}{o:HO}
def Un.any(u:Un fs ex H H1 h h1){b:Addr}{ob:Obj}(q:h.get? b=some ob)(n:H b=none)(hx:b∉ex):∃sl,h1.get? b=some { ob with slots:=sl }:=by
 by_cases hb:b∈fs
 ·exact u.slot b ob q n hb hx
 ·exact⟨ob.slots,u.keep b ob q n hb hx⟩
def Un.kept(k:∀b u,h.get? b=some u->h'.get? b=some u):Un fs ex H H h h' :=
 ⟨λb ob q _ _ _=>k b ob q,λb ob q _ _ _=>⟨ob.slots,k b ob q⟩,λ_ _ _ n _=>n,λb ob q _=>⟨ob,k b ob q⟩,λ_ _ q=>q,λ_ _ _ q=>q,λ_ ps q=>⟨#[],by rw[q];simp⟩⟩
def Un.refl:Un fs ex H H h h:=Un.kept λ_ _ q=>q
def Un.laid(k:∀b u,h.get? b=some u->h'.get? b=some u)(hp:h.objs.size<=a)(hn:H a=none):Un fs ex H (upd H a o) h h' where
 keep:=λb u q _ _ _=>k b u q
 slot:=λb u q _ _ _=>⟨u.slots,k b u q⟩
 free:=λb u q n _=>by rw[ak (ã (à (É q) hp))];exact n
 there:=λb u q _=>⟨u,k b u q⟩
 tups:=λb xs q=>by rw[ak (aD q hn)];exact q
 frzs:=λb u xs q=>by rw[ak (aD q hn)];exact q
 tbls:=λb ps q=>⟨#[],by rw[ak (aD q hn),q];simp⟩
def Un.write(mu:Mut (H x))(he:e=x\/H e=some (.own x))(k:∀b u,b≠e->h.get? b=some u->h'.get? b=some u)(heo:∃u,h'.get? e=some u):Un fs ex H (upd H x o) h h':=by
 have hx:∀b,H b=none->b≠x:=λb n z=>by subst z;rw[n] at mu;exact mu
 have hb:∀b,H b=none->b≠e:=λb n z=>by
  subst z
  rcases he with r|r
  ·exact hx b n r
  ·rw[n] at r;cases r
 have hm:∀b u,H b=some u->¬Mut (some u)->b≠x:=λb u q nm z=>by subst z;rw[q] at mu;exact nm mu
 refine⟨λb u q n _ _=>k b u (hb b n) q,λb u q n _ _=>⟨u.slots,k b u (hb b n) q⟩,λb u q n _=>by rw[ak (hx b n)];exact n,λb u q _=>?_,
  λb xs q=>by rw[ak (hm b _ q λz=>z)];exact q,λb u xs q=>by rw[ak (hm b _ q λz=>z)];exact q,λb ps q=>⟨#[],by rw[ak (hm b _ q λz=>z),q];simp⟩⟩
 by_cases hbe:b=e
 ·subst hbe;exact heo
 ·exact⟨u,k b u hbe q⟩
end
def trk(h:Heap)(H:Hp):List Addr:=(ä h.objs.size).filter λa=>(H a).isSome
def rZ(h:Heap)(H:Hp):Heap:=W.hideAll h (trk h H)
def Aj(h:Heap)(H:Hp):(rZ h H).objs.size=h.objs.size:=W.hideAll_size _ _
def oO{h:Heap}{H:Hp}{b:Addr}{o:Obj}(e:h.get? b=some o)(n:H b=none):(rZ h H).get? b=some o :=
 W.hideAll_get _ e λhm=>by
  have q:(H b).isSome=true:=(ć.mp hm).2
  rw[n] at q;simp at q
def HF{h:Heap}{H:Hp}{b:Addr}{o:Obj}(e:(rZ h H).get? b=some o):h.get? b=some o/\H b=none:=by
 have e':h.get? b=some o:=W.of_hideAll (trk h H) e
 refine⟨e',?_⟩
 cases q:H b with
 |none=>rfl
 |some x =>
  have hm:b∈trk h H:=ć.mpr ⟨Ŷ.mpr (É e'),by simp[q]⟩
  have z:(rZ h H).get? b=none:=W.hideAll_none (trk h H) hm
  rw[z] at e;cases e
def sZ(g h:Heap)(L:Addr):List (Addr×Obj):=(ä h.objs.size).filterMap λa=>if a=L\/(g.get? a).isSome=true then none else (h.get? a).map λo=>(a,o)
def oE{g h:Heap}{L:Addr}{p:Addr×Obj}(hp:p∈sZ g h L):p.1≠L/\g.get? p.1=none/\h.get? p.1=some p.2:=by
 obtain⟨b,_,e⟩:=ū.mp hp
 split at e
 ·cases e
 ·rename_i hn
  cases q:h.get? b with
  |none=>rw[q] at e;simp at e
  |some u =>
   rw[q] at e
   simp only[Option.map_some,Option.some.injEq] at e
   subst e
   refine⟨λz=>hn (.inl z),?_,q⟩
   show g.get? b=none
   cases r:g.get? b with
   |none=>rfl
   |some v=>exact(hn (.inr (by simp[r]))).elim
def rest(g h:Heap)(L d:Addr):List (Addr×Obj):=(sZ g h L).filter λp=>decide (p.1≠d)
def Ec{g h:Heap}{L:Addr}:News g L h (sZ g h L):=λp hp=>let ⟨a,b,c⟩:=oE hp;⟨c,a,b⟩
structure Mod(K:Ø)(mg:Str->Option Value)(base:Heap):Prop where
 kin:K.In base
 glob:base.Ns mainGlobals mg
 blt:∃mb,base.Ns builtinsNs mb/\∀x:Str,x≠"__name__"->mb x=bootBuiltins x
 nolimit:base.NoLimit
structure Cx where
 prog:Program
 w:World
 K:Ø
 mg:Str->Option Value
 base:Heap
 A:Around
 N:List Str
 s₀:Shared
 H₀:Hp
 env:Env
 outer:List Env
 stack:List Env
 ex:List Addr
 fn:Str->Bool
 calm:Bool
 pn:List (Addr×Obj)
 xe:Value->Shared->Prop
 sf:List (Addr×Obj×HO):=[]
def frs(l:List Env):List Addr:=l.filterMap (·.frame)
abbrev Cx.fs(X:Cx):List Addr:=frs X.outer
def Vis(sc:Scope)(x:Str):Prop:=sc.names.lookup x=some .local\/sc.names.lookup x=some .cell\/sc.names.lookup x=some .free
def Loc(sc:Scope)(x:Str):Prop:=sc.names.lookup x=some .local\/sc.names.lookup x=some .cell
def Look(env:Env)(h:Heap)(m:Str->Option Value)(x:Str)(u:Value):Prop :=
 (env.kindOf x=some .local/\m x=some u)\/((env.kindOf x=some .cell\/env.kindOf x=some .free)/\∃c,env.cells.lookup x=some c/\h.IsCell c (some u))
abbrev zS(X:Cx)(e:Expr)(es:List Expr):Prop:=starEach (e::es) X.env=(false,eval e X.env)::starEach es X.env
abbrev zP(X:Cx)(p:Pos)(es:List Expr):Prop:=(backTo p (starEach es X.env)).any (·.1)=false
abbrev zB(x:Str):Prop:=(x == ("__debug__":Str))=false
abbrev zF(X:Cx)(e:Expr):Prop:=∀x,foldedSetIterable e X.env x=pure x
abbrev zL(X:Cx)(x:Str):Prop:=X.fn x=true\/X.env.scope.names.lookup x=some .local
abbrev zW(X:Cx)(p:Pos)(es:List Expr):Prop:=((backTo p (starEach es X.env)).all (λx=>!x.1)&&(backToKw p (keywordEach [] X.env)).all (λx=>x.1.isSome)&&decide (es.length+([]:List Keyword).length+(if ([]:List Keyword).isEmpty then 0 else 1)<30))=true
def zQ{sc:Scope}{x:Str}(h:(sc.names.lookup x == some .local||sc.names.lookup x == some .cell)=true:=by rfl):Loc sc x:=(Bool.or_eq_true_iff.mp h).imp (λz=>eq_of_beq z) λz=>eq_of_beq z
structure Cx.Ok(X:Cx):Prop where
 mod:Mod X.K X.mg X.base
 kind:X.env.scope.kind=.function
 glob:X.env.globals=mainGlobals
 blt:X.env.builtins=builtinsNs
 above:X.s₀.heap.objs.size<=X.env.locals
 inj:∀x y c,X.env.cells.lookup x=some c->X.env.cells.lookup y=some c->x=y
 has:∀x,(X.env.kindOf x=some .cell\/X.env.kindOf x=some .free)->∃c,X.env.cells.lookup x=some c
 cab:∀x c,X.fn x=true->X.env.cells.lookup x=some c->X.s₀.heap.objs.size<=c
 hd:X.calm=true->X.A.handled=none
 frames:X.A.frames=some X.stack
 stk:X.stack=X.outer\/(X.stack=X.env::X.outer/\X.env.frame=some X.env.locals)
 exf:∀b∈X.ex,b≠X.env.locals/\∀x c,X.env.cells.lookup x=some c->c≠b
 bs:∀b o,X.base.get? b=some o->X.s₀.heap.get? b=some o/\X.H₀ b=none
 bsz:X.base.objs.size<=X.s₀.heap.objs.size
 noex:∀b o,X.base.get? b=some o->b∉X.ex
 exfs:∀b∈X.ex,b∉X.fs
 jl:X.s₀.heap.FunFrames X.base X.outer
 frf:∀b∈X.fs,X.H₀ b=none
 sof:∀q∈X.sf,X.A.handled=some (.ref q.1)/\X.H₀ q.1=some (.frz q.2.1 q.2.2)/\∃ws,q.2.1.data=.fields ws/\ws[2]?=some .none
structure Inv(X:Cx)(pins:List (Addr×Obj))(σ:List (Option V))(H:Hp)(s:Shared):Prop where
 ok:X.Ok
 os:s.os=X.s₀.os
 bare:AllBare s.gens
 base:Un X.fs X.ex X.H₀ H X.s₀.heap s.heap
 loc:∃m,s.heap.Ns X.env.locals m/\∀(i:Nat) (x:Str) (v:V),X.N[i]?=some x->σ[i]?=some (some v)->Vis X.env.scope x->∃u,RelV v u/\Look X.env s.heap m x u
 cell:∀x c,X.env.cells.lookup x=some c->∃v,s.heap.IsCell c v
 free:H X.env.locals=none
 freeC:∀x c,X.env.cells.lookup x=some c->H c=none
 pin:∀p∈X.pn++pins,s.heap.get? p.1=some p.2/\H p.1=none/\p.1≠X.env.locals/\p.1∉X.fs/\∀v,p.2.data≠.cell v
 hok:HOk X.prog X.w H s.heap
 len:σ.length=X.N.length
section
variable {X:Cx}{pins:List (Addr×Obj)}{σ:List (Option V)}{H H':Hp}{s:Shared}{h':Heap}
def Cx.Ok.QF(ok:X.Ok){b:Addr}{o:Obj}(e:X.base.get? b=some o):b∉X.fs:=λhb=>by
 have:=(ok.jl.mem hb).1
 rw[e] at this;cases this
def Inv.bs(I:Inv X pins σ H s):∀b o,X.base.get? b=some o->s.heap.get? b=some o/\H b=none:=λb o e =>
 ⟨I.base.keep b o (I.ok.bs b o e).1 (I.ok.bs b o e).2 (I.ok.QF e) (I.ok.noex b o e),I.base.free b o (I.ok.bs b o e).1 (I.ok.bs b o e).2 (I.ok.noex b o e)⟩
def Inv.bk(I:Inv X pins σ H s):∀b o,X.base.get? b=some o->s.heap.get? b=some o:=λb o e=>(I.bs b o e).1
def Inv.mod(I:Inv X pins σ H s):Mod X.K X.mg X.base:=I.ok.mod
def Inv.kIn(I:Inv X pins σ H s):X.K.In s.heap:=I.ok.mod.kin.keeps I.bk
def Inv.fr(I:Inv X pins σ H s):∃m,Fr X.base X.env.locals s.heap m :=
 let ⟨m,hn,_⟩:=I.loc
 ⟨m,hn,I.bk,ï I.ok.bsz I.ok.above⟩
def Inv.lt(I:Inv X pins σ H s):X.env.locals<s.heap.objs.size:=let ⟨_,hn,_⟩:=I.loc;hn.lt
def Inv.sz(I:Inv X pins σ H s):X.s₀.heap.objs.size<=s.heap.objs.size:=ï I.ok.above (Nat.le_of_lt I.lt)
def Inv.QD(I:Inv X pins σ H s){a:Addr}(h:s.heap.objs.size<=a):a∉X.fs:=λhb=>by
 obtain⟨_,o,ho,_⟩:=I.ok.jl.mem hb
 exact absurd (à (É ho) (ï I.sz h)) (ó _)
def Inv.cne(I:Inv X pins σ H s):∀x c,X.env.cells.lookup x=some c->c≠X.env.locals:=λx c e z=>by
 obtain⟨v,o,ho,hd⟩:=I.cell x c e
 obtain⟨m,⟨o',es,ep,ho',hd',_⟩,_⟩:=I.loc
 rw[z,ho'] at ho;cases ho;rw[hd'] at hd;cases hd
def Inv.jl(I:Inv X pins σ H s):s.heap.FunFrames X.base X.outer:=by
 have all:∀(l:List Env),(∀b∈frs l,b∈X.fs)->X.s₀.heap.FunFrames X.base l->s.heap.FunFrames X.base l:=by
  intro l
  induction l with
  |nil=>intro _ _;trivial
  |cons env r ih =>
   intro hs hl
   obtain⟨hk,⟨L,o,hf,hn,ho,hd⟩,hr⟩:=hl
   have hL:L∈X.fs:=hs L (by unfold frs;rw[Ţ,hf];exact Ú)
   obtain⟨sl,e⟩:=I.base.slot L o ho (I.ok.frf L hL) hL λz=>I.ok.exfs L z hL
   exact⟨hk,⟨L,_,hf,hn,e,hd⟩,ih (λb hb=>hs b (by unfold frs;rw[Ţ,hf];exact Õ _ hb)) hr⟩
 exact all X.outer (λ_ hb=>hb) I.ok.jl
def Inv.stack(I:Inv X pins σ H s):s.heap.FunFrames X.base X.stack:=by
 rcases I.ok.stk with e|⟨e,hf⟩
 ·rw[e];exact I.jl
 ·rw[e]
  obtain⟨m,hn,_⟩:=I.loc
  refine .cons (by rw[I.ok.kind];decide) hf hn ?_ I.jl
  exact Heap.get?_none_of_le (ï I.ok.bsz I.ok.above)
def Inv.qG(I:Inv X pins σ H s):∀b∈frs X.stack,b∈X.env.locals::X.fs:=λb hb=>by
 rcases I.ok.stk with e|⟨e,hf⟩
 ·rw[e] at hb;exact Õ _ hb
 ·rw[e] at hb
  unfold frs at hb
  rw[Ţ,hf] at hb
  exact hb
def Inv.xO(I:Inv X pins σ H s):∀b∈frs X.stack,H b=none:=λb hb=>by
 rcases Ē.mp (I.qG b hb) with e|hb
 ·rw[e];exact I.free
 ·obtain⟨_,o,ho,_⟩:=I.ok.jl.mem hb
  exact I.base.free b o ho (I.ok.frf b hb) λz=>I.ok.exfs b z hb
def Inv.step{g':Array GenState}{t':Nat}{d':Drawn}{ch:List Addr}(I:Inv X pins σ H s)(hch:∀b∈ch,(b∈X.ex\/X.s₀.heap.objs.size<=b)/\b≠X.env.locals/\(∀x c,X.env.cells.lookup x=some c->c≠b)/\∀p∈X.pn++pins,p.1≠b)(keep:∀b o,b≠X.env.locals->b∉X.fs->b∉ch->s.heap.get? b=some o->H b=none->h'.get? b=some o)(slot:∀b o,b≠X.env.locals->b∈X.fs->b∉ch->s.heap.get? b=some o->H b=none->∃sl,h'.get? b=some { o with slots:=sl })(free:∀b o,b∉ch->s.heap.get? b=some o->H b=none->H' b=none)(there:∀b o,b∉ch->s.heap.get? b=some o->∃o',h'.get? b=some o')(tups:∀b xs,H b=some (.tup xs)->H' b=some (.tup xs))(frzs:∀b o u,H b=some (.frz o u)->H' b=some (.frz o u))(tbls:∀b ps,H b=some (.tbl ps)->∃more,H' b=some (.tbl (ps++more)))(ns:∀m,s.heap.Ns X.env.locals m->h'.Ns X.env.locals m)(hok:HOk X.prog X.w H' h')(hg:AllBare g') :
  Inv X pins σ H' { s with heap:=h',gens:=g',drawn:=d',toks:=t' }:=by
 have neL:∀b o,X.s₀.heap.get? b=some o->b≠X.env.locals:=λb o e=>ã (à (É e) I.ok.above)
 have neC:∀b o,X.s₀.heap.get? b=some o->b∉X.ex->b∉ch:=λb o e hx hb=>by
  rcases(hch b hb).1 with z|z
  ·exact hx z
  ·exact absurd (à (É e) z) (ó _)
 have cellK:∀x c,X.env.cells.lookup x=some c->∀v,s.heap.IsCell c v->h'.IsCell c v:=λx c e v ⟨o,ho,hd⟩=>by
  have nch:c∉ch:=λz=>(hch c z).2.2.1 x c e rfl
  by_cases hc:c∈X.fs
  ·obtain⟨sl,q⟩:=slot c o (I.cne x c e) hc nch ho (I.freeC x c e)
   exact⟨_,q,hd⟩
  ·exact⟨o,keep c o (I.cne x c e) hc nch ho (I.freeC x c e),hd⟩
 refine⟨I.ok,I.os,hg,⟨λb o e n hb hx=>?_,λb o e n hb hx=>?_,λb o e n hx=>?_,λb o e hx=>?_,λb xs e=>tups b xs (I.base.tups b xs e),λb o xs e=>frzs b o xs (I.base.frzs b o xs e),λb ps e=>?_⟩,?_,λx c e=>?_,?_,λx c e=>?_,λp hp=>?_,hok,I.len⟩
 ·exact keep b o (neL b o e) hb (neC b o e hx) (I.base.keep b o e n hb hx) (I.base.free b o e n hx)
 ·obtain⟨sl,e1⟩:=I.base.slot b o e n hb hx
  obtain⟨sl',e2⟩:=slot b _ (neL b o e) hb (neC b o e hx) e1 (I.base.free b o e n hx)
  exact⟨sl',e2⟩
 ·obtain⟨o',e1⟩:=I.base.there b o e hx
  exact free b o' (neC b o e hx) e1 (I.base.free b o e n hx)
 ·obtain⟨o',e1⟩:=I.base.there b o e hx
  exact there b o' (neC b o e hx) e1
 ·obtain⟨m1,e1⟩:=I.base.tbls b ps e
  obtain⟨m2,e2⟩:=tbls b _ e1
  exact⟨m1++m2,by rw[e2,Array.append_assoc]⟩
 ·obtain⟨m,hn,hl⟩:=I.loc
  refine⟨m,ns m hn,λi x v e1 e2 e3=>?_⟩
  obtain⟨u,r,l⟩:=hl i x v e1 e2 e3
  refine⟨u,r,?_⟩
  rcases l with l|⟨k,c,e,z⟩
  ·exact .inl l
  ·exact .inr ⟨k,c,e,cellK x c e _ z⟩
 ·obtain⟨v,z⟩:=I.cell x c e
  exact⟨v,cellK x c e v z⟩
 ·obtain⟨m,⟨o,_,_,ho,_⟩,_⟩:=I.loc
  exact free _ o (λz=>(hch _ z).2.1 rfl) ho I.free
 ·obtain⟨v,o,ho,hd⟩:=I.cell x c e
  exact free c o (λz=>(hch c z).2.2.1 x c e rfl) ho (I.freeC x c e)
 ·obtain⟨e,n,ne,nf,d⟩:=I.pin p hp
  have nch:p.1∉ch:=λz=>(hch p.1 z).2.2.2 p hp rfl
  exact⟨keep p.1 p.2 ne nf nch e n,free p.1 p.2 nch e n,ne,nf,d⟩
def Inv.un{t':Nat}(I:Inv X pins σ H s)(u:Un X.fs [] H H' s.heap h')(hok:HOk X.prog X.w H' h'):Inv X pins σ H' { s with heap:=h',toks:=t' }:=by
 obtain⟨m,⟨o,es,ep,ho,r⟩,_⟩:=id I.loc
 obtain⟨sl,hL⟩:=u.any ho I.free (by simp)
 exact I.step (g':=s.gens) (d':=s.drawn) (ch:=[]) (λ_ z=>nomatch z) (λb o _ hb _ e n=>u.keep b o e n hb (by simp)) (λb o _ hb _ e n=>u.slot b o e n hb (by simp)) (λb o _ e n=>u.free b o e n (by simp)) (λb o _ e=>u.there b o e (by simp)) u.tups u.frzs u.tbls (λm' hm=>by
  obtain⟨o',es',ep',ho',r'⟩:=hm
  rw[ho] at ho';cases ho'
  exact⟨_,es',ep',hL,r'⟩) hok I.bare
def Inv.call{g':Array GenState}{t':Nat}{d':Drawn}{ch:List Addr}(I:Inv X pins σ H s)(u:Un (frs X.stack) ch H H' s.heap h')(hok:HOk X.prog X.w H' h')(hg:AllBare g')(hch:∀b∈ch,(b∈X.ex\/X.s₀.heap.objs.size<=b)/\b≠X.env.locals/\(∀x c,X.env.cells.lookup x=some c->c≠b)/\∀p∈X.pn++pins,p.1≠b) :
  Inv X pins σ H' { s with heap:=h',gens:=g',drawn:=d',toks:=t' }:=by
 obtain⟨m,⟨o,es,ep,ho,r⟩,_⟩:=id I.loc
 obtain⟨sl,hL⟩:=u.any ho I.free λz=>(hch _ z).2.1 rfl
 exact I.step (ch:=ch) hch (λb o hL hb hc e n=>u.keep b o e n (λz=>(Ē.mp (I.qG b z)).elim hL hb) hc) (λb o _ _ hc e n=>u.any e n hc) (λb o hc e n=>u.free b o e n hc) (λb o hc e=>u.there b o e hc) u.tups u.frzs u.tbls (λm' hm=>by
  obtain⟨o',es',ep',ho',r'⟩:=hm
  rw[ho] at ho';cases ho'
  exact⟨_,es',ep',hL,r'⟩) hok hg
def Inv.turned{t':Nat}{it:Addr}(I:Inv X pins σ H s)(k:∀b o,b≠it->s.heap.get? b=some o->h'.get? b=some o)(hn:H it=none)(hL:it≠X.env.locals)(h1:it∈X.ex\/X.s₀.heap.objs.size<=it)(h2:∀x c,X.env.cells.lookup x=some c->c≠it)(h3:∀p∈X.pn++pins,p.1≠it):Inv X pins σ H { s with heap:=h',toks:=t' }:=by
 have nit:∀b u,H b=some u->b≠it:=λb u e z=>by rw[z,hn] at e;cases e
 refine I.step (g':=s.gens) (d':=s.drawn) (ch:=[it]) (λb hb=>?_) (λb o _ _ hc e _=>k b o (λz=>hc (by simp[z])) e) (λb o _ _ hc e _=>⟨o.slots,k b o (λz=>hc (by simp[z])) e⟩) (λ_ _ _ _ n=>n)
  (λb o hc e=>⟨o,k b o (λz=>hc (by simp[z])) e⟩) (λ_ _ e=>e) (λ_ _ _ e=>e) (λb ps e=>⟨#[],by rw[e];simp⟩) (λm hm=>?_) (λb u e=>?_) I.bare
 ·have e:b=it:=by simpa using hb
  subst e
  exact⟨h1,hL,h2,h3⟩
 ·obtain⟨o,es,ep,ho,r⟩:=hm
  exact⟨o,es,ep,k _ o (ę hL) ho,r⟩
 ·refine(I.hok b u e).stay (λc v hc q=>k c v ?_ q) (λ_ q=>q) λ_ _ q=>q
  rcases hc with z|z
  ·rw[z];exact nit b u e
  ·exact nit c _ z
def Inv.tok(I:Inv X pins σ H s)(t:Nat):Inv X pins σ H { s with toks:=t }:=I.un (h':=s.heap) (t':=t) Un.refl I.hok
def Inv.kept{t':Nat}(I:Inv X pins σ H s)(k:∀b u,s.heap.get? b=some u->h'.get? b=some u):Inv X pins σ H { s with heap:=h',toks:=t' }:=I.un (Un.kept k) (I.hok.kept k)
def Inv.laid{a:Addr}{o:HO}{t':Nat}(I:Inv X pins σ H s)(k:∀b u,s.heap.get? b=some u->h'.get? b=some u)(hp:s.heap.objs.size<=a)(new:bx X.prog X.w (upd H a o) h' a o) :
  Inv X pins σ (upd H a o) { s with heap:=h',toks:=t' }:=I.un (Un.laid k hp (I.hok.fresh hp)) (I.hok.laid k hp new)
def Inv.write{x e:Addr}{o:HO}{t':Nat}(I:Inv X pins σ H s)(mu:Mut (H x))(he:e=x\/H e=some (.own x))(k:∀b u,b≠e->s.heap.get? b=some u->h'.get? b=some u)(heo:∃u,h'.get? e=some u)(new:bx X.prog X.w (upd H x o) h' x o):Inv X pins σ (upd H x o) { s with heap:=h',toks:=t' }:=I.un (Un.write mu he k heo) (I.hok.write mu he k heo new)
def Inv.mO{pins':List (Addr×Obj)}(I:Inv X pins σ H s)(h:∀p∈pins',s.heap.get? p.1=some p.2/\H p.1=none/\p.1≠X.env.locals/\p.1∉X.fs/\∀v,p.2.data≠.cell v):Inv X pins' σ H s :=
 ⟨I.ok,I.os,I.bare,I.base,I.loc,I.cell,I.free,I.freeC,λp hp=>(Ù.mp hp).elim (λz=>I.pin p (ĝ _ z)) (h p),I.hok,I.len⟩
def uM{N:List Str}(hN:N.Nodup){i j:Nat}{x:Str}(a:N[i]?=some x)(b:N[j]?=some x):i=j:=by
 obtain⟨h1,e1⟩:=Ö.mp a
 obtain⟨h2,e2⟩:=Ö.mp b
 exact(List.getElem_inj hN).mp (e1.trans e2.symm)
def pK{M:Model}{A:Around}{E:Value->Shared->Prop}{i:Nat}{x:Str}{v:V}{u:Value}{Q:Unit->Shared->Prop}(I:Inv X pins σ H s)(hU:∀j,X.N[j]?=some x->j=i)(hi:X.N[i]?=some x)(hx:Loc X.env.scope x)(r:RelV v u)(h:∀s',Inv X pins (σ.set i (some v)) H s'->(∃a,Heap.SameBut a s.heap s'.heap/\(a=X.env.locals\/X.env.cells.lookup x=some a))->Q () s')(hf:X.fn x=true\/X.env.scope.names.lookup x=some .local:=by first|exact .inl rfl|exact .inr rfl|assumption):wpAny M A (storeName X.env x u) Q E s:=by
 obtain⟨m,hn,hl⟩:=id I.loc
 have hcls:(X.env.scope.kind == .class || (X.env.scope.kind == .module&&X.env.locals != X.env.globals))=false:=by rw[I.ok.kind];rfl
 have hiσ:i<σ.length:=by rw[I.len];exact(Ö.mp hi).1
 have cne:=I.cne
 have tracked:∀{a:Addr}{h':Heap},(∃o,s.heap.get? a=some o/\H a=none)->Heap.SameBut a s.heap h'->HOk X.prog X.w H h':=λ{a h'} ha hs b ob e=>by
  obtain⟨_,_,hfree⟩:=ha
  refine(I.hok b ob e).stay (λc w' hc q=>(hs.2 c ?_).trans q) (λ_ q=>q) λ_ _ q=>q
  rintro rfl
  rcases hc with rfl|hc
  ·rw[hfree] at e;cases e
  ·rw[hfree] at hc;cases hc
 rcases hx with hk|hk
 ·refine wpAny_storeName_local hk hn (λh' hn' hs=>?_) hcls
  obtain⟨oL,_,_,hoL,_⟩:=id hn
  refine h _ ⟨I.ok,I.os,I.bare,⟨λb o e n hb hx=>?_,λb o e n hb hx=>?_,I.base.free,λb o e hx=>?_,I.base.tups,I.base.frzs,I.base.tbls⟩,⟨_,hn',λj y v' e1 e2 e3=>?_⟩,λy c e=>?_,I.free,I.freeC,λp hp=>?_,tracked ⟨oL,hoL,I.free⟩ hs,by simpa using I.len⟩ ⟨_,hs,.inl rfl⟩
  ·exact(hs.2 b (ã (à (É e) I.ok.above))).trans (I.base.keep b o e n hb hx)
  ·obtain⟨sl,e1⟩:=I.base.slot b o e n hb hx
   exact⟨sl,(hs.2 b (ã (à (É e) I.ok.above))).trans e1⟩
  ·obtain⟨o',e1⟩:=I.base.there b o e hx
   exact⟨o',(hs.2 b (ã (à (É e) I.ok.above))).trans e1⟩
  ·by_cases hj:j=i
   ·subst hj
    rw[hi] at e1;cases e1
    rw[ý hiσ] at e2
    cases e2
    exact⟨u,r,.inl ⟨hk,by simp⟩⟩
   ·rw[Ğ (ę hj)] at e2
    obtain⟨u',r',q⟩:=hl j y v' e1 e2 e3
    refine⟨u',r',?_⟩
    rcases q with ⟨k,e⟩|⟨k,c,e,z⟩
    ·refine .inl ⟨k,?_⟩
     have:y≠x:=λe=>hj (hU _ (e ▸ e1))
     simp[this,e]
    ·exact .inr ⟨k,c,e,z.sameBut hs (cne y c e)⟩
  ·obtain⟨w',z⟩:=I.cell y c e
   exact⟨w',z.sameBut hs (cne y c e)⟩
  ·obtain⟨e,n,ne,nf,d⟩:=I.pin p hp
   exact⟨(hs.2 p.1 ne).trans e,n,ne,nf,d⟩
 ·have hfn:X.fn x=true:=by
   rcases hf with z|z
   ·exact z
   ·rw[z] at hk;cases hk
  obtain⟨c,hc⟩:=I.ok.has x (.inl hk)
  obtain⟨w',z⟩:=I.cell x c hc
  refine wpAny_storeName_cell I.ok.kind hk hc z (λh' hc' hs=>?_)
  obtain⟨oc,hoc,hocd⟩:=id z
  refine h { s with heap:=h' } ⟨I.ok,I.os,I.bare,⟨λb o e n hb hx=>?_,λb o e n hb hx=>?_,I.base.free,λb o e hx=>?_,I.base.tups,I.base.frzs,I.base.tbls⟩,⟨m,hn.sameBut hs (ę (cne x c hc)),λj y v' e1 e2 e3=>?_⟩,λy c' e=>?_,I.free,I.freeC,λp hp=>?_,tracked ⟨oc,hoc,I.freeC x c hc⟩ hs,by simpa using I.len⟩ ⟨c,hs,.inr hc⟩
  ·exact(hs.2 b (ã (à (É e) (I.ok.cab x c hfn hc)))).trans (I.base.keep b o e n hb hx)
  ·obtain⟨sl,e1⟩:=I.base.slot b o e n hb hx
   exact⟨sl,(hs.2 b (ã (à (É e) (I.ok.cab x c hfn hc)))).trans e1⟩
  ·obtain⟨o',e1⟩:=I.base.there b o e hx
   exact⟨o',(hs.2 b (ã (à (É e) (I.ok.cab x c hfn hc)))).trans e1⟩
  ·by_cases hj:j=i
   ·subst hj
    rw[hi] at e1;cases e1
    rw[ý hiσ] at e2
    cases e2
    exact⟨u,r,.inr ⟨.inl hk,c,hc,hc'⟩⟩
   ·rw[Ğ (ę hj)] at e2
    obtain⟨u',r',q⟩:=hl j y v' e1 e2 e3
    refine⟨u',r',?_⟩
    rcases q with q|⟨k,c',e,z'⟩
    ·exact .inl q
    ·refine .inr ⟨k,c',e,z'.sameBut hs ?_⟩
     rintro rfl
     exact hj (hU _ (I.ok.inj _ _ _ e hc ▸ e1))
  ·by_cases hcc:c'=c
   ·subst hcc;exact⟨_,hc'⟩
   ·obtain⟨w2,z2⟩:=I.cell y c' e
    exact⟨w2,z2.sameBut hs hcc⟩
  ·obtain⟨e,n,ne,nf,d⟩:=I.pin p hp
   refine⟨(hs.2 p.1 ?_).trans e,n,ne,nf,d⟩
   intro q
   rw[q,hoc] at e
   have q':oc=p.2:=ß e
   exact d w' (by rw[←q'];exact hocd)
def ud{M:Model}{A:Around}{E:Value->Shared->Prop}{i:Nat}{x:Str}{v:V}{u:Value}{Q:Unit->Shared->Prop}(I:Inv X pins σ H s)(hN:X.N.Nodup)(hi:X.N[i]?=some x)(hx:Loc X.env.scope x)(r:RelV v u)(h:∀s',Inv X pins (σ.set i (some v)) H s'->Q () s')(hf:X.fn x=true\/X.env.scope.names.lookup x=some .local:=by first|exact .inl rfl|exact .inr rfl|assumption):wpAny M A (storeName X.env x u) Q E s :=
 pK I (λj h=>uM hN h hi) hi hx r (λs' I' _=>h s' I') hf
def Inv.call'{s':Shared}{ch:List Addr}(I:Inv X pins σ H s)(ho:s'.os=s.os)(u:Un (frs X.stack) ch H H' s.heap s'.heap)(hok:HOk X.prog X.w H' s'.heap)(hg:AllBare s'.gens)(hch:∀b∈ch,(b∈X.ex\/X.s₀.heap.objs.size<=b)/\b≠X.env.locals/\(∀x c,X.env.cells.lookup x=some c->c≠b)/\∀p∈X.pn++pins,p.1≠b):Inv X pins σ H' s':=by
 obtain⟨h',g',d',t',o'⟩:=s'
 have e:o'=s.os:=ho
 subst e
 exact I.call (g':=g') (t':=t') (d':=d') u hok hg hch
end
abbrev XK:=Value->Option Addr->Hp->Prop
abbrev St:=List (Option V)
abbrev VK:=V->Hp->Prop
abbrev TE:=St->Hp->VK->Prop
abbrev TT:=St->Hp->(Bool->Hp->Prop)->Prop
abbrev TA:=St->Hp->(List V->Hp->Prop)->Prop
structure Ends where
 nx:St->Hp->Prop
 rt:VK
 bk:St->Hp->Prop:=λ_ _=>False
 ct:St->Hp->Prop:=λ_ _=>False
abbrev TS:=Ends->St->Hp->Prop
def EP(X:Cx)(pins:List (Addr×Obj))(σ:St)(Q:VK)(u:Value)(s':Shared):Prop:=∃v H',Inv X pins σ H' s'/\RelV v u/\Q v H'
def TP(X:Cx)(pins:List (Addr×Obj))(σ:St)(Q:Bool->Hp->Prop)(b:Bool)(s':Shared):Prop:=∃H',Inv X pins σ H' s'/\Q b H'
def AP(X:Cx)(pins:List (Addr×Obj))(σ:St)(Q:List V->Hp->Prop)(us:List Value)(s':Shared):Prop:=∃vs H',Inv X pins σ H' s'/\Vals vs us/\Q vs H'
def SP(X:Cx)(pins:List (Addr×Obj))(D:Ends)(f:Flow)(s':Shared):Prop :=
 match f with
 |.next=>∃σ' H',Inv X pins σ' H' s'/\D.nx σ' H'
 |.brk=>∃σ' H',Inv X pins σ' H' s'/\D.bk σ' H'
 |.cont=>∃σ' H',Inv X pins σ' H' s'/\D.ct σ' H'
 |.ret u=>∃v σ' H',Inv X pins σ' H' s'/\RelV v u/\D.rt v H'
def PE(X:Cx)(e:Expr)(t:TE):Prop :=
 ∀(pins:List (Addr×Obj)) (s:Shared) (σ:St) (H:Hp) (Q:VK),Inv X pins σ H s->t σ H Q->wpAny (model X.prog X.w) X.A (eval e X.env) (EP X pins σ Q) X.xe s
def PT(X:Cx)(e:Expr)(t:TT):Prop :=
 ∀(pins:List (Addr×Obj)) (s:Shared) (σ:St) (H:Hp) (Q:Bool->Hp->Prop),Inv X pins σ H s->t σ H Q->wpAny (model X.prog X.w) X.A (isTrue e X.env (eval e X.env)) (TP X pins σ Q) X.xe s
def PW(X:Cx)(e:Expr)(t:TT):Prop :=
 ∀(whole:Sem Value) (pins:List (Addr×Obj)) (s:Shared) (σ:St) (H:Hp) (Q:Bool->Hp->Prop),Inv X pins σ H s->t σ H Q->wpAny (model X.prog X.w) X.A (isTrue e X.env whole) (TP X pins σ Q) X.xe s
def PW.pt{X:Cx}{e:Expr}{t:TT}(h:PW X e t):PT X e t:=h _
def PA(X:Cx)(es:List Expr)(t:TA):Prop :=
 ∀(pos:Pos) (pins:List (Addr×Obj)) (s:Shared) (σ:St) (H:Hp) (Q:List V->Hp->Prop),Inv X pins σ H s->t σ H Q->wpAny (model X.prog X.w) X.A (spliced (backTo pos (starEach es X.env))) (AP X pins σ Q) X.xe s
def PS(X:Cx)(st:Stmt)(t:TS):Prop :=
 ∀(pins:List (Addr×Obj)) (s:Shared) (σ:St) (H:Hp) (D:Ends),Inv X pins σ H s->t D σ H->wpAny (model X.prog X.w) X.A (exec st X.env) (SP X pins D) X.xe s
def PSs(X:Cx)(st:List Stmt)(t:TS):Prop :=
 ∀(pins:List (Addr×Obj)) (s:Shared) (σ:St) (H:Hp) (D:Ends),Inv X pins σ H s->t D σ H->wpAny (model X.prog X.w) X.A (execs st X.env) (SP X pins D) X.xe s
def thn{α:Type}{t:Sem α}{Q Q':α->Shared->Prop}{M:Model}{A:Around}{E:Value->Shared->Prop}{s:Shared}(h:wpAny M A t Q E s)(hQ:∀a s,Q a s->Q' a s):wpAny M A t Q' E s:=Ĵ h hQ λ_ _ x=>x
section
variable {X:Cx}
def bin{a b:Expr}{ta tb:TE}(ha:PE X a ta)(hb:PE X b tb){pins:List (Addr×Obj)}{s:Shared}{σ:St}{H:Hp}{R:V->V->Hp->Prop}(I:Inv X pins σ H s)(h:ta σ H λx H1=>tb σ H1 λy H2=>R x y H2){α:Type}{Q:α->Shared->Prop}{f:Value->Value->Sem α}(hf:∀v u s2 x y H2,Inv X pins σ H2 s2->RelV x v->RelV y u->R x y H2->wpAny (model X.prog X.w) X.A (f v u) Q X.xe s2) :
  wpAny (model X.prog X.w) X.A (eval a X.env) (λv s₁=>wpAny (model X.prog X.w) X.A (eval b X.env) (λu s₂=>wpAny (model X.prog X.w) X.A (f v u) Q X.xe s₂) X.xe s₁) X.xe s:=by
 refine thn (ha pins s σ H _ I h) λv s1 ⟨x,H1,I1,r1,q1⟩=>?_
 refine thn (hb pins s1 σ H1 _ I1 q1) λu s2 ⟨y,H2,I2,r2,q2⟩=>?_
 exact hf v u s2 x y H2 I2 r1 r2 q2
def vJ(i:Nat):TE:=λσ H Q=>∃v,σ[i]?=some (some v)/\Q v H
def tC(v:V):TE:=λ_ H Q=>Q v H
def KC{i:Nat}{x:Str}{pos:Pos}(hN:X.N[i]?=some x)(hv:Vis X.env.scope x)(hd:(x == ("__debug__":Str))=false:=by decide)(hcd:(x == ("__classdict__":Str))=false:=by decide):PE X (.Name x pos) (vJ i):=by
 intro pins s σ H Q I h
 obtain⟨v,e,h⟩:=h
 obtain⟨m,hn,hl⟩:=I.loc
 obtain⟨u,r,l⟩:=hl i x v hN e hv
 have fin:EP X pins σ Q u s:=⟨v,H,I,r,h⟩
 rcases l with ⟨hk,hm⟩|⟨hk,c,hc,hcell⟩
 ·exact wpAny_Name (wpAny_loadName_local I.ok.kind hk hn hm fin) hd
 ·rcases hk with hk|hk
  ·exact wpAny_Name (wpAny_loadName_cell I.ok.kind hk hc hcell fin) hd
  ·exact wpAny_Name (wpAny_loadName_free I.ok.kind hk hc hcell fin hcd) hd
def CW{i j pos}:PE X (.Constant (.int i) j pos) (tC (.int i)):=λ_ _ _ H _ I h=>wpAny_Constant_int ⟨.int i,H,I.tok _,⟨_,rfl⟩,h⟩
def Oj{b j pos}:PE X (.Constant (.bool b) j pos) (tC (.bl b)):=λ_ _ _ H _ I h=>Constant_bool ⟨.bl b,H,I,rfl,h⟩
def KN{j pos}:PE X (.Constant .none j pos) (tC .non):=λ_ _ _ H _ I h=>Constant_none ⟨.non,H,I,rfl,h⟩
def KD{x j pos}:PE X (.Constant (.str x) j pos) (tC (.str x)):=λ_ _ _ H _ I h=>Calls.Constant_str ⟨.str x,H,I.tok _,⟨_,rfl⟩,h⟩
def Gl(X:Cx)(x:Str):Prop:=X.env.kindOf x=some .globalImplicit
def yL{E:Value->Shared->Prop}{pins:List (Addr×Obj)}{s:Shared}{σ:St}{H:Hp}{x:Str}{u:Value}{pos:Pos}{Q:Value->Shared->Prop}(I:Inv X pins σ H s)(hg:Gl X x)(hm:X.mg x=some u)(h:Q u s)(hd:(x == ("__debug__":Str))=false:=by decide):wpAny (model X.prog X.w) X.A (eval (.Name x pos) X.env) Q E s :=
 Calls.Name_function_global I.ok.kind hg (Calls.loadGlobal_global (by rw[I.ok.glob];exact I.mod.glob.keeps I.bk) hm h) hd
def iy{E:Value->Shared->Prop}{pins:List (Addr×Obj)}{s:Shared}{σ:St}{H:Hp}{x:Str}{u:Value}{pos:Pos}{Q:Value->Shared->Prop}(I:Inv X pins σ H s)(hg:Gl X x)(hm:X.mg x=none)(hv:bootBuiltins x=some u)(h:Q u s)(hn:x≠"__name__":=by decide)(hd:(x == ("__debug__":Str))=false:=by decide):wpAny (model X.prog X.w) X.A (eval (.Name x pos) X.env) Q E s:=by
 obtain⟨mb,h1,h2⟩:=I.mod.blt
 exact Calls.Name_function_global I.ok.kind hg (Calls.loadGlobal_builtin (by rw[I.ok.glob];exact I.mod.glob.keeps I.bk) hm (by rw[I.ok.blt];exact h1.keeps I.bk) ((h2 x hn).trans hv) h) hd
def Hr{x:Str}{v:V}{u:Value}{pos:Pos}(hg:Gl X x)(hm:X.mg x=some u)(r:RelV v u)(hd:(x == ("__debug__":Str))=false:=by decide):PE X (.Name x pos) (tC v) :=
 λ_ _ _ H _ I h=>yL I hg hm ⟨v,H,I,r,h⟩ hd
def mQ{x:Str}{v:V}{u:Value}{pos:Pos}(hg:Gl X x)(hm:X.mg x=none)(hv:bootBuiltins x=some u)(r:RelV v u)(hn:x≠"__name__":=by decide)(hd:(x == ("__debug__":Str))=false:=by decide):PE X (.Name x pos) (tC v) :=
 λ_ _ _ H _ I h=>iy I hg hm hv ⟨v,H,I,r,h⟩ hn hd
variable {a b:Expr}{ta tb:TE}{pos:Pos}
def PC(X:Cx)(op:CmpOp)(a b:Expr)(t:TE):Prop :=
 ∀(pins:List (Addr×Obj)) (s:Shared) (σ:St) (H:Hp) (Q:VK),Inv X pins σ H s->t σ H Q ->
  wpAny (model X.prog X.w) X.A (eval a X.env) (λv s₁=>wpAny (model X.prog X.w) X.A (eval b X.env) (λu s₂=>wpAny (model X.prog X.w) X.A (compareOp op v u) (EP X pins σ Q) X.xe s₂) X.xe s₁) X.xe s
def tB(t:TE):TT:=λσ H Q=>t σ H λx H1=>∃c,x=.bl c/\Q c H1
def Qz{op:CmpOp}{t:TE}(h:PC X op a b t)(h1:behindInMarks op b=false:=by first|exact nobehind _ (by decide) (by decide)|rfl):PT X (.Compare a [op] [b] pos) (tB t):=by
 intro pins s σ H Q I hw
 refine wpAny_isTrue_Compare1 (thn (h pins s σ H _ I hw) λv s1 h1=>thn h1 λu s2 h2=>thn h2 λc s3 ⟨x,H1,I1,r1,q1⟩=>?_) h1
 obtain⟨d,rfl,q⟩:=q1
 cases r1
 exact ĳ ⟨H1,I1,q⟩
def Cv{e:Expr}{t:TE}(h:PE X e t)(he:∀whole,isTrue e X.env whole=(do let v ←whole;standAt e.pos;holding [v] (truthy v)):=by intro _;rfl):PT X e (tB t):=by
 intro pins s σ H Q I hw
 refine isTrue_plain (thn (h pins s σ H _ I hw) λv s1 ⟨x,H1,I1,r1,q1⟩=>?_) (he _)
 obtain⟨d,rfl,q⟩:=q1
 cases r1
 exact ĳ ⟨H1,I1,q⟩
variable {tA tB':TT}{rest:List Expr}
def Nv(t u:TT):TT:=λσ H Q=>t σ H λc H1=>if c=true then u σ H1 Q else Q false H1
def tOr(t u:TT):TT:=λσ H Q=>t σ H λc H1=>if c=true then Q true H1 else u σ H1 Q
def Qj(t:TT):TT:=λσ H Q=>t σ H λc H1=>Q (!c) H1
def xZ(ha:PT X a tA):PW X (.BoolOp .And [a] pos) tA:=by
 intro wh pins s σ H Q I h
 refine isTrue_and (thn (ha pins s σ H Q I h) λc s1 e=>?_)
 cases c with
 |true=>exact isTrue_and_nil e
 |false=>exact e
def Cr(ha:PT X a tA):PW X (.BoolOp .Or [a] pos) tA:=by
 intro wh pins s σ H Q I h
 refine isTrue_or (thn (ha pins s σ H Q I h) λc s1 e=>?_)
 cases c with
 |false=>exact isTrue_or_nil e
 |true=>exact e
def Cu(ha:PT X a tA)(hb:PW X (.BoolOp .And (b::rest) pos) tB'):PW X (.BoolOp .And (a::b::rest) pos) (Nv tA tB'):=by
 intro wh pins s σ H Q I h
 refine isTrue_and (thn (ha pins s σ H _ I h) λc s1 ⟨H1,I1,q1⟩=>?_)
 cases c with
 |true=>exact hb wh pins s1 σ H1 Q I1 q1
 |false=>exact⟨H1,I1,q1⟩
def Jv(ha:PT X a tA)(hb:PW X (.BoolOp .Or (b::rest) pos) tB'):PW X (.BoolOp .Or (a::b::rest) pos) (tOr tA tB'):=by
 intro wh pins s σ H Q I h
 refine isTrue_or (thn (ha pins s σ H _ I h) λc s1 ⟨H1,I1,q1⟩=>?_)
 cases c with
 |true=>exact⟨H1,I1,q1⟩
 |false=>exact hb wh pins s1 σ H1 Q I1 q1
def Cw(ha:PT X a tA):PT X (.UnaryOp .Not a pos) (Qj tA):=by
 intro pins s σ H Q I h
 exact isTrue_not (ha pins s σ H (λc H1=>Q (!c) H1) I h)
def Nu(ta tb:TE):TE:=λσ H Q=>ta σ H λx H1=>∃c,x=.bl c/\if c=true then tb σ H1 Q else Q (.bl false) H1
def Qi(ta tb:TE):TE:=λσ H Q=>ta σ H λx H1=>∃c,x=.bl c/\if c=true then Q (.bl true) H1 else tb σ H1 Q
def Nm(ta:TE):TE:=λσ H Q=>ta σ H λx H1=>∃c,x=.bl c/\Q (.bl (!c)) H1
def KH{op}{t:TE}(h:PE X a t):PE X (.BoolOp op [a] pos) t:=λpins s σ H Q I hw=>BoolOp_one (h pins s σ H Q I hw)
def KR(ha:PE X a ta)(hb:PE X (.BoolOp .And (b::rest) pos) tb):PE X (.BoolOp .And (a::b::rest) pos) (Nu ta tb):=by
 intro pins s σ H Q I h
 refine BoolOp_and (thn (ha pins s σ H _ I h) λv s1 ⟨x,H1,I1,r1,q1⟩=>?_)
 obtain⟨c,rfl,q1⟩:=q1
 cases r1
 refine ĳ ?_
 cases c with
 |true=>exact hb pins s1 σ H1 Q I1 q1
 |false=>exact⟨.bl false,H1,I1,rfl,q1⟩
def Oi(ha:PE X a ta)(hb:PE X (.BoolOp .Or (b::rest) pos) tb):PE X (.BoolOp .Or (a::b::rest) pos) (Qi ta tb):=by
 intro pins s σ H Q I h
 refine BoolOp_or (thn (ha pins s σ H _ I h) λv s1 ⟨x,H1,I1,r1,q1⟩=>?_)
 obtain⟨c,rfl,q1⟩:=q1
 cases r1
 refine ĳ ?_
 cases c with
 |false=>exact hb pins s1 σ H1 Q I1 q1
 |true=>exact⟨.bl true,H1,I1,rfl,q1⟩
def KJ(ha:PE X a ta):PE X (.UnaryOp .Not a pos) (Nm ta):=by
 intro pins s σ H Q I h
 refine UnaryOp_ (thn (ha pins s σ H _ I h) λv s1 ⟨x,H1,I1,r1,q1⟩=>?_)
 obtain⟨c,rfl,q1⟩:=q1
 cases r1
 exact not_of (ĳ ⟨.bl (!c),H1,I1,rfl,q1⟩)
end
def SqL(K:Ø)(H:Hp)(a:Addr)(xs:List V):Prop :=
 Rd H a (.lst xs) ∨
  ∃(o:Obj) (its:Array Value) (n:Nat),K.lookup a=some o/\o.cls=.type "list"/\o.dict=none/\o.data=.seq its n/\its.size<=sizeLine/\Vals xs its.toList
def SqT(K:Ø)(H:Hp)(a:Addr)(xs:List V):Prop :=
 Rd H a (.tup xs) ∨
  ∃(o:Obj) (its:Array Value) (n:Nat),K.lookup a=some o/\o.cls=.type "tuple"/\o.data=.seq its n/\its.size<=sizeLine/\Vals xs its.toList
def Ra:Value->Option V
 |.none=>some .non
 |.bool b=>some (.bl b)
 |.int i _=>some (.int i)
 |.str x _=>some (.str x)
 |.bytes b _=>some (.byt b)
 |.float b _=>some (.flt b)
 |.ref a=>some (.ref a)
 |.type n=>some (.ty n)
 |_=>none
def RelV.abs{x:V}{u:Value}(r:RelV x u):Ra u=some x:=by
 cases x with
 |non=>cases r;rfl
 |bl _=>cases r;rfl
 |int _=>obtain⟨t,rfl⟩:=r;rfl
 |str _=>obtain⟨t,rfl⟩:=r;rfl
 |byt _=>obtain⟨t,rfl⟩:=r;rfl
 |flt _=>obtain⟨t,rfl⟩:=r;rfl
 |ref _=>cases r;rfl
 |ty _=>cases r;rfl
def RelV.inj{x y:V}{u:Value}(r:RelV x u)(q:RelV y u):x=y:=ß (r.abs.symm.trans q.abs)
def Vals.inj:∀{xs ys:List V}{us:List Value},Vals xs us->Vals ys us->xs=ys
 |_,_,_,.nil,.nil=>rfl
 |_,_,_,.cons r t,.cons r' t'=>by rw[r.inj r',Vals.inj t t']
section
variable {X:Cx}{pins:List (Addr×Obj)}{σ:St}{H:Hp}{s:Shared}{a:Addr}{xs ys:List V}
def SqL.of{K:Ø}(h:H a=some (.lst xs)):SqL K H a xs:=.inl (.inl h)
def SqT.of{K:Ø}(h:H a=some (.tup xs)):SqT K H a xs:=.inl (.inl h)
def Inv.list(I:Inv X pins σ H s)(h:SqL X.K H a xs):∃its:List Value,Vals xs its/\PlainL s.heap a its.toArray/\xs.length<=sizeLine:=by
 rcases h with h|⟨o,its,n,hk,hc,hd,hs,hz,r⟩
 ·obtain⟨z,its,n,r,e⟩:=h.ok I.hok
  exact⟨its,r,⟨_,n,e,rfl,rfl,rfl⟩,z⟩
 ·refine⟨its.toList,r,⟨o,n,I.kIn a o hk,hc,hd,by simpa using hs⟩,?_⟩
  have e:=r.length
  simp only[æ] at e
  omega
def Inv.tuple(I:Inv X pins σ H s)(h:SqT X.K H a xs):∃its:List Value,Vals xs its/\IsTup s.heap a its.toArray/\xs.length<=sizeLine:=by
 rcases h with h|⟨o,its,n,hk,hc,hs,hz,r⟩
 ·obtain⟨z,its,r,p⟩:=h.ok I.hok
  exact⟨its,r,p,z⟩
 ·refine⟨its.toList,r,⟨o,I.kIn a o hk,hc,n,by simpa using hs⟩,?_⟩
  have e:=r.length
  simp only[æ] at e
  omega
def Inv.Eo(I:Inv X pins σ H s)(h:SqL X.K H a xs)(h':SqL X.K H a ys):xs=ys:=by
 obtain⟨its,r,⟨o,n,e,_,_,d⟩,_⟩:=I.list h
 obtain⟨its',r',⟨o',n',e',_,_,d'⟩,_⟩:=I.list h'
 rw[e] at e';cases e'
 rw[d] at d'
 injection d' with d1 _
 have:its=its':=by simpa using congrArg Array.toList d1
 subst this
 exact r.inj r'
def Inv.zu(I:Inv X pins σ H s)(h:SqT X.K H a xs)(h':SqT X.K H a ys):xs=ys:=by
 obtain⟨its,r,⟨o,e,_,n,d⟩,_⟩:=I.tuple h
 obtain⟨its',r',⟨o',e',_,n',d'⟩,_⟩:=I.tuple h'
 rw[e] at e';cases e'
 rw[d] at d'
 injection d' with d1 _
 have:its=its':=by simpa using congrArg Array.toList d1
 subst this
 exact r.inj r'
end
abbrev Cx.wish(X:Cx)(E:Value->Shared->Prop):Cx:={ X with xe:=E }
abbrev Cx.nox(X:Cx):Cx:=X.wish λ_ _=>False
def Cx.Ok.wish{X:Cx}(ok:X.Ok)(E:Value->Shared->Prop):(X.wish E).Ok :=
 ⟨ok.mod,ok.kind,ok.glob,ok.blt,ok.above,ok.inj,ok.has,ok.cab,ok.hd,ok.frames,ok.stk,ok.exf,ok.bs,ok.bsz,ok.noex,ok.exfs,ok.jl,ok.frf,ok.sof⟩
def Cx.Ok.gJ{X:Cx}{E:Value->Shared->Prop}(ok:(X.wish E).Ok):X.Ok :=
 ⟨ok.mod,ok.kind,ok.glob,ok.blt,ok.above,ok.inj,ok.has,ok.cab,ok.hd,ok.frames,ok.stk,ok.exf,ok.bs,ok.bsz,ok.noex,ok.exfs,ok.jl,ok.frf,ok.sof⟩
section
variable {X:Cx}{pins:List (Addr×Obj)}{σ:St}{H:Hp}{s:Shared}{E:Value->Shared->Prop}
def Inv.wish(I:Inv X pins σ H s)(E:Value->Shared->Prop):Inv (X.wish E) pins σ H s:=⟨I.ok.wish E,I.os,I.bare,I.base,I.loc,I.cell,I.free,I.freeC,I.pin,I.hok,I.len⟩
def Inv.gJ(I:Inv (X.wish E) pins σ H s):Inv X pins σ H s:=⟨I.ok.gJ,I.os,I.bare,I.base,I.loc,I.cell,I.free,I.freeC,I.pin,I.hok,I.len⟩
def SP.gJ{D:Ends}{f:Flow}{s':Shared}(h:SP (X.wish E) pins D f s'):SP X pins D f s':=by
 cases f with
 |next=>obtain⟨σ',H',I,q⟩:=h;exact⟨σ',H',I.gJ,q⟩
 |brk=>obtain⟨σ',H',I,q⟩:=h;exact⟨σ',H',I.gJ,q⟩
 |cont=>obtain⟨σ',H',I,q⟩:=h;exact⟨σ',H',I.gJ,q⟩
 |ret u=>obtain⟨v,σ',H',I,r,q⟩:=h;exact⟨v,σ',H',I.gJ,r,q⟩
def PSs.nox{st:List Stmt}{t:TS}(h:PSs X.nox st t):PSs X st t:=λpins s σ H D I hw =>
 Ĵ (h pins s σ H D (I.wish _) hw) (λ_ _ q=>q.gJ) λ_ _ z=>ė z
end
section
variable {X:Cx}{st:Stmt}{rest:List Stmt}{t u:TS}{e:Expr}{te:TE}{pos:Pos}
def Nq:TS:=λD σ H=>D.nx σ H
def Qg(t u:TS):TS:=λD σ H=>t { D with nx:=u D } σ H
def mK:PSs X [] Nq:=λ_ _ σ H _ I h=>wpAny_execs_nil ⟨σ,H,I,h⟩
def jB(h1:PS X st t)(h2:PSs X rest u):PSs X (st::rest) (Qg t u):=by
 intro pins s σ H D I h
 refine wpAny_execs_cons (thn (h1 pins s σ H { D with nx:=u D } I h) λf s1 q=>?_)
 cases f with
 |next =>
  obtain⟨σ',H',I',q⟩:=q
  exact h2 pins s1 σ' H' D I' q
 |ret v=>exact q
 |brk=>exact q
 |cont=>exact q
def cT(h1:PS X st t):PSs X [st] t:=by
 intro pins s σ H D I h
 refine wpAny_execs_cons (thn (h1 pins s σ H D I h) λf s1 q=>?_)
 cases f with
 |next=>exact wpAny_execs_nil q
 |ret v=>exact q
 |brk=>exact q
 |cont=>exact q
def Inv.quiet{pins:List (Addr×Obj)}{σ:St}{H:Hp}{s:Shared}(I:Inv X pins σ H s):interactive X.env=false:=by simp[interactive,I.ok.kind]
def xK(te:TE):TS:=λD σ H=>te σ H λ_ H1=>D.nx σ H1
def mL(he:PE X e te)(hs:swapsWith e none pos.line X.env=pure false:=by rfl):PS X (.Expr e pos) (xK te):=by
 intro pins s σ H D I h
 exact wpAny_Expr_any (thn (he pins s σ H _ I h) λv s1 ⟨x,H1,I1,r1,q1⟩=>⟨σ,H1,I1,q1⟩) I.quiet hs
def Qh(te:TE):TS:=λD σ H=>te σ H D.rt
def jh(he:PE X e te):PS X (.Return (some e) pos) (Qh te):=by
 intro pins s σ H D I h
 exact wpAny_Return_some (thn (he pins s σ H _ I h) λv s1 ⟨x,H1,I1,r1,q1⟩=>⟨x,σ,H1,I1,r1,q1⟩)
def Qn(c:TT)(t u:TS):TS:=λD σ H=>c σ H λb H1=>if b=true then t D σ H1 else u D σ H1
def pO{c:Expr}{a b:List Stmt}{tc:TT}(hc:PT X c tc)(ha:PSs X a t)(hb:PSs X b u):PS X (.If c a b pos) (Qn tc t u):=by
 intro pins s σ H D I h
 refine wpAny_If (thn (hc pins s σ H _ I h) λd s1 ⟨H1,I1,q1⟩=>?_)
 cases d with
 |true=>exact ha pins s1 σ H1 D I1 q1
 |false=>exact hb pins s1 σ H1 D I1 q1
def Kc:TS:=λ_ _ _=>False
def Cy:PS X st Kc:=λ_ _ _ _ _ _ h=>h.elim
end
abbrev TG:=V->St->Hp->(St->Hp->Prop)->Prop
abbrev TGs:=List V->St->Hp->(St->Hp->Prop)->Prop
def PG(X:Cx)(target:Expr)(t:TG):Prop :=
 ∀(pins:List (Addr×Obj)) (s:Shared) (σ:St) (H:Hp) (v:V) (u:Value) (Q:St->Hp->Prop),Inv X pins σ H s->RelV v u->t v σ H Q ->
  wpAny (model X.prog X.w) X.A (assign target X.env u) (λ_ s'=>∃σ' H',Inv X pins σ' H' s'/\Q σ' H') X.xe s
def PGs(X:Cx)(ts:List Expr)(t:TGs):Prop :=
 ∀(pins:List (Addr×Obj)) (s:Shared) (σ:St) (H:Hp) (vs:List V) (us:List Value) (Q:St->Hp->Prop),Inv X pins σ H s->Vals vs us->t vs σ H Q ->
  wpAny (model X.prog X.w) X.A (assignInOrder ((assignEach ts X.env).map (·.2)) us) (λ_ s'=>∃σ' H',Inv X pins σ' H' s'/\Q σ' H') X.xe s
abbrev MK:=V->V->V->Hp->(Hp->Prop)->Prop
def PL(X:Cx)(t:MK):Prop :=
 ∀(pins:List (Addr×Obj)) (s:Shared) (σ:St) (H:Hp) (o i v:V) (ov iv u:Value) (Q:Hp->Prop),Inv X pins σ H s->RelV o ov->RelV i iv->RelV v u->t o i v H Q ->
  wpAny (model X.prog X.w) X.A (setItem ov iv u) (λ_ s'=>∃H',Inv X pins σ H' s'/\Q H') X.xe s
section
variable {X:Cx}{pos:Pos}
def jf(i:Nat):TG:=λv σ H Q=>Q (σ.set i (some v)) H
def eF{i:Nat}{x:Str}(hN:X.N.Nodup)(hi:X.N[i]?=some x)(hx:Loc X.env.scope x)(hf:X.fn x=true\/X.env.scope.names.lookup x=some .local:=by first|exact .inl rfl|exact .inr rfl|assumption):PG X (.Name x pos) (jf i):=by
 intro pins s σ H v u Q I r h
 exact wpAny_assign_Name (ud I hN hi hx r (λs' I'=>⟨_,H,I',h⟩) hf)
def QZ:TGs:=λvs σ H Q=>vs=[]/\Q σ H
def Ph(t:TG)(u:TGs):TGs:=λvs σ H Q=>∃v r,vs=v::r/\t v σ H λσ' H'=>u r σ' H' Q
def Hi:PGs X [] QZ:=by
 intro pins s σ H vs us Q I r h
 obtain⟨e,h⟩:=h
 subst e
 cases r
 exact assignInOrder_nil ⟨σ,H,I,h⟩
def CP{e:Expr}{es:List Expr}{t:TG}{u:TGs}(h1:PG X e t)(h2:PGs X es u)(hs:(assignEach (e::es) X.env).map (·.2)=assign e X.env::(assignEach es X.env).map (·.2):=by rfl):PGs X (e::es) (Ph t u):=by
 intro pins s σ H vs us Q I r h
 obtain⟨v,vr,e1,h⟩:=h
 subst e1
 cases r with
 |cons r rr =>
  rw[hs]
  refine assignInOrder_cons (thn (h1 pins s σ H _ _ _ I r h) λ_ s1 ⟨σ1,H1,I1,q1⟩=>?_)
  exact h2 pins s1 σ1 H1 _ _ Q I1 rr q1
def QW(K:Ø)(n:Nat)(t:TGs):TG:=λv σ H Q=>∃a xs,v=.ref a/\SqT K H a xs/\xs.length=n/\t xs σ H Q
def Kz{es:List Expr}{k:Nat}{t:TGs}{n:Nat}(hc:X.calm=true)(h:PGs X es t)(hn:(assignEach es X.env).length=n:=by rfl)(hst:(assignEach es X.env).findIdx? (·.1)=none:=by rfl):PG X (.Tuple es k pos) (QW X.K n t):=by
 intro pins s σ H v u Q I r hw
 obtain⟨a,xs,e1,hq,hl,hw⟩:=hw
 subst e1
 cases r
 obtain⟨its,rv,ht,hz⟩:=I.tuple hq
 refine assign_Tuple_tuple (I.ok.hd hc) ht (by simp[hn,←hl,rv.length]) hst λh' hx=>?_
 have I1:Inv X pins σ H { s with heap:=h' }:=I.kept (t':=s.toks) λb o e=>hx b o (ã (É e)) e
 exact h pins _ σ H xs _ Q I1 (by simpa using rv) hw
def QX(to ti:TE)(t:MK):TG:=λv σ H Q=>to σ H λo H1=>ti σ H1 λi H2=>t o i v H2 λH3=>Q σ H3
def CQ{o i:Expr}{to ti:TE}{t:MK}(ho:PE X o to)(hi:PE X i ti)(hs:PL X t)(ha:∀v,assign (.Subscript o i pos) X.env v=(do
   let ov ←holding [v] (eval o X.env)
   let iv ←holding [v,ov] (eval i X.env)
   standAt pos
   holding [v,ov,iv] (setItem ov iv v)
   release [v,ov,iv] []):=by intro _;rfl):PG X (.Subscript o i pos) (QX to ti t):=by
 intro pins s σ H v u Q I r h
 rw[ha]
 refine Ã (Ě (thn (ho pins s σ H _ I h) λov s1 ⟨x,H1,I1,r1,q1⟩=>?_))
 refine Ã (Ě (thn (hi pins s1 σ H1 _ I1 q1) λiv s2 ⟨y,H2,I2,r2,q2⟩=>?_))
 refine Ã (wpAny_standAt (Ã (Ě (thn (hs pins s2 σ H2 x y v ov iv u _ I2 r1 r2 r q2) λ_ s3 ⟨H3,I3,q3⟩=>?_))))
 exact wpAny_release ⟨σ,H3,I3,q3⟩
def tY(te:TE)(g:TG):TS:=λD σ H=>te σ H λx H1=>g x σ H1 D.nx
def CG{tg e:Expr}{te:TE}{g:TG}(he:PE X e te)(hg:PG X tg g)(hs:swapsWithSole [tg] e pos.line X.env=pure false:=by rfl)(hw:swappedStores [tg] e X.env=pure none:=by rfl)(h1:(assignEach [tg] X.env).map (·.2)=[assign tg X.env]:=by rfl):PS X (.Assign [tg] e pos) (tY te g):=by
 intro pins s σ H D I h
 refine wpAny_Assign_stores (thn (he pins s σ H _ I h) λv s1 ⟨x,H1,I1,r1,q1⟩=>?_) hs hw
 rw[h1]
 exact thn (hg pins s1 σ H1 x v _ I1 r1 q1) λ_ s2 q=>q
def cW{i:Nat}{x:Str}{e:Expr}{te:TE}{pos':Pos}(hN:X.N.Nodup)(hi:X.N[i]?=some x)(hx:Loc X.env.scope x)(he:PE X e te)(hs:swapsWith e (some (.Name x pos')) pos.line X.env=pure false:=by rfl)(hf:X.fn x=true\/X.env.scope.names.lookup x=some .local:=by first|exact .inl rfl|exact .inr rfl|assumption) :
  PS X (.Assign [.Name x pos'] e pos) (tY te (jf i)):=by
 intro pins s σ H D I h
 refine wpAny_Assign_Name (thn (he pins s σ H _ I h) λv s1 ⟨y,H1,I1,r1,q1⟩=>?_) hs
 exact ud I1 hN hi hx r1 (λs2 I2=>⟨_,H1,I2,q1⟩) hf
end
section
variable {X:Cx}{pos:Pos}
end
structure It where
 go:Nat->Hp->Prop
 yld:Nat->Hp->V->Hp->Prop
 stop:Nat->Hp->Prop
def pA(X:Cx)(pins:List (Addr×Obj))(H:Hp)(b:Addr):Prop :=
 H b=none/\b≠X.env.locals/\b∉X.fs/\(b∈X.ex\/X.s₀.heap.objs.size<=b)/\(∀x c,X.env.cells.lookup x=some c->c≠b)/\∀p∈X.pn++pins,p.1≠b
def Inv.Mq{X:Cx}{pins:List (Addr×Obj)}{σ:St}{H H':Hp}{s:Shared}{b:Addr}(I:Inv X pins σ H s)(hb:s.heap.objs.size<=b)(hn:H' b=none):pA X pins H' b:=by
 refine⟨hn,ŋ (à I.lt hb),I.QD hb,.inr (ï I.sz hb),λx c e z=>?_,λp hp z=>?_⟩
 ·obtain⟨v,q⟩:=I.cell x c e
  exact absurd (à q.lt (by rw[z];exact hb)) (ó _)
 ·exact absurd (à (É (I.pin p hp).1) (by rw[z];exact hb)) (ó _)
structure TurnG(Cm:Cx->Prop)(P:Program)(w:World)(K:Ø)(tg:Expr)(J:It)(fp:List Addr)(it:Addr)(tn:Nat->Heap->Prop):Prop where
 mem:it∈fp
 obj:∀i h,tn i h->∀b∈fp,∃o,h.get? b=some o/\∀v,o.data≠.cell v
 keep:∀i h h',tn i h->(∀b∈fp,∀o,h.get? b=some o->h'.get? b=some o)->tn i h'
 item:∀(X:Cx),X.prog=P->X.w=w->X.K=K->Cm X->∀(i:Nat) (pins:List (Addr×Obj)) (s:Shared) (σ:St) (H:Hp) (E:Value->Shared->Prop),Inv X pins σ H s->(∀b∈fp,pA X pins H b)->tn i s.heap->J.go i H ->
  wpAny (model P w) X.A (pyNext (.ref it)) (λr s1=>∃u,r=some u /\
   wpAny (model P w) X.A (letOwnedTupleGo tg (.ref it) u) (λ_ s2=>∃x H',Inv X pins σ H' s2/\RelV x u/\J.yld i H x H'/\tn (i+1) s2.heap/\∀b∈fp,H' b=none) E s1) E s
 done:∀(X:Cx),X.prog=P->X.w=w->X.K=K->Cm X->∀(i:Nat) (pins:List (Addr×Obj)) (s:Shared) (σ:St) (H:Hp) (E:Value->Shared->Prop),Inv X pins σ H s->(∀b∈fp,pA X pins H b)->tn i s.heap->J.stop i H ->
  wpAny (model P w) X.A (pyNext (.ref it)) (λr s1=>r=none/\Inv X pins σ H s1) E s
 self:∀(A:Around) (i:Nat) (s:Shared) (Q:Value->Shared->Prop) (E:Value->Shared->Prop),tn i s.heap->Q (.ref it) s->wpAny (model P w) A (pyIter (.ref it)) Q E s
abbrev Turn(P:Program)(w:World)(K:Ø)(tg:Expr)(J:It)(fp:List Addr)(it:Addr)(tn:Nat->Heap->Prop):Prop:=TurnG (λX=>X.calm=true) P w K tg J fp it tn
abbrev TI:=St->Hp->(It->Hp->Prop)->Prop
def PN(Cm:Cx->Prop)(X:Cx)(pins:List (Addr×Obj))(σ:St)(tg:Expr)(R:It->Hp->Prop)(itv:Value)(s2:Shared):Prop :=
 ∃(it:Addr) (fp:List Addr) (tn:Nat->Heap->Prop) (J:It) (H':Hp),itv=.ref it/\Inv X pins σ H' s2/\TurnG Cm X.prog X.w X.K tg J fp it tn/\tn 0 s2.heap/\(∀b∈fp,pA X pins H' b)/\R J H'
def PIG(Cm:Cx->Prop)(X:Cx)(tg iter:Expr)(wi:TI):Prop :=
 ∀(pins:List (Addr×Obj)) (s:Shared) (σ:St) (H:Hp) (R:It->Hp->Prop),Inv X pins σ H s->wi σ H R ->
  wpAny (model X.prog X.w) X.A (eval iter X.env) (λv s1=>wpAny (model X.prog X.w) X.A (pyIter v) (PN Cm X pins σ tg R) X.xe s1) X.xe s
abbrev PIE(X:Cx):=PN (λX=>X.calm=true) X
abbrev PI(X:Cx):=PIG (λX=>X.calm=true) X
def Fj{M:Model}{A:Around}{E:Value->Shared->Prop}{s:Shared}{tg:Expr}{it:Addr}{u:Value}{o:Obj}{n:String}{vs:Array Value}{Q:Unit->Shared->Prop}(ho:s.heap.get? it=some o)(hc:o.cls=.type n)(hd:o.data=.fields vs)(hn:["enumerate","zip","dict_itemiterator","dict_reverseitemiterator","odict_iterator","itertools.zip_longest","itertools.pairwise"].contains n=false)(hQ:Q () s):wpAny M A (letOwnedTupleGo tg (.ref it) u) Q E s:=by
 unfold letOwnedTupleGo
 cases tg <;> first
  |exact Ñ hQ
  | (cases u <;> first
    |exact Ñ hQ
    | (refine Ã (wpAny_load ho ?_)
       rw[hc,hd]
       show wpAny M A (if (["enumerate","zip","dict_itemiterator","dict_reverseitemiterator","odict_iterator","itertools.zip_longest","itertools.pairwise"].contains n&&vs[0]? == some (rawInt _))=true then _ else _) Q E s
       rw[if_neg (by intro h;rw[hn,Bool.false_and] at h;cases h)]
       exact Ñ hQ))
def Itl(K:Ø)(a:Addr):It :=
 ⟨λi H=>∃xs x,SqL K H a xs/\xs[i]?=some x,λi H x H'=>H'=H/\∀xs,SqL K H a xs->xs[i]?=some x,λi H=>∃xs,SqL K H a xs/\xs.length<=i⟩
def Itt(K:Ø)(a:Addr):It :=
 ⟨λi H=>∃xs x,SqT K H a xs/\xs[i]?=some x,λi H x H'=>H'=H/\∀xs,SqT K H a xs->xs[i]?=some x,λi H=>∃xs,SqT K H a xs/\xs.length<=i⟩
def Itr(lo:Int)(n:Nat):It:=⟨λi _=>i<n,λi H x H'=>H'=H/\x=.int (lo+i),λi _=>n<=i⟩
def zq{P:Program}{w:World}{K:Ø}{tg:Expr}(a it:Addr):Turn P w K tg (Itl K a) [it] it (λi h=>h.IsListIter it a i) where
 mem:=by simp
 obj:=λi h st b hb=>by
  have e:b=it:=by simpa using hb
  subst e
  obtain⟨o,e,c,d⟩:=st
  exact⟨o,e,λv z=>by rw[d] at z;cases z⟩
 keep:=λi h h' st k=>st.at λo e=>k it (by simp) o e
 item:=by
  intro X hP hw hK hc i pins s σ H E I hf st hg
  subst hP hw hK
  obtain⟨xs,x,hq,hx⟩:=hg
  obtain⟨its,rv,p,hz⟩:=I.list hq
  obtain⟨u,hu,ru⟩:=rv.get hx
  obtain⟨f0,f1,f2,f3,f4,f5⟩:=hf it (by simp)
  refine wpAny_pyNext_list_item st p.isList (x:=u) (by simpa using hu) λh' st' sb=>?_
  have I1:Inv X pins σ H { s with heap:=h' }:=I.turned (t':=s.toks) (λb o hb e=>(sb.2 b hb).trans e) f0 f1 f3 f4 f5
  obtain⟨o,e,c,d⟩:=id st'
  exact⟨u,rfl,Fj (s:={ s with heap:=h' }) e c d (by decide) ⟨x,H,I1,ru,⟨rfl,λys hy=>by rw[I.Eo hy hq];exact hx⟩,st',λb hb=>(hf b hb).1⟩⟩
 done:=by
  intro X hP hw hK hc i pins s σ H E I hf st hg
  subst hP hw hK
  obtain⟨xs,hq,hx⟩:=hg
  obtain⟨its,rv,p,hz⟩:=I.list hq
  obtain⟨f0,f1,f2,f3,f4,f5⟩:=hf it (by simp)
  have hl:=rv.length
  exact wpAny_pyNext_list_end (I.ok.hd hc) st p.isList (by simp;omega) λh' eb=>⟨rfl,I.turned (t':=s.toks) (λb o hb e=>eb b o hb e) f0 f1 f3 f4 f5⟩
 self:=λ_ _ _ _ _ st h=>wpAny_pyIter_listiter st h
def vH{P:Program}{w:World}{K:Ø}{tg:Expr}(a it:Addr):Turn P w K tg (Itt K a) [it] it (λi h=>h.IsTupleIter it a i) where
 mem:=by simp
 obj:=λi h st b hb=>by
  have e:b=it:=by simpa using hb
  subst e
  obtain⟨o,e,c,d⟩:=st
  exact⟨o,e,λv z=>by rw[d] at z;cases z⟩
 keep:=λi h h' st k=>st.at λo e=>k it (by simp) o e
 item:=by
  intro X hP hw hK hc i pins s σ H E I hf st hg
  subst hP hw hK
  obtain⟨xs,x,hq,hx⟩:=hg
  obtain⟨its,rv,p,hz⟩:=I.tuple hq
  obtain⟨u,hu,ru⟩:=rv.get hx
  obtain⟨f0,f1,f2,f3,f4,f5⟩:=hf it (by simp)
  refine wpAny_pyNext_tuple_item st (show s.heap.IsTuple a its.toArray from p) (x:=u) (by simpa using hu) λh' st' sb=>?_
  have I1:Inv X pins σ H { s with heap:=h' }:=I.turned (t':=s.toks) (λb o hb e=>(sb.2 b hb).trans e) f0 f1 f3 f4 f5
  obtain⟨o,e,c,d⟩:=id st'
  exact⟨u,rfl,Fj (s:={ s with heap:=h' }) e c d (by decide) ⟨x,H,I1,ru,⟨rfl,λys hy=>by rw[I.zu hy hq];exact hx⟩,st',λb hb=>(hf b hb).1⟩⟩
 done:=by
  intro X hP hw hK hc i pins s σ H E I hf st hg
  subst hP hw hK
  obtain⟨xs,hq,hx⟩:=hg
  obtain⟨its,rv,p,hz⟩:=I.tuple hq
  obtain⟨f0,f1,f2,f3,f4,f5⟩:=hf it (by simp)
  have hl:=rv.length
  exact wpAny_pyNext_tuple_end (I.ok.hd hc) st (show s.heap.IsTuple a its.toArray from p) (by simp;omega) λh' eb=>⟨rfl,I.turned (t':=s.toks) (λb o hb e=>eb b o hb e) f0 f1 f3 f4 f5⟩
 self:=λ_ _ _ _ _ st h=>wpAny_pyIter_tupleiter st h
def vI{P:Program}{w:World}{K:Ø}{tg:Expr}(it:Addr)(lo:Int)(n:Nat):Turn P w K tg (Itr lo n) [it] it (λi h=>IsRangeIter h it (lo+(i:Nat) * 1) ((n:Int) - (i:Nat)) 1) where
 mem:=by simp
 obj:=λi h st b hb=>by
  have e:b=it:=by simpa using hb
  subst e
  exact⟨_,st,λv z=>by
   have z':Data.fields _=Data.cell v:=z
   cases z'⟩
 keep:=λi h h' st k=>k it (by simp) _ st
 item:=by
  intro X hP hw hK hc i pins s σ H E I hf st hg
  subst hP hw hK
  obtain⟨f0,f1,f2,f3,f4,f5⟩:=hf it (by simp)
  have W:=Walks.range (prog:=X.prog) (w:=X.w) (I.ok.hd hc) it lo 1 n
  refine W.item i s _ _ hg st λv h' tk hv st' kk=>?_
  obtain⟨t,rfl⟩:=hv
  have I1:Inv X pins σ H { s with heap:=h',toks:=tk }:=I.turned (λb o hb e=>kk b o (by simpa using hb) e) f0 f1 f3 f4 f5
  refine⟨_,rfl,Fj (s:={ s with heap:=h',toks:=tk }) (n:="range_iterator") st' rfl rfl (by decide) ⟨.int (lo+i),H,I1,⟨t,?_⟩,⟨rfl,rfl⟩,st',λb hb=>(hf b hb).1⟩⟩
  rw[Int.mul_one]
 done:=by
  intro X hP hw hK hc i pins s σ H E I hf st hg
  subst hP hw hK
  obtain⟨f0,f1,f2,f3,f4,f5⟩:=hf it (by simp)
  exact wpAny_pyNext_range_end (I.ok.hd hc) st (by have:n<=i:=hg;omega) λh' eb=>⟨rfl,I.turned (t':=s.toks) (λb o hb e=>eb b o hb e) f0 f1 f3 f4 f5⟩
 self:=λ_ _ _ _ _ st h=>wpAny_pyIter_rangeiter st h
section
variable {X:Cx}{tg:Expr}
def uw{pins:List (Addr×Obj)}{σ:St}{H:Hp}{s:Shared}{R:It->Hp->Prop}{E:Value->Shared->Prop}{lo hi:Int}{t u v:Tok}{tk:Nat}(I:Inv X pins σ H s)(h1:-(2 ^ 62)<=lo)(h2:lo<2 ^ 62)(h3:-(2 ^ 62)<=hi)(h4:hi<2 ^ 62)(q:R (Itr lo (hi - lo).toNat) H):wpAny (model X.prog X.w) X.A (pyIter (.ref s.heap.objs.size)) (PIE X pins σ tg R) E { s with heap:=s.heap.push { cls:=.type "range",data:=.fields #[.int lo t,.int hi u,.int 1 v] },toks:=tk }:=by
 refine wpAny_pyIter_range (IsRange.new ..) (small_one h1 h2 h3 h4) ?_
 have I1:Inv X pins σ H { s with heap:=s.heap.push { cls:=.type "range",data:=.fields #[.int lo t,.int hi u,.int 1 v] },toks:=tk }:=I.kept λb o e=>Ç _ e
 refine⟨(s.heap.push { cls:=.type "range",data:=.fields #[.int lo t,.int hi u,.int 1 v] }).objs.size,[(s.heap.push { cls:=.type "range",data:=.fields #[.int lo t,.int hi u,.int 1 v] }).objs.size],_,_,H,rfl,
  I1.kept (t':=tk) λb o e=>Ç _ e,vI _ lo (hi - lo).toNat,?_,λb hb=>?_,q⟩
 ·have e1:lo+((0:Nat):Int) * 1=lo:=by simp
  have e2:(((hi - lo).toNat:Nat):Int) - ((0:Nat):Int)=Builtin.Range.rangeSize lo hi 1:=by rw[rangeSize_one];split <;> omega
  show IsRangeIter _ _ (lo+((0:Nat):Int) * 1) ((((hi - lo).toNat:Nat):Int) - ((0:Nat):Int)) 1
  rw[e1,e2]
  exact Û _ rfl
 ·have e:b=(s.heap.push { cls:=.type "range",data:=.fields #[.int lo t,.int hi u,.int 1 v] }).objs.size:=by simpa using hb
  subst e
  exact I1.Mq (Å _) (I1.hok.fresh (Å _))
def O9(ta:TA):TI:=λσ H R=>ta σ H λvs H1=>∃j:Int,vs=[.int j]/\-(2 ^ 62)<=j/\j<2 ^ 62/\R (Itr 0 j.toNat) H1
def O8(ta:TA):TI:=λσ H R=>ta σ H λvs H1=>∃i j:Int,vs=[.int i,.int j]/\(-(2 ^ 62)<=i/\i<2 ^ 62/\-(2 ^ 62)<=j/\j<2 ^ 62)/\R (Itr i (j - i).toNat) H1
def kE{a:Expr}{ta:TA}{p pos:Pos}(hg:Gl X "range")(hm:X.mg "range"=none)(ha:PA X [a] ta)(hs:starEach [a] X.env=[(false,eval a X.env)]:=by rfl):PI X tg (.Call (.Name "range" p) [a] [] pos) (O9 ta):=by
 intro pins s σ H R I h
 refine Call_ (iy I hg hm boot_range (Ī (thn (ha pos pins s σ H _ I h) λus s1 ⟨vs,H1,I1,r1,q1⟩=>?_) hs rfl))
 obtain⟨j,e,q1,q2,q⟩:=q1
 subst e
 cases r1 with
 |cons r rr =>
  cases rr
  obtain⟨t,rfl⟩:=r
  exact call_range_1 (uw I1 (by omega) (by omega) q1 q2 (by simpa using q))
def zR{a b:Expr}{ta:TA}{p pos:Pos}(hg:Gl X "range")(hm:X.mg "range"=none)(ha:PA X [a,b] ta)(hs:starEach [a,b] X.env=[(false,eval a X.env),(false,eval b X.env)]:=by rfl)(hs2:starEach [b] X.env=[(false,eval b X.env)]:=by rfl) :
  PI X tg (.Call (.Name "range" p) [a,b] [] pos) (O8 ta):=by
 intro pins s σ H R I h
 refine Call_ (iy I hg hm boot_range (Ī (thn (ha pos pins s σ H _ I h) λus s1 ⟨vs,H1,I1,r1,q1⟩=>?_) (by rw[hs,hs2]) (by rw[hs2];rfl)))
 obtain⟨i,j,e,⟨q1,q2,q3,q4⟩,q⟩:=q1
 subst e
 cases r1 with
 |cons r rr =>
  cases rr with
  |cons r' rr =>
   cases rr
   obtain⟨t,rfl⟩:=r
   obtain⟨t',rfl⟩:=r'
   exact call_range_2 (uw I1 q1 q2 q3 q4 q)
def Qo(wi:TI)(g:TG)(tb:TS):TS:=λD σ H=>wi σ H λJ H1=>∃W:Nat->Nat->St->Hp->Prop,(∃m,W 0 m σ H1)/\∀i m σ H,W i m σ H ->
 (J.stop i H/\D.nx σ H)\/(J.go i H/\∃N:St->Hp->Prop,(∀σ' H',N σ' H'->∃m',m'<m/\W (i+1) m' σ' H')/\∀x H',J.yld i H x H'->g x σ H' λσ2 H2=>tb { D with nx:=N,ct:=N,bk:=D.nx } σ2 H2)
def gW(fp:List Addr)(h:Heap):List (Addr×Obj):=fp.filterMap λb=>(h.get? b).map λo=>(b,o)
def gn{fp:List Addr}{h:Heap}{b:Addr}{o:Obj}(hb:b∈fp)(e:h.get? b=some o):(b,o)∈gW fp h:=ū.mpr ⟨b,hb,by rw[e];rfl⟩
def pQ{fp:List Addr}{h:Heap}{p:Addr×Obj}(hp:p∈gW fp h):p.1∈fp/\h.get? p.1=some p.2:=by
 obtain⟨b,hb,e⟩:=ū.mp hp
 cases q:h.get? b with
 |none=>rw[q] at e;cases e
 |some o =>
  rw[q] at e
  have e':(b,o)=p:=ß e
  subst e'
  exact⟨hb,q⟩
def Inv.pinned{pins:List (Addr×Obj)}{σ:St}{H:Hp}{s:Shared}{fp:List Addr}(I:Inv X pins σ H s)(hf:∀b∈fp,pA X pins H b)(ho:∀b∈fp,∃o,s.heap.get? b=some o/\∀v,o.data≠.cell v):Inv X (pins++gW fp s.heap) σ H s :=
 I.mO λp hp=>(Ù.mp hp).elim (λz=>I.pin p (á _ z)) λz=>by
  obtain⟨hb,e⟩:=pQ z
  obtain⟨f0,f1,f2,_⟩:=hf p.1 hb
  obtain⟨o,e',d⟩:=ho p.1 hb
  rw[e] at e';cases e'
  exact⟨e,f0,f1,f2,d⟩
def Inv.jr{pins pl:List (Addr×Obj)}{σ:St}{H:Hp}{s:Shared}(I:Inv X (pins++pl) σ H s):Inv X pins σ H s:=I.mO λp hp=>I.pin p (á _ (ĝ _ hp))
def Cz{iter:Expr}{body:List Stmt}{wi:TI}{g:TG}{tb:TS}{pos:Pos}(hp:PassesOwn (model X.prog X.w) X.A X.env X.xe)(hc:X.calm=true)(hi:PI X tg iter wi)(hg:PG X tg g)(hb:PSs X body tb)(hs:∀x,foldedSetIterable iter X.env x=pure x:=by intro _;rfl):PS X (.For tg iter body [] pos) (Qo wi g tb):=by
 intro pins s σ H D I h
 refine wpAny_For (thn (hi pins s σ H _ I h) λv s1 h1=>thn h1 λitv s2 h2=>?_) hs
 obtain⟨it,fp,tn,J,H2,e,I2,T,st2,f2,W,⟨m0,w0⟩,turn⟩:=h2
 subst e
 -- what stays true of the iterator's objects through the loop
 have stat:∀{H':Hp},(∀b∈fp,H' b=none)->∀b∈fp,pA X pins H' b:=λhn b hb=>⟨hn b hb,(f2 b hb).2⟩
 refine codeAny_forLoop_any (λn s'=>∃i σ' H',Inv X pins σ' H' s'/\tn i s'.heap/\(∀b∈fp,H' b=none)/\W i n σ' H') ?_ m0 ⟨0,σ,H2,I2,st2,λb hb=>(f2 b hb).1,w0⟩
 rintro n s3 ⟨i,σ3,H3,I3,st3,fr3,w3⟩
 rcases turn i n σ3 H3 w3 with ⟨stop,qn⟩|⟨go,N,hN,step⟩
 ·refine wpAny_passesOwn hp (thn (T.done X rfl rfl rfl hc i pins s3 σ3 H3 X.xe I3 (stat fr3) st3 stop) λr s4 ⟨hr,I4⟩=>?_)
  subst hr
  exact wpAny_execs_nil ⟨σ3,H3,I4,qn⟩
 ·refine wpAny_passesOwn hp (thn (T.item X rfl rfl rfl hc i pins s3 σ3 H3 X.xe I3 (stat fr3) st3 go) λr s4 ⟨u,hr,h4⟩=>?_)
  subst hr
  refine wpAny_passesOwn hp (thn h4 λ_ s5 ⟨x,H5,I5,r5,y5,st5,fr5⟩=>?_)
  have I5':=I5.pinned (stat fr5) (T.obj _ _ st5)
  refine wpAny_passesOwn hp (thn (hg _ s5 σ3 H5 x u _ I5' r5 (step x H5 y5)) λ_ s6 ⟨σ6,H6,I6,q6⟩=>?_)
  refine wpAny_passesOwn hp (thn (hb _ s6 σ6 H6 _ I6 q6) λf s7 q7=>?_)
  have again:∀{σ7:St}{H7:Hp},Inv X (pins++gW fp s5.heap) σ7 H7 s7->N σ7 H7->∃m,m<n/\∃i σ' H',Inv X pins σ' H' s7/\tn i s7.heap/\(∀b∈fp,H' b=none)/\W i m σ' H':=λ{σ7 H7} I7 n7=>by
   obtain⟨m',hm,w7⟩:=hN σ7 H7 n7
   refine⟨m',hm,i+1,σ7,H7,I7.jr,T.keep _ _ _ st5 λb hb o e=>(I7.pin (b,o) (á _ (á _ (gn hb e)))).1,λb hb=>?_,w7⟩
   obtain⟨o,e,d⟩:=T.obj _ _ st5 b hb
   exact(I7.pin (b,o) (á _ (á _ (gn hb e)))).2.1
  cases f with
  |next=>obtain⟨σ7,H7,I7,n7⟩:=q7;exact again I7 n7
  |cont=>obtain⟨σ7,H7,I7,n7⟩:=q7;exact again I7 n7
  |brk=>obtain⟨σ7,H7,I7,q7⟩:=q7;exact⟨σ7,H7,I7.jr,q7⟩
  |ret v=>obtain⟨x7,σ7,H7,I7,r7,q7⟩:=q7;exact⟨x7,σ7,H7,I7.jr,r7,q7⟩
end
abbrev R2:=V->V->Hp->VK->Prop
def OpR(X:Cx)(f:Value->Value->Sem Value)(r:R2):Prop :=
 ∀(pins:List (Addr×Obj)) (s:Shared) (σ:St) (H:Hp) (x y:V) (v u:Value) (Q:VK),Inv X pins σ H s->RelV x v->RelV y u->r x y H Q ->
  wpAny (model X.prog X.w) X.A (f v u) (EP X pins σ Q) X.xe s
def UnR(X:Cx)(f:Value->Sem Value)(r:V->Hp->VK->Prop):Prop :=
 ∀(pins:List (Addr×Obj)) (s:Shared) (σ:St) (H:Hp) (x:V) (v:Value) (Q:VK),Inv X pins σ H s->RelV x v->r x H Q ->
  wpAny (model X.prog X.w) X.A (f v) (EP X pins σ Q) X.xe s
def bH(X:Cx)(f:Value)(r:List V->Hp->VK->Prop):Prop :=
 ∀(pins:List (Addr×Obj)) (s:Shared) (σ:St) (H:Hp) (xs:List V) (us:List Value) (Q:VK),Inv X pins σ H s->Vals xs us->r xs H Q ->
  wpAny (model X.prog X.w) X.A (call f us) (EP X pins σ Q) X.xe s
def tOp(r:R2)(ta tb:TE):TE:=λσ H Q=>ta σ H λx H1=>tb σ H1 λy H2=>r x y H2 Q
def tUn(r:V->Hp->VK->Prop)(ta:TE):TE:=λσ H Q=>ta σ H λx H1=>r x H1 Q
def rI(C:Int->Int->Prop)(g:Int->Int->V):R2:=λx y H Q=>∃i j,x=.int i/\y=.int j/\C i j/\Q (g i j) H
def rI0(g:Int->Int->V):R2:=λx y H Q=>∃i j,x=.int i/\y=.int j/\Q (g i j) H
def rU(g:Int->V):V->Hp->VK->Prop:=λx H Q=>∃i,x=.int i/\Q (g i) H
section
variable {X:Cx}{a b c:Expr}{ta tb tc:TE}{pos:Pos}
def MJ(ha:PE X a ta)(hb:PE X b tb){pins:List (Addr×Obj)}{s:Shared}{σ:St}{H:Hp}{R:V->V->Hp->Prop}(I:Inv X pins σ H s)(h:ta σ H λx H1=>tb σ H1 λy H2=>R x y H2){Q:Value->Shared->Prop}{f:Value->Value->Sem Value}(hf:∀v u s2 x y H2,Inv X pins σ H2 s2->RelV x v->RelV y u->R x y H2->wpAny (model X.prog X.w) X.A (f v u) Q X.xe s2) :
  wpAny (model X.prog X.w) X.A (eval a X.env) (λv s₁=>wpAny (model X.prog X.w) X.A (eval b X.env) (λu s₂=>wpAny (model X.prog X.w) X.A (f v u) Q X.xe s₂) X.xe s₁) X.xe s:=by
 refine thn (ha pins s σ H _ I h) λv s1 ⟨x,H1,I1,r1,q1⟩=>?_
 refine thn (hb pins s1 σ H1 _ I1 q1) λu s2 ⟨y,H2,I2,r2,q2⟩=>?_
 exact hf v u s2 x y H2 I2 r1 r2 q2
def aO{op:Operator}{r:R2}(ho:OpR X (binaryOp op) r)(ha:PE X a ta)(hb:PE X b tb):PE X (.BinOp a op b pos) (tOp r ta tb):=by
 intro pins s σ H Q I h
 exact wpAny_BinOp (MJ ha hb I h λv u s2 x y H2 I2 rx ry q=>ho pins s2 σ H2 x y v u Q I2 rx ry q)
def Oh{op:UnaryOp}{r:V->Hp->VK->Prop}(ho:UnR X (unaryOp op) r)(ha:PE X a ta):PE X (.UnaryOp op a pos) (tUn r ta):=by
 intro pins s σ H Q I h
 exact UnaryOp_ (thn (ha pins s σ H _ I h) λv s1 ⟨x,H1,I1,r1,q1⟩=>ho pins s1 σ H1 x v Q I1 r1 q1)
def opI{f:Value->Value->Sem Value}{C:Int->Int->Prop}{g:Int->Int->Int}(rule:∀(i j:Int) (t u:Tok) (s:Shared) (Q:Value->Shared->Prop) (E:Value->Shared->Prop),C i j->Q (.int (g i j) s.toks) { s with toks:=s.toks+1 }->wpAny (model X.prog X.w) X.A (f (.int i t) (.int j u)) Q E s) :
  OpR X f (rI C λi j=>.int (g i j)):=by
 intro pins s σ H x y v u Q I rx ry h
 obtain⟨i,j,rfl,rfl,hc,q⟩:=h
 obtain⟨t,rfl⟩:=rx
 obtain⟨t',rfl⟩:=ry
 exact rule i j t t' s _ _ hc ⟨.int (g i j),H,I.tok _,⟨_,rfl⟩,q⟩
def Oq{f:Value->Value->Sem Value}{g:Int->Int->Int}(rule:∀(i j:Int) (t u:Tok) (s:Shared) (Q:Value->Shared->Prop) (E:Value->Shared->Prop),Q (.int (g i j) s.toks) { s with toks:=s.toks+1 }->wpAny (model X.prog X.w) X.A (f (.int i t) (.int j u)) Q E s) :
  OpR X f (rI0 λi j=>.int (g i j)):=by
 intro pins s σ H x y v u Q I rx ry h
 obtain⟨i,j,rfl,rfl,q⟩:=h
 obtain⟨t,rfl⟩:=rx
 obtain⟨t',rfl⟩:=ry
 exact rule i j t t' s _ _ ⟨.int (g i j),H,I.tok _,⟨_,rfl⟩,q⟩
def Hx{f:Value->Value->Sem Value}{g:Int->Int->Bool}(rule:∀(i j:Int) (t u:Tok) (s:Shared) (Q:Value->Shared->Prop) (E:Value->Shared->Prop),Q (.bool (g i j)) s->wpAny (model X.prog X.w) X.A (f (.int i t) (.int j u)) Q E s) :
  OpR X f (rI0 λi j=>.bl (g i j)):=by
 intro pins s σ H x y v u Q I rx ry h
 obtain⟨i,j,rfl,rfl,q⟩:=h
 obtain⟨t,rfl⟩:=rx
 obtain⟨t',rfl⟩:=ry
 exact rule i j t t' s _ _ ⟨.bl (g i j),H,I,rfl,q⟩
def Qa(i j:Int):Prop:=0<j/\j<1073741824
def MP(i j:Int):Prop:=0<=j/\j<=1000000/\i.natAbs<2 ^ 64
def Jp(i j:Int):Prop:=(-(2 ^ 64)<i/\i<2 ^ 64)\/(-(2 ^ 64)<j/\j<2 ^ 64)
def Jp.ok{i j:Int}(h:Jp i j):IntMulOk i j:=by
 rcases h with ⟨h1,h2⟩|⟨h1,h2⟩
 ·exact .of_left (intBits_le_64 h1 h2)
 ·exact .of_right (intBits_le_64 h1 h2)
def cY:OpR X (binaryOp .Add) (rI0 λi j=>.int (i+j)):=Oq λ_ _ _ _ _ _ _ q=>add_int q
def Di:OpR X (binaryOp .Sub) (rI0 λi j=>.int (i - j)):=Oq λ_ _ _ _ _ _ _ q=>sub_int q
def cD:OpR X (binaryOp .Mult) (rI Jp λi j=>.int (i * j)):=opI λ_ _ _ _ _ _ _ hc q=>mul_int q hc.ok
def yu:OpR X (binaryOp .FloorDiv) (rI Qa λi j=>.int (i / j)):=opI λi j _ _ _ _ _ hc q=>by
 have h1:(0:Int)<j:=hc.1
 have h2:j<1073741824:=hc.2
 exact floordiv_int (by omega) (by rw[Int.fdiv_eq_ediv_of_nonneg i (by omega)];exact q) (.inl (PyProof.noPylong_small (by omega)))
def dX:OpR X (binaryOp .Mod) (rI (λ_ j=>0<j) λi j=>.int (i % j)):=opI λi j _ _ _ _ _ hc q=>by
 have h1:(0:Int)<j:=hc
 exact mod_int' (by omega) (by rw[Int.fmod_eq_emod_of_nonneg i (by omega)];exact q)
def Dk:OpR X (binaryOp .Pow) (rI MP λi j=>.int (i ^ j.toNat)):=opI λ_ _ _ _ _ _ _ hc q=>pow_int_small hc.1 hc.2.1 hc.2.2 q
def unI{f:Value->Sem Value}{g:Int->Int}(rule:∀(i:Int) (t:Tok) (s:Shared) (Q:Value->Shared->Prop) (E:Value->Shared->Prop),Q (.int (g i) s.toks) { s with toks:=s.toks+1 }->wpAny (model X.prog X.w) X.A (f (.int i t)) Q E s) :
  UnR X f (rU λi=>.int (g i)):=by
 intro pins s σ H x v Q I rx h
 obtain⟨i,rfl,q⟩:=h
 obtain⟨t,rfl⟩:=rx
 exact rule i t s _ _ ⟨.int (g i),H,I.tok _,⟨_,rfl⟩,q⟩
def J1:UnR X (unaryOp .USub) (rU λi=>.int (-i)):=unI λ_ _ _ _ _ q=>neg_int q
end
def Nz:V->V->Bool
 |.non,.non=>true|.non,.int _=>true|.int _,.non=>true|.non,.bl _=>true|.bl _,.non=>true|.non,.str _=>true|.str _,.non=>true
 |.int _,.int _=>true|.bl _,.bl _=>true|.str _,.str _=>true|.byt _,.byt _=>true
 |.int _,.str _=>true|.str _,.int _=>true|.bl _,.str _=>true|.str _,.bl _=>true
 |_,_=>false
def rEq:R2:=λx y H Q=>Nz x y=true/\Q (.bl (decide (x=y))) H
def rNe:R2:=λx y H Q=>Nz x y=true/\Q (.bl (!decide (x=y))) H
def yU{i j:Int}:decide (V.int i=V.int j)=(i == j):=by
 rw[į]
 simp
def Gh{i j:Bool}:decide (V.bl i=V.bl j)=(i == j):=by
 rw[į]
 simp
def yS{i j:Str}:decide (V.str i=V.str j)=(i == j):=by
 rw[į]
 simp
def yV{i j:Array UInt8}:decide (V.byt i=V.byt j)=(i.toList == j.toList):=by
 rw[į]
 cases i
 cases j
 simp
section
variable {X:Cx}{a b c:Expr}{ta tb tc:TE}{pos:Pos}
def aJ{pins:List (Addr×Obj)}{σ:St}{H:Hp}{s:Shared}{Q:VK}{k k':Bool}(I:Inv X pins σ H s)(q:Q (.bl k) H)(e:k=k'):EP X pins σ Q (.bool k') s:=by
 subst e
 exact⟨.bl k,H,I,rfl,q⟩
def Jy:OpR X (compareOp .Eq) rEq:=by
 intro pins s σ H x y v u Q I rx ry h
 obtain⟨hs,q⟩:=h
 cases x with
 |non =>
  cases rx
  cases y with
  |non=>cases ry;exact PySem.EqNone.eq_none_none (aJ I q (by simp))
  |bl j=>cases ry;exact PySem.EqNone.eq_none_bool (aJ I q (by simp))
  |int j=>obtain⟨t',rfl⟩:=ry;exact PySem.EqNone.eq_none_int (aJ I q (by simp))
  |str j=>obtain⟨t',rfl⟩:=ry;exact PySem.EqNone.eq_none_str (aJ I q (by simp))
  |_=>exact absurd (show false=true from hs) Ð
 |bl i =>
  cases rx
  cases y with
  |non=>cases ry;exact PySem.EqNone.eq_bool_none (aJ I q (by simp))
  |bl j=>cases ry;exact eq_bool (aJ I q Gh)
  |str j=>obtain⟨t',rfl⟩:=ry;exact PySem.EqMixed.eq_bool_str (aJ I q (by simp))
  |_=>exact absurd (show false=true from hs) Ð
 |int i =>
  obtain⟨t,rfl⟩:=rx
  cases y with
  |non=>cases ry;exact PySem.EqNone.eq_int_none (aJ I q (by simp))
  |int j=>obtain⟨t',rfl⟩:=ry;exact eq_int (aJ I q yU)
  |str j=>obtain⟨t',rfl⟩:=ry;exact PySem.EqMixed.eq_int_str (aJ I q (by simp))
  |_=>exact absurd (show false=true from hs) Ð
 |str i =>
  obtain⟨t,rfl⟩:=rx
  cases y with
  |non=>cases ry;exact PySem.EqNone.eq_str_none (aJ I q (by simp))
  |bl j=>cases ry;exact PySem.EqMixed.eq_str_bool (aJ I q (by simp))
  |int j=>obtain⟨t',rfl⟩:=ry;exact PySem.EqMixed.eq_str_int (aJ I q (by simp))
  |str j=>obtain⟨t',rfl⟩:=ry;exact eq_str (aJ I q yS)
  |_=>exact absurd (show false=true from hs) Ð
 |byt i =>
  obtain⟨t,rfl⟩:=rx
  cases y with
  |byt j=>obtain⟨t',rfl⟩:=ry;exact W.eq_bytes (aJ I q yV)
  |_=>exact absurd (show false=true from hs) Ð
 |_=>cases y <;> exact absurd (show false=true from hs) Ð
def yr:OpR X (compareOp .NotEq) rNe:=by
 intro pins s σ H x y v u Q I rx ry h
 obtain⟨hs,q⟩:=h
 cases x with
 |non =>
  cases rx
  cases y with
  |non=>cases ry;exact PySem.EqNone.ne_none_none (aJ I q (by simp))
  |bl j=>cases ry;exact PySem.EqNone.ne_none_bool (aJ I q (by simp))
  |int j=>obtain⟨t',rfl⟩:=ry;exact PySem.EqNone.ne_none_int (aJ I q (by simp))
  |str j=>obtain⟨t',rfl⟩:=ry;exact PySem.EqNone.ne_none_str (aJ I q (by simp))
  |_=>exact absurd (show false=true from hs) Ð
 |bl i =>
  cases rx
  cases y with
  |non=>cases ry;exact PySem.EqNone.ne_bool_none (aJ I q (by simp))
  |bl j=>cases ry;exact ne_bool (aJ I q (congrArg not Gh))
  |str j=>obtain⟨t',rfl⟩:=ry;exact PySem.EqMixed.ne_bool_str (aJ I q (by simp))
  |_=>exact absurd (show false=true from hs) Ð
 |int i =>
  obtain⟨t,rfl⟩:=rx
  cases y with
  |non=>cases ry;exact PySem.EqNone.ne_int_none (aJ I q (by simp))
  |int j=>obtain⟨t',rfl⟩:=ry;exact ne_int (aJ I q (congrArg not yU))
  |str j=>obtain⟨t',rfl⟩:=ry;exact PySem.EqMixed.ne_int_str (aJ I q (by simp))
  |_=>exact absurd (show false=true from hs) Ð
 |str i =>
  obtain⟨t,rfl⟩:=rx
  cases y with
  |non=>cases ry;exact PySem.EqNone.ne_str_none (aJ I q (by simp))
  |bl j=>cases ry;exact PySem.EqMixed.ne_str_bool (aJ I q (by simp))
  |int j=>obtain⟨t',rfl⟩:=ry;exact PySem.EqMixed.ne_str_int (aJ I q (by simp))
  |str j=>obtain⟨t',rfl⟩:=ry;exact ne_str (aJ I q (congrArg not yS))
  |_=>exact absurd (show false=true from hs) Ð
 |byt i =>
  obtain⟨t,rfl⟩:=rx
  cases y with
  |byt j=>obtain⟨t',rfl⟩:=ry;exact W.ne_bytes (aJ I q (congrArg not yV))
  |_=>exact absurd (show false=true from hs) Ð
 |_=>cases y <;> exact absurd (show false=true from hs) Ð
def yt:OpR X (compareOp .Lt) (rI0 λi j=>.bl (decide (i<j))):=Hx λ_ _ _ _ _ _ _ q=>lt_int q
def Dm:OpR X (compareOp .LtE) (rI0 λi j=>.bl (decide (i<=j))):=Hx λ_ _ _ _ _ _ _ q=>le_int q
def uD:OpR X (compareOp .Gt) (rI0 λi j=>.bl (decide (j<i))):=Hx λ_ _ _ _ _ _ _ q=>gt_int q
def Jx:OpR X (compareOp .GtE) (rI0 λi j=>.bl (decide (j<=i))):=Hx λ_ _ _ _ _ _ _ q=>ge_int q
def Dp:OpR X (compareOp .Is) (λx y H Q=>y=.non/\Q (.bl (decide (x=.non))) H):=by
 intro pins s σ H x y v u Q I rx ry h
 obtain⟨rfl,q⟩:=h
 cases ry
 refine is_none_gen (aJ I q ?_)
 cases x <;> first
  |(cases rx;rfl)
  |(obtain⟨t,rfl⟩:=rx;rfl)
def yq:OpR X (compareOp .IsNot) (λx y H Q=>y=.non/\Q (.bl (!decide (x=.non))) H):=by
 intro pins s σ H x y v u Q I rx ry h
 obtain⟨rfl,q⟩:=h
 cases ry
 refine isnot_none_gen (aJ I q ?_)
 cases x <;> first
  |(cases rx;rfl)
  |(obtain⟨t,rfl⟩:=rx;rfl)
def aY(b:Expr){op:CmpOp}(h:op≠.In:=by decide)(h2:op≠.NotIn:=by decide):behindInMarks op b=false:=by
 have e1:(op == CmpOp.In)=false:=by cases op <;> first|rfl|exact absurd rfl h
 have e2:(op == CmpOp.NotIn)=false:=by cases op <;> first|rfl|exact absurd rfl h2
 cases b <;> simp[behindInMarks,e1,e2]
def Hs{op:CmpOp}{r:R2}(ho:OpR X (compareOp op) r)(ha:PE X a ta)(hb:PE X b tb)(hm:behindInMarks op b=false):PE X (.Compare a [op] [b] pos) (tOp r ta tb):=by
 intro pins s σ H Q I h
 exact wpAny_Compare1 (MJ ha hb I h λv u s2 x y H2 I2 rx ry q=>ho pins s2 σ H2 x y v u Q I2 rx ry q) hm
def M9(t:TE):TT:=λσ H Q=>t σ H λx H'=>∃k,x=.bl k/\Q k H'
def iR{op:CmpOp}{r:R2}(ho:OpR X (compareOp op) r)(ha:PE X a ta)(hb:PE X b tb)(hm:behindInMarks op b=false):PT X (.Compare a [op] [b] pos) (M9 (tOp r ta tb)):=by
 intro pins s σ H Q I h
 refine wpAny_isTrue_Compare1 (thn (ha pins s σ H _ I h) λv s1 ⟨x,H1,I1,r1,q1⟩=>thn (hb pins s1 σ H1 _ I1 q1) λu s2 ⟨y,H2,I2,r2,q2⟩ =>
  thn (ho pins s2 σ H2 x y v u _ I2 r1 r2 q2) λc s3 ⟨z,H3,I3,r3,k,e,q3⟩=>?_) hm
 subst e
 cases r3
 exact ĳ ⟨H3,I3,q3⟩
def BJ(r r':R2)(ta tb tc:TE):TE:=λσ H Q=>ta σ H λx H1=>tb σ H1 λy H2=>r x y H2 λz H3=>∃k,z=.bl k /\
 (if k=true then tc σ H3 λw' H4=>r' y w' H4 Q else Q (.bl false) H3)
def CZ{op op':CmpOp}{r r':R2}(ho:OpR X (compareOp op) r)(ho':OpR X (compareOp op') r')(ha:PE X a ta)(hb:PE X b tb)(hc:PE X c tc)(hm:lastMarks [op,op'] [b,c]=false:=by with_unfolding_all rfl):PE X (.Compare a [op,op'] [b,c] pos) (BJ r r' ta tb tc):=by
 intro pins s σ H Q I h
 refine Compare_chain (thn (ha pins s σ H _ I h) λv s1 ⟨x,H1,I1,r1,q1⟩=>chain_link (thn (hb pins s1 σ H1 _ I1 q1) λu s2 ⟨y,H2,I2,r2,q2⟩ =>
  thn (ho pins s2 σ H2 x y v u _ I2 r1 r2 q2) λd s3 ⟨z,H3,I3,r3,k,e,q3⟩=>?_)) hm
 subst e
 cases r3
 refine ĳ ?_
 cases k with
 |false=>exact ite_ff ⟨.bl false,H3,I3,rfl,q3⟩
 |true=>exact ite_tt (chain_last (thn (hc pins s3 σ H3 _ I3 q3) λw' s4 ⟨z',H4,I4,r4,q4⟩=>ho' pins s4 σ H4 y z' u w' Q I4 r2 r4 q4))
def rM:(sizeLine:Nat)<2 ^ 63:=by rw[ì];decide
def vals1{x:V}{us:List Value}(r:Vals [x] us):∃u,us=[u]/\RelV x u:=by
 cases r with
 |cons r1 r2=>cases r2;exact⟨_,rfl,r1⟩
def vals2{x y:V}{us:List Value}(r:Vals [x,y] us):∃u w',us=[u,w']/\RelV x u/\RelV y w':=by
 cases r with
 |cons r1 r2 =>
  cases r2 with
  |cons r3 r4=>cases r4;exact⟨_,_,rfl,r1,r3⟩
def Ay(hc:X.calm=true):bH X (.builtin "max") (λxs H Q=>∃i j,xs=[.int i,.int j]/\Q (.int (if j > i then j else i)) H):=by
 intro pins s σ H xs us Q I r h
 obtain⟨i,j,rfl,q⟩:=h
 obtain⟨u,w',rfl,⟨t,rfl⟩,⟨t',rfl⟩⟩:=vals2 r
 refine max_two_ints (I.ok.hd hc) λh' tk k=>⟨_,H,I.kept k,?_,q⟩
 by_cases hj:j > i
 ·rw[if_pos hj,if_pos hj];exact⟨_,rfl⟩
 ·rw[if_neg hj,if_neg hj];exact⟨_,rfl⟩
def Az:bH X (.type "int") (λxs H Q=>(∃i,xs=[.int i]/\Q (.int i) H)\/∃k,xs=[.bl k]/\Q (.int (if k then 1 else 0)) H):=by
 intro pins s σ H xs us Q I r h
 rcases h with ⟨i,rfl,q⟩|⟨k,rfl,q⟩
 ·obtain⟨u,rfl,t,rfl⟩:=vals1 r
  exact call_int_int ⟨.int i,H,I,⟨_,rfl⟩,q⟩
 ·obtain⟨u,rfl,r1⟩:=vals1 r
  cases r1
  exact call_int_bool ⟨.int (if k then 1 else 0),H,I.tok _,⟨_,rfl⟩,q⟩
end
structure ObjM(h:Heap)(x dx C:Addr)(mA:Str->Option Value):Prop where
 obj:h.get? x=some (W.instObj C dx)
 ns:h.Ns1 dx mA
 ne:dx≠x
def Ac{h:Heap}{dx:Addr}{mA:Str->Option Value}(n:h.Ns1 dx mA):∃od,h.get? dx=some od/\∀name,W.lookIn name od=some (mA name):=by
 obtain⟨o,es,ep,ho,hd,hk,_,hm⟩:=n
 refine⟨o,ho,λname=>?_⟩
 have e:=hm name
 unfold nsFind findBy at e
 rw[←Array.find?_toList] at e
 unfold W.lookIn
 rw[hd]
 dsimp only
 split
 ·rename_i y q
  rw[q] at e
  exact congrArg some e
 ·rename_i q
  rw[q] at e
  have a:es.toList.any (·.refKey)=false:=by
   rw[List.any_eq_false]
   intro y hy
   obtain⟨z,t,hkey⟩:=hk y (Array.mem_toList_iff.mp hy)
   simp[DictEntry.refKey,hkey]
  have a':¬es.toList.any (·.refKey)=true:=by rw[a];exact Ð
  rw[if_neg a']
  exact congrArg some e
def ObjM.look{h:Heap}{x dx C:Addr}{mA:Str->Option Value}(I:ObjM h x dx C mA):∃od,W.InstAt h x (W.instObj C dx) C (some od)/\∀name,W.lookIn name od=some (mA name) :=
 let ⟨od,ho,hl⟩:=Ac I.ns
 ⟨od,⟨I.obj,rfl,rfl,ho⟩,hl⟩
section
variable {prog:Program}{w:World}{A:Around}{E:Value->Shared->Prop}{s:Shared}{K:Ø}{x dx C f:Addr}{mA:Str->Option Value}{name:Str}{v:Value}
end
section
variable {P:Program}{w:World}{H H':Hp}{h h':Heap}{a C dx:Addr}{fs fs':List (Str×V)}
def yM(hok:HOk P w H h)(e:H a=some (.ins C dx fs)):∃mA,ObjM h a dx C mA/\(∀f,MN (fs.lookup f) (mA f))/\PySem.Within mA (fs.map (·.1))/\fs.length<=1000/\H dx=some (.own a):=by
 obtain⟨d,z,ne,ob,mA,n,r,q⟩:=(show bx P w H h a (.ins C dx fs) from hok a _ e)
 exact⟨mA,⟨ob,n,ne⟩,r,q,z,d⟩
end
structure Cls(K:Ø)(C:Addr):Prop where
 pg:W.plainGet K C Str.empty=true
 hd:W.hasDictIn K C=true
 po:W.plainOver K C=true
 sa:W.findIn K (.ref C) "__setattr__"=some (some (.builtin "object.__setattr__"))
def Cls.get{K:Ø}{C:Addr}(c:Cls K C)(f:Str):W.plainGet K C f=true:=c.pg
structure Con(K:Ø)(C:Addr)(f:Str)(v:V)(u:Value):Prop where
 at_:W.findIn K (.ref C) f=some (some u)
 rel:RelV v u
 get:W.specialIn K u "__get__"=some none
 cp:W.copiedNames.contains f=false
structure Meth(K:Ø)(C:Addr)(m:Str)(f:Addr):Prop where
 at_:W.findIn K (.ref C) m=some (some (.ref f))
 fn:W.isFn K (.ref f)=true
 kp:W.keepIn K (.ref f)=true
section
variable {X:Cx}{pins:List (Addr×Obj)}{σ:St}{H:Hp}{s:Shared}{a C dx:Addr}{fs:List (Str×V)}{f:Str}{v:V}{A:Around}{E:Value->Shared->Prop}
end
section
variable {X:Cx}{o e value:Expr}{f:Str}{pos pos' tpos:Pos}{ta tv:TE}
end
section
variable {X:Cx}{pins:List (Addr×Obj)}{σ:St}{H:Hp}{s:Shared}{A:Around}{E:Value->Shared->Prop}{Q:Value->Shared->Prop}{c:Value}{b:Bool}
inductive TyOf(K:Ø)(H:Hp):V->Value->Prop where
 |non:TyOf K H .non (.type "NoneType")
 |bl (x:Bool):TyOf K H (.bl x) (.type "bool")
 |int (i:Int):TyOf K H (.int i) (.type "int")
 |str (x:Str):TyOf K H (.str x) (.type "str")
 |flt (x:UInt64):TyOf K H (.flt x) (.type "float")
 |lst {a:Addr}{xs:List V} (e:H a=some (.lst xs)):TyOf K H (.ref a) (.type "list")
 |frz {a:Addr}{o:Obj}{xs:List V} (e:H a=some (.frz o (.lst xs))):TyOf K H (.ref a) (.type "list")
 |tup {a:Addr}{xs:List V} (e:H a=some (.tup xs)):TyOf K H (.ref a) (.type "tuple")
 |dK {a:Addr}{kvs:List (Key×V)} (e:H a=some (.dK kvs)):TyOf K H (.ref a) (.type "dict")
 |dT {a:Addr}{kvs:List (List Key×V)} (e:H a=some (.dT kvs)):TyOf K H (.ref a) (.type "dict")
 |ins {a C dx:Addr}{fs:List (Str×V)} (e:H a=some (.ins C dx fs)) (cl:Cls K C) (ha:W.findIn K (.ref C) "__class__"=some (some (.builtin "object.__class__")))
   (hn:W.specialIn K (.builtin "object.__class__") "__get__"=some (some (.builtin "getset_descriptor.__get__"))) (htk:W.takesIn K (.builtin "object.__class__")=some true)
   (hm:W.mroIn K C (.type "object")=some true):TyOf K H (.ref a) (.ref C)
def Ah{x:V}{u t:Value}(I:Inv X pins σ H s)(rx:RelV x u)(ty:TyOf X.K H x t)(e:ŭ X.K t c=some b)(h:∀tk,Q (.bool b) { s with toks:=tk }) :
  wpAny (model X.prog X.w) A (call (.builtin "isinstance") [u,c]) Q E s:=by
 cases ty with
 |non=>cases (show u=ĭ from rx);exact ť W.kitx_none I.kIn Ř e (λz=>nomatch z) h
 |bl y=>cases (show u=Ũ y from rx);exact ť W.kitx_bool I.kIn Ř e (λz=>nomatch z) h
 |int i=>obtain⟨t,q⟩:=(show ∃t,u=Đ i t from rx);cases q;exact ť W.kitx_int I.kIn Ř e (λz=>nomatch z) h
 |str y=>obtain⟨t,q⟩:=(show ∃t,u=Value.str y t from rx);cases q;exact ť W.kitx_str I.kIn Ř e (λz=>nomatch z) h
 |flt y=>obtain⟨t,q⟩:=(show ∃t,u=Value.float y t from rx);cases q;exact ť W.kitx_float I.kIn Ř e (λz=>nomatch z) h
 |@lst a xs ea =>
  cases (show u=ĕ a from rx)
  obtain⟨_,_,n,_,h1⟩:=(show bx X.prog X.w H s.heap a (.lst xs) from I.hok a _ ea)
  exact ť W.kitx_list I.kIn ⟨_,h1,rfl⟩ e (λz=>nomatch z) h
 |@frz a ob xs ea =>
  cases (show u=ĕ a from rx)
  obtain⟨_,_,_,n,_,h1⟩:=(show bx X.prog X.w H s.heap a (.frz ob (.lst xs)) from I.hok a _ ea)
  exact ť W.kitx_list I.kIn ⟨_,h1,rfl⟩ e (λz=>nomatch z) h
 |@tup a xs ea =>
  cases (show u=ĕ a from rx)
  obtain⟨_,_,_,p⟩:=(show bx X.prog X.w H s.heap a (.tup xs) from I.hok a _ ea)
  obtain⟨o,h1,h2,_⟩:=p
  exact ť W.kitx_tuple I.kIn ⟨o,h1,h2⟩ e (λz=>nomatch z) h
 |@dK a kvs ea =>
  cases (show u=ĕ a from rx)
  obtain⟨_,_,vs,_,p⟩:=(show bx X.prog X.w H s.heap a (.dK kvs) from I.hok a _ ea)
  obtain⟨o,es,ep,h1,h2,_⟩:=p
  exact ť W.kitx_dict I.kIn ⟨o,h1,h2.1⟩ e (λz=>nomatch z) h
 |@dT a kvs ea =>
  cases (show u=ĕ a from rx)
  obtain⟨_,_,xs,_,o,es,ep,h1,h2,_⟩:=(show bx X.prog X.w H s.heap a (.dT kvs) from I.hok a _ ea)
  exact ť W.kitx_dict I.kIn ⟨o,h1,h2.1⟩ e (λz=>nomatch z) h
 |@ins a C dx fs ea cl ha hn htk hm =>
  cases (show u=ĕ a from rx)
  obtain⟨mA,O,_⟩:=yM I.hok ea
  obtain⟨od,J,_⟩:=O.look
  exact ť (W.kitx_own (cl.get _) cl.hd ha hn htk hm) I.kIn J e (λz=>nomatch z) h
end
structure Room(k:Nat)(A:Around):Prop where
 hd:A.handled=none
 dp:A.depth+3 * k+5<recursionLimit
 un:A.units+16 * k+200<cLine
 gd:A.guards=some []
def Room.mono{j k:Nat}{A:Around}(r:Room k A)(h:j<=k):Room j A:=⟨r.hd,by have:=r.dp;omega,by have:=r.un;omega,r.gd⟩
def Room.deeper{k:Nat}{A:Around}(r:Room (k+1) A)(env:Env):Room k (A.deeper env) :=
 ⟨r.hd,by have:=r.dp;show A.depth+1+3 * k+5<_;omega,by have:=r.un;show A.units+3+16 * k+200<_;omega,r.gd⟩
def Room.in1{k:Nat}{A:Around}(r:Room (k+1) A):Room k A.in1 :=
 ⟨r.hd,by have:=r.dp;show A.depth+3 * k+5<_;omega,by have:=r.un;show A.units+1+16 * k+200<_;omega,r.gd⟩
def Room.depth{k:Nat}{A:Around}(r:Room k A):A.depth<recursionLimit:=by have:=r.dp;omega
def Room.units{k:Nat}{A:Around}(r:Room k A):A.units+64<cLine:=by have:=r.un;omega
def Qk:TA:=λ_ H Q=>Q [] H
def Nt(ta:TE)(tr:TA):TA:=λσ H Q=>ta σ H λx H1=>tr σ H1 λxs H2=>Q (x::xs) H2
section
variable {X:Cx}{e:Expr}{es:List Expr}{te:TE}{t:TA}{pos:Pos}
def bR:PA X [] Qk:=λ_ _ _ _ H Q I h=>Calls.spliced_nil ⟨[],H,I,.nil,h⟩
def cC(ha:PE X e te)(hr:PA X es t)(hs:starEach (e::es) X.env=(false,eval e X.env)::starEach es X.env:=by rfl):PA X (e::es) (Nt te t):=by
 intro pos pins s σ H Q I h
 rw[hs]
 show wpAny _ _ (spliced ((false,eval e X.env)::backTo pos (starEach es X.env))) _ _ s
 refine Calls.spliced_cons (thn (ha pins s σ H _ I h) λu s1 ⟨x,H1,I1,r1,q1⟩=>?_)
 exact thn (hr pos pins s1 σ H1 _ I1 q1) λus s2 ⟨xs,H2,I2,r2,q2⟩=>⟨x::xs,H2,I2,.cons r1 r2,q2⟩
def Qe(t:TA):TE:=λσ H Q=>t σ H λxs H1=>xs.length<=sizeLine/\∀p,H1 p=none->Q (.ref p) (upd H1 p (.tup xs))
def Qm(t:TA):TE:=λσ H Q=>t σ H λxs H1=>xs.length<=sizeLine/\∀p,H1 p=none->Q (.ref p) (upd H1 p (.lst xs))
def vU{x1}(h:PA X es t):PE X (.Tuple es x1 pos) (Qe t):=by
 intro pins s σ H Q I hq
 refine wpAny_Tuple_spliced (thn (h pos pins s σ H _ I hq) λus s1 ⟨xs,H1,I1,r,z,q⟩=>⟨by rw[←r.length];exact z,?_⟩)
 have hf:H1 s1.heap.objs.size=none:=I1.hok.fresh (Å _)
 refine⟨.ref s1.heap.objs.size,upd H1 s1.heap.objs.size (.tup xs),I1.laid (t':=s1.toks) (λb u e=>Ç _ e) (Å _) ?_,rfl,q _ hf⟩
 exact⟨z,us,r,⟨_,Û _ rfl,rfl,_,rfl⟩⟩
def qO(h:PA X es t):PE X (.List es pos) (Qm t):=by
 intro pins s σ H Q I hq
 refine wpAny_List_spliced (thn (h pos pins s σ H _ I hq) λus s1 ⟨xs,H1,I1,r,z,q⟩=>⟨by rw[←r.length];exact z,?_⟩)
 have hf:H1 s1.heap.objs.size=none:=I1.hok.fresh (Å _)
 refine⟨.ref s1.heap.objs.size,upd H1 s1.heap.objs.size (.lst xs),I1.laid (t':=s1.toks) (λb u e=>Ç _ e) (Å _) ?_,rfl,q _ hf⟩
 exact⟨z,us,0,r,Û _ rfl⟩
end
abbrev Sp:=List V->Hp->VK->XK->Prop
abbrev CXT:=List Env->Hp->Shared->XK->Value->Shared->Prop
structure Env0(P:Program)(w:World)(K:Ø)(mg:Str->Option Value)(base:Heap)(A:Around)(outer:List Env)(s:Shared)(H:Hp):Prop where
 frames:A.frames=some outer
 mod:Mod K mg base
 bs:∀b o,base.get? b=some o->s.heap.get? b=some o/\H b=none
 bsz:base.objs.size<=s.heap.objs.size
 jl:s.heap.FunFrames base outer
 frf:∀b∈frs outer,H b=none
 hok:HOk P w H s.heap
 bare:AllBare s.gens
def CE(outer:List Env)(P:Program)(w:World)(H:Hp)(s:Shared)(Q:VK)(u:Value)(s':Shared):Prop :=
 ∃v H',s'.os=s.os/\AllBare s'.gens/\Un (frs outer) [] H H' s.heap s'.heap/\HOk P w H' s'.heap/\RelV v u/\Q v H'
def CR(CX:CXT)(outer:List Env)(P:Program)(w:World)(H:Hp)(s:Shared)(Q:VK)(E:XK)(r:Result)(s':Shared):Prop :=
 match r with
 |.ok (.ret u)=>CE outer P w H s Q u s'
 |.ok _=>False
 |.error e=>CX outer H s E e s'
structure FnOk(P:Program)(w:World)(K:Ø)(mg:Str->Option Value)(base:Heap)(CX:CXT)(k:Nat)(f:Addr)(fd:FuncData)(ps:List Str)(sp:Sp):Prop where
 len:∀vs H Q E,sp vs H Q E->vs.length=ps.length
 run:∀(A:Around) (outer:List Env) (s:Shared) (H:Hp) (args:Args) (us:List Value) (vs:List V) (Q:VK) (E:XK),Room k A->Env0 P w K mg base A outer s H->BindsTo s fd args (ps.zip us)->Vals vs us->sp vs H Q E ->
  codeAny (model P w) A (.call (.ref f) args) (CR CX outer P w H s Q E) s
def FnOk.imp{P:Program}{w:World}{K:Ø}{mg:Str->Option Value}{base:Heap}{CX:CXT}{k:Nat}{f:Addr}{fd:FuncData}{ps:List Str}{sp sp':Sp}(F:FnOk P w K mg base CX k f fd ps sp)(h:∀vs H Q E,sp' vs H Q E->sp vs H Q E):FnOk P w K mg base CX k f fd ps sp' :=
 ⟨λvs H Q E q=>F.len vs H Q E (h _ _ _ _ q),λA outer s H args us vs Q E hr he hb hv hs=>F.run A outer s H args us vs Q E hr he hb hv (h _ _ _ _ hs)⟩
def Env0.in1{P:Program}{w:World}{K:Ø}{mg:Str->Option Value}{base:Heap}{A:Around}{outer:List Env}{s:Shared}{H:Hp}(e:Env0 P w K mg base A outer s H) :
  Env0 P w K mg base A.in1 outer s H:=⟨e.frames,e.mod,e.bs,e.bsz,e.jl,e.frf,e.hok,e.bare⟩
section
variable {X:Cx}{pins:List (Addr×Obj)}{σ:St}{H:Hp}{s s':Shared}
def Inv.env0(I:Inv X pins σ H s):Env0 X.prog X.w X.K X.mg X.base X.A X.stack s H :=
 ⟨I.ok.frames,I.ok.mod,I.bs,ï I.ok.bsz I.sz,I.stack,I.xO,I.hok,I.bare⟩
def Inv.after{Q:VK}{u:Value}(I:Inv X pins σ H s)(h:CE X.stack X.prog X.w H s Q u s'):EP X pins σ Q u s':=by
 obtain⟨v,H',os,bare,un,hok,r,q⟩:=h
 obtain⟨hh,g,d,t,os'⟩:=s'
 obtain rfl:os'=s.os:=os
 exact⟨v,H',I.call (h':=hh) (g':=g) (d':=d) (t':=t) (ch:=[]) un hok bare (λb z=>absurd z (by simp)),r,q⟩
end
def tX(sp:Sp)(dvs:List V)(E:XK)(t:TA):TE:=λσ H Q=>t σ H λvs H1=>sp (vs++dvs) H1 Q E
def Binds(K:Ø)(fd:FuncData)(ps:List Str)(ds:List Value):Prop :=
 ∀(s:Shared) (us:List Value),K.In s.heap->(us++ds).length=ps.length->BindsTo s fd ⟨us,[]⟩ (ps.zip (us++ds))
def Binds.all{K:Ø}{fd:FuncData}{ps:List Str}(h:∀us:List Value,us.length=ps.length->bindArgs fd ⟨us,[]⟩=pure (ps.zip us)):Binds K fd ps []:=λs us _ hl=>by
 rw[õ] at hl ⊢
 exact .of_eq (h us hl)
def Passes(CX:CXT)(X:Cx)(E:XK):Prop:=∀(pins:List (Addr×Obj)) (σ:St) (H:Hp) (s:Shared) (e:Value) (s':Shared),Inv X pins σ H s->CX X.stack H s E e s'->X.xe e s'
section
variable {X:Cx}{CX:CXT}{k:Nat}{f C:Addr}{fd:FuncData}{ps:List Str}{sp:Sp}{dvs:List V}{ds:List Value}{E:XK}{x m:Str}{p pos apos:Pos}{e o:Expr}{es:List Expr}{ta:TE}{t:TA}
def Kr{pins:List (Addr×Obj)}{σ:St}{H:Hp}{s:Shared}{Q:VK}{us:List Value}{vs:List V}(F:FnOk X.prog X.w X.K X.mg X.base CX k f fd ps sp)(hr:Room k X.A)(hb:Binds X.K fd ps ds)(hd:Vals dvs ds)(hx:Passes CX X E)(I:Inv X pins σ H s)(r:Vals vs us)(h:sp (vs++dvs) H Q E):wpAny (model X.prog X.w) X.A (call (.ref f) us) (EP X pins σ Q) X.xe s:=by
 have r2:Vals (vs++dvs) (us++ds):=r.append hd
 have hl:(us++ds).length=ps.length:=by rw[←r2.length];exact F.len _ _ _ _ h
 refine wpAny_call (codeAny_mono (F.run X.A X.stack s H ⟨us,[]⟩ (us++ds) (vs++dvs) Q E hr I.env0 (hb s us I.kIn hl) r2 h) λr s' hq=>?_)
 cases r with
 |error e=>exact hx pins σ H s e s' I hq
 |ok fl =>
  cases fl with
  |ret u=>exact I.after hq
  |next=>exact ė hq
  |brk=>exact ė hq
  |cont=>exact ė hq
def Ht(F:FnOk X.prog X.w X.K X.mg X.base CX k f fd ps sp)(hr:Room k X.A)(hg:Gl X x)(hm:X.mg x=some (.ref f))(hk:W.keepIn X.K (.ref f)=true)(hb:Binds X.K fd ps ds)(hd:Vals dvs ds)(hx:Passes CX X E)(ha:PA X (e::es) t)(hdb:(x == ("__debug__":Str))=false:=by decide)(he:starEach (e::es) X.env=(false,eval e X.env)::starEach es X.env:=by rfl)(hpl:(backTo pos (starEach es X.env)).any (·.1)=false:=by rfl) :
  PE X (.Call (.Name x p) (e::es) [] pos) (tX sp dvs E t):=by
 intro pins s σ H Q I h
 refine Ő (yL I hg hm ?_ hdb)
 refine W.callWith_K (h₀:=X.base) I.ok.mod.kin hk (thn (ha pos pins s σ H _ I h) λus s1 ⟨vs,H1,I1,r,q⟩=>⟨I1.kIn,?_⟩) he hpl
 exact Kr F hr hb hd hx I1 r q
structure Mk(K:Ø)(C f:Addr):Prop where
 makes:W.makesIn K C=true
 init:W.findIn K (.ref C) "__init__"=some (some (.ref f))
 fn:W.isFn K (.ref f)=true
 kp:W.keepIn K (.ref C)=true
end
section
variable {X:Cx}{CX:CXT}{k:Nat}{f C:Addr}{fd:FuncData}{ps ks:List Str}{sp:Sp}{E:XK}{x m:Str}{p pos apos kpos:Pos}{e o:Expr}{es:List Expr}{kws:List Keyword}{te ta:TE}{t tk:TA}{nm:Option Str}
structure KBinds(K:Ø)(fd:FuncData)(ps ks:List Str)(g:List Value->List Value->List Value)(gV:List V->List V->List V):Prop where
 to:∀(s:Shared) (us ws:List Value),K.In s.heap->(g us ws).length=ps.length->BindsTo s fd ⟨us,ks.zip ws⟩ (ps.zip (g us ws))
 rel:∀{vs:List V}{us:List Value}{zs:List V}{ws:List Value},Vals vs us->Vals zs ws->Vals (gV vs zs) (g us ws)
variable {g:List Value->List Value->List Value}{gV:List V->List V->List V}
end
structure FnScope(N P:List Str)(sc:Scope):Prop where
 kind:sc.kind=.function
 co:sc.isCoroutine=false
 gen:sc.isGenerator=false
 nd:N.Nodup
 pre:N.take P.length=P
 par:∀x∈P,sc.names.lookup x=some .local\/sc.names.lookup x=some .cell
 nofree:∀y∈sc.names,y.2≠.free
def zC{N P:List Str}{sc:Scope}(a:sc.kind=.function:=by rfl)(b:sc.isCoroutine=false:=by rfl)(c:sc.isGenerator=false:=by rfl)(d:N.Nodup:=by decide +kernel)(e:N.take P.length=P:=by rfl)(f:∀x∈P,sc.names.lookup x=some .local\/sc.names.lookup x=some .cell:=by decide +kernel)(g:∀y∈sc.names,y.2≠.free:=by decide +kernel):FnScope N P sc:=⟨a,b,c,d,e,f,g⟩
def qu{kindOf:Str->Option NameKind}{x:Str}:∀{binds:List (Str×Value)}{m:Str->Option Value},(∀v,(x,v)∉binds)->bindL kindOf binds m x=m x
 |[],_,_=>rfl
 |(n,v)::r,m,h=>by
  unfold bindL
  rw[qu λw hw=>h w (Õ _ hw)]
  split
  ·have:x≠n:=by rintro rfl;exact h v Ú
   simp[this]
  ·rfl
def qx{kindOf:Str->Option NameKind}{x:Str}:∀{binds:List (Str×Value)}{m:Str->Option Value},(∀v,(x,v)∉binds)->bindC kindOf binds m x=m x
 |[],_,_=>rfl
 |(n,v)::r,m,h=>by
  unfold bindC
  rw[qx λw hw=>h w (Õ _ hw)]
  split
  ·rfl
  ·have:x≠n:=by rintro rfl;exact h v Ú
   simp[this]
def qw{kindOf:Str->Option NameKind}{x:Str}{v:Value}:∀{P:List Str}{vs:List Value}{i:Nat}{m:Str->Option Value},P.Nodup->P[i]?=some x->vs[i]?=some v->kindOf x=some .local ->
  bindL kindOf (P.zip vs) m x=some v
 |[],_,_,_,_,h,_,_=>by simp at h
 |_::_,[],_,_,_,_,h,_=>by simp at h
 |p::P,w::vs,0,m,nd,h1,h2,hk=>by
  simp at h1 h2;subst h1;subst h2
  show bindL kindOf ((p,w)::P.zip vs) m p=_
  unfold bindL
  rw[qu λv hv=>(List.nodup_cons.mp nd).1 (List.of_mem_zip hv).1,if_pos hk]
  simp
 |p::P,w::vs,i+1,m,nd,h1,h2,hk=>by
  show bindL kindOf ((p,w)::P.zip vs) m x=_
  unfold bindL
  exact qw (i:=i) (List.nodup_cons.mp nd).2 (by simpa using h1) (by simpa using h2) hk
def qy{kindOf:Str->Option NameKind}{x:Str}{v:Value}:∀{P:List Str}{vs:List Value}{i:Nat}{m:Str->Option Value},P.Nodup->P[i]?=some x->vs[i]?=some v->kindOf x≠some .local ->
  bindC kindOf (P.zip vs) m x=some v
 |[],_,_,_,_,h,_,_=>by simp at h
 |_::_,[],_,_,_,_,h,_=>by simp at h
 |p::P,w::vs,0,m,nd,h1,h2,hk=>by
  simp at h1 h2;subst h1;subst h2
  show bindC kindOf ((p,w)::P.zip vs) m p=_
  unfold bindC
  rw[qx λv hv=>(List.nodup_cons.mp nd).1 (List.of_mem_zip hv).1,if_neg hk]
  simp
 |p::P,w::vs,i+1,m,nd,h1,h2,hk=>by
  show bindC kindOf ((p,w)::P.zip vs) m x=_
  unfold bindC
  exact qy (i:=i) (List.nodup_cons.mp nd).2 (by simpa using h1) (by simpa using h2) hk
def start(N:List Str)(vs:List V):St:=vs.map some++Ï (N.length - vs.length) none
def wZ(CX:CXT)(P:Program)(w:World)(K:Ø)(mg:Str->Option Value)(base:Heap)(N:List Str)(qual:Str)(scope:Scope)(f:Addr)(cd:Value)(A:Around)(outer:List Env)(s:Shared)(H:Hp)(E:XK):Cx where
 prog:=P
 w:=w
 K:=K
 mg:=mg
 base:=base
 A:=A.deeper (envOfC qual scope s.heap.objs.size f cd)
 N:=N
 s₀:=s
 H₀:=H
 env:=envOfC qual scope s.heap.objs.size f cd
 outer:=outer
 stack:=envOfC qual scope s.heap.objs.size f cd::outer
 ex:=[]
 calm:=true
 fn:=λ_=>true
 pn:=[]
 xe:=λe s'=>wpAny (model P w) (A.deeper (envOfC qual scope s.heap.objs.size f cd)) (leaving (envOfC qual scope s.heap.objs.size f cd) e) (λ_ s''=>CX outer H s E e s'') (λe' s''=>CX outer H s E e' s'') s'
def u9{sc:Scope}{n:Nat}{x:Str}(h:sc.names.lookup x=some .cell):∃c,(cellsFrom n sc.names []).lookup x=some c:=by
 have q:=W.cellsFrom_some sc.names n [] (.inl h)
 exact ş.mp q
def Ai{CX:CXT}{P:Program}{w:World}{K:Ø}{mg:Str->Option Value}{base:Heap}{N ps:List Str}{qual:Str}{scope:Scope}{f:Addr}{cd:Value}{A:Around}{outer:List Env}{s s1:Shared}{H:Hp}{E:XK}{us:List Value}{vs:List V}(S:FnScope N ps scope)(hd:A.handled=none)(e0:Env0 P w K mg base A outer s H)(hl:vs.length=ps.length)(r:Vals vs us)(x:InCallC s s.heap.objs.size (bindL (envOfC qual scope s.heap.objs.size f cd).kindOf (ps.zip us) λ_=>none) (cellsFrom (s.heap.objs.size+1) scope.names []) (bindC (envOfC qual scope s.heap.objs.size f cd).kindOf (ps.zip us) λ_=>none) s1) :
  Inv (wZ CX P w K mg base N qual scope f cd A outer s H E) [] (start N vs) H s1:=by
 have hpl:ps.length<=N.length:=by have:=congrArg List.length S.pre;rw[Ċ] at this;omega
 obtain⟨h1,tk,rfl,hk⟩:=x.done
 have noA:∀b:Addr,b∉(wZ CX P w K mg base N qual scope f cd A outer s H E).ex:=λb z=>absurd (show b∈([]:List Addr) from z) (by simp)
 refine⟨⟨e0.mod,S.kind,rfl,rfl,Å _,λy z c h1 h2=>?_,λy hy=>?_,λy c _ h=>?_,λ_=>hd,Around.frames_deeper e0.frames,.inr ⟨rfl,rfl⟩,λb z=>absurd z (noA b),e0.bs,e0.bsz,λb _ _=>noA b,λb z=>absurd z (noA b),e0.jl,e0.frf,λq z=>nomatch (show q∈([]:List (Addr×Obj×HO)) from z)⟩,
  rfl,e0.bare,Un.kept hk,⟨_,x.toInCall.ns,λi y v h1 h2 h3=>?_⟩,λy c h=>⟨_,x.cell y c h⟩,e0.hok.fresh (Å _),λy c h=>?_,λp hp=>absurd (show p∈([]:List (Addr×Obj)) from hp) (by simp),e0.hok.kept hk,?_⟩
 ·exact name_of_addr x.apart (ĉ h1) (ĉ h2)
 ·have hy:scope.names.lookup y=some .cell\/scope.names.lookup y=some .free:=hy
  rcases hy with hy|hy
  ·exact u9 hy
  ·exact absurd rfl (S.nofree _ (ĉ hy))
 ·exact Nat.le_of_lt (x.above y c (ĉ h))
 ·have hi:i<vs.length:=by
   unfold start at h2
   by_cases hi:i<vs.length
   ·exact hi
   ·rw[ç (by simpa using hi)] at h2
    rw[Į] at h2
    split at h2 <;> cases h2
  have ha:vs[i]?=some v:=by
   unfold start at h2
   rw[é (by simpa using hi),Þ] at h2
   cases e:vs[i]? with
   |none=>rw[e] at h2;cases h2
   |some a=>rw[e] at h2;cases h2;rfl
  obtain⟨u,hu,rv⟩:=r.get ha
  have hp:ps[i]?=some y:=by
   rw[←S.pre,List.getElem?_take_of_lt (by omega)];exact h1
  have ndP:ps.Nodup:=by rw[←S.pre];exact S.nd.sublist (List.take_sublist _ _)
  refine⟨u,rv,?_⟩
  rcases S.par y (Ò hp) with k|k
  ·exact .inl ⟨k,qw ndP hp hu k⟩
  ·obtain⟨c,e⟩:=u9 (n:=s.heap.objs.size+1) k
   refine .inr ⟨.inl k,c,e,?_⟩
   have q:=x.cell y c e
   rw[qy ndP hp hu (by show scope.names.lookup y≠_;rw[k];decide)] at q
   exact q
 ·exact e0.hok.fresh (Nat.le_of_lt (x.above y c (ĉ h)))
 ·unfold start
  show _=N.length
  rw[È,Á,ŏ]
  omega
def JV{CX:CXT}{P:Program}{w:World}{K:Ø}{mg:Str->Option Value}{base:Heap}{k:Nat}{f:Addr}{name qual:Str}{params:Arguments}{body:List Stmt}{scope:Scope}{dV kV doc pm cdv ct oc:Value}{an od:Option Addr}{osl:Array (Option Value)}{N ps:List Str}{sp:Sp}(lk:K.lookup f=some ⟨oc,od,.func (W.fnOf name qual params body scope dV kV doc pm an cdv ct),osl⟩)(hcd:W.codeIn K cdv qual=true)(S:FnScope N ps scope)(len:∀vs H Q E,sp vs H Q E->vs.length=ps.length)(hbody:∀(A:Around) (outer:List Env) (s:Shared) (H:Hp) (vs:List V) (Q:VK) (E:XK),Room k (A.deeper (envOfC qual scope s.heap.objs.size f cdv))->sp vs H Q E ->
   ∃t,PSs (wZ CX P w K mg base N qual scope f cdv A outer s H E) body t/\t { nx:=λ_ H'=>Q .non H',rt:=Q } (start N vs) H) :
  FnOk P w K mg base CX (k+1) f (W.fnOf name qual params body scope dV kV doc pm an cdv ct) ps sp:=by
 refine⟨len,λA outer s H args us vs Q E hr e0 hb r hsp=>?_⟩
 have hl:=len _ _ _ _ hsp
 have KX:K.In s.heap:=e0.mod.kin.keeps λb o e=>(e0.bs b o e).1
 have lim:s.heap.NoLimit:=e0.mod.nolimit.keeps λb o e=>(e0.bs b o e).1
 have hkind:∀y∈ps.zip us,scope.names.lookup y.1=some .local\/(scope.names.lookup y.1=some .cell/\((cellsFrom (s.heap.objs.size+1) scope.names []).lookup y.1).isSome=true):=λ⟨n,v⟩ hy=>by
  rcases S.par n (List.of_mem_zip hy).1 with q|q
  ·exact .inl q
  ·exact .inr ⟨q,W.cellsFrom_some _ _ _ (.inl q)⟩
 refine codeAny_call_function hr.depth (KX _ _ lk) rfl S.co S.gen rfl (W.codeRec_of KX hcd) (hb _ _ _ _ ?_)
 refine wpAny_newFunctionEnv_cells S.kind hkind λenv he s1 x=>?_
 subst he
 refine⟨lim.keeps x.toInCall.keep,codeAny_func ?_⟩
 obtain⟨t,ht,hq⟩:=hbody A outer s H vs Q E (hr.deeper _) hsp
 have I:Inv (wZ CX P w K mg base N qual scope f cdv A outer s H E) [] (start N vs) H s1:=Ai S hr.hd e0 hl r x
 refine Ĵ (ht [] s1 (start N vs) H _ I hq) (λfl s' hs=>?_) λe s' hs=>hs
 have fin:∀{σ':St}{H':Hp}{v:V}{u:Value},Inv (wZ CX P w K mg base N qual scope f cdv A outer s H E) [] σ' H' s'->RelV v u->Q v H'->CE outer P w H s Q u s' :=
  λ{σ' H' v u} J rv q=>⟨v,H',J.os,J.bare,J.base,J.hok,rv,q⟩
 cases fl with
 |ret u =>
  obtain⟨v,σ',H',J,rv,q⟩:=hs
  exact fin J rv q
 |next =>
  obtain⟨σ',H',J,q⟩:=hs
  exact fin (v:=V.non) (u:=ĭ) J rfl q
 |brk =>
  obtain⟨_,_,_,q⟩:=hs
  exact ė q
 |cont =>
  obtain⟨_,_,_,q⟩:=hs
  exact ė q
section
variable {X:Cx}{x:Str}{p pos:Pos}{e:Expr}{es:List Expr}{t:TA}{id T:String}{r:List V->Hp->VK->Prop}
def tCB(r:List V->Hp->VK->Prop)(t:TA):TE:=λσ H Q=>t σ H λvs H1=>r vs H1 Q
def dN(hc:bH X (.builtin id) r)(hg:Gl X x)(hm:X.mg x=none)(hv:bootBuiltins x=some (.builtin id))(ha:PA X (e::es) t)(hn:x≠"__name__":=by decide)(hdb:(x == ("__debug__":Str))=false:=by decide)(he:starEach (e::es) X.env=(false,eval e X.env)::starEach es X.env:=by rfl)(hpl:(backTo pos (starEach es X.env)).any (·.1)=false:=by rfl):PE X (.Call (.Name x p) (e::es) [] pos) (tCB r t):=by
 intro pins s σ H Q I h
 refine Ő (iy I hg hm hv ?_ hn hdb)
 exact PyProof.Rows.callWith_builtin1 (thn (ha pos pins s σ H _ I h) λus s1 ⟨vs,H1,I1,r1,q1⟩=>hc pins s1 σ H1 vs us Q I1 r1 q1) he hpl
def fG(hc:bH X (.type T) r)(hg:Gl X x)(hm:X.mg x=none)(hv:bootBuiltins x=some (.type T))(ha:PA X (e::es) t)(hn:x≠"__name__":=by decide)(hdb:(x == ("__debug__":Str))=false:=by decide)(he:starEach (e::es) X.env=(false,eval e X.env)::starEach es X.env:=by rfl)(hpl:(backTo pos (starEach es X.env)).any (·.1)=false:=by rfl):PE X (.Call (.Name x p) (e::es) [] pos) (tCB r t):=by
 intro pins s σ H Q I h
 refine Ő (iy I hg hm hv ?_ hn hdb)
 exact Ī (thn (ha pos pins s σ H _ I h) λus s1 ⟨vs,H1,I1,r1,q1⟩=>hc pins s1 σ H1 vs us Q I1 r1 q1) he hpl
end
end L2
namespace HT
open PySem PyProof.Rows
section
open PySem.SeqAt
open PySem.AutoSeq1 (wpAny_loadPart')
open PySem.MeetsSeq PySem.MeetsSeq2 PySem.MeetsSeq3
end
section
variable {prog:Program}{w:World}{A:Around}{E:Value->Shared->Prop}{s:Shared}
def Jk{t b:Addr}{vs ws:List Value}{Q:Value->Shared->Prop}(ht:IsTup s.heap t vs.toArray)(hb:IsTup s.heap b ws.toArray)(hv:vs≠[])(h1:ws=[]->Q (.ref t) s)(h2:ws≠[]->Q (.ref s.heap.objs.size) { s with heap:=s.heap.push { cls:=.type "tuple",data:=.seq (vs++ws).toArray } })(hsz:vs.length+ws.length<=sizeLine):wpAny (model prog w) A (binaryOp .Add (.ref t) (.ref b)) Q E s:=by
 obtain⟨⟨cls,dd,data,sl⟩,ho,hc,n,hd⟩:=id ht
 obtain⟨⟨cls2,dd2,data2,sl2⟩,ho2,hc2,n2,hd2⟩:=id hb
 simp only at hc hd hc2 hd2
 subst hc hd hc2 hd2
 have e:vs.toArray++ws.toArray=(vs++ws).toArray:=by simp
 by_cases hw:ws=[]
 ·exact concat_meets ⟨_,ho,rfl⟩ ⟨_,ho2,rfl⟩ noFill_tuple_add seq_tuple_add PySem.F.slot_tuple_add PySem.F.entry_tuple_add (PySem.F.args_tuple_add_2 _ _)
   (tuple_addW1 t b vs.toArray ws.toArray n n2 dd dd2 sl sl2 (by simpa using hv) (by simp[hw])) ⟨ho,ho2,h1 hw⟩
 ·refine concat_meets ⟨_,ho,rfl⟩ ⟨_,ho2,rfl⟩ noFill_tuple_add seq_tuple_add PySem.F.slot_tuple_add PySem.F.entry_tuple_add (PySem.F.args_tuple_add_2 _ _)
   (tuple_addW2 t b vs.toArray ws.toArray n n2 dd dd2 sl sl2 (by simpa using hv) (by simpa using hw) (by rw[Ì,Ì];exact hsz)) ⟨ho,ho2,?_⟩
  rw[e]
  exact h2 hw
def sIx(n d:Nat):Option Int->Nat
 |none=>d
 |some v=>if v<0 then (v+(n:Int)).toNat else min v.toNat n
def mH(n d k:Nat):sIx n d (some (k:Int))=min k n:=by
 show(if (k:Int)<0 then ((k:Int)+(n:Int)).toNat else min (k:Int).toNat n)=min k n
 rw[if_neg (by omega),ľ]
def Kq(n d:Nat)(hd:d<=n)(o:Option Int):sIx n d o<=n:=by
 cases o with
 |none=>exact hd
 |some v =>
  show(if v<0 then (v+(n:Int)).toNat else min v.toNat n)<=n
  by_cases hv:v<0
  ·rw[if_pos hv];omega
  ·rw[if_neg hv];exact Nat.min_le_right _ _
def yW(v:Int)(n d:Nat):(if v<0 then max (v+(n:Int)) 0 else min v (n:Int))=((sIx n d (some v):Nat):Int):=by
 show(if v<0 then max (v+(n:Int)) 0 else min v (n:Int))=(((if v<0 then (v+(n:Int)).toNat else min v.toNat n):Nat):Int)
 by_cases hv:v<0
 ·simp only[if_pos hv];omega
 ·simp only[if_neg hv];omega
def xu(lo hi:Option Int)(n:Nat):ź lo hi 1 (n:Int)=(((sIx n 0 lo:Nat):Int),((sIx n n hi:Nat):Int)):=by
 have h1:¬((1:Int)<0):=by omega
 unfold ź
 simp only[h1,if_false]
 refine Prod.ext ?_ ?_
 ·cases lo with
  |none=>rfl
  |some v=>exact yW v n 0
 ·cases hi with
  |none=>rfl
  |some v=>exact yW v n n
def vR(i j:Nat):Ō (i:Int) (j:Int) 1=j - i:=by
 unfold Ō
 have h1:(1:Int) > 0:=by omega
 simp only[h1,if_true,Int.ediv_one]
 split <;> omega
def nq{v:Value}{o:Option Int}{Q:Option Int->Shared->Prop}(p:IsPart v o)(h:Q o s):wpAny (model prog w) A (Builtin.Slice.slicePartIndex v) Q E s:=by
 cases p with
 |none=>exact slicePart_none h
 |int i t=>exact slicePart_int h
def j8{sl:Addr}{vl vu:Value}{lo hi:Option Int}{n:Nat}{Q:Int×Int×Nat->Shared->Prop}(hs:s.heap.IsSliceOf sl vl vu .none)(pl:IsPart vl lo)(pu:IsPart vu hi)(h:Q (((sIx n 0 lo:Nat):Int),1,sIx n n hi - sIx n 0 lo) s):wpAny (model prog w) A (Builtin.Slice.sliceApplied (.ref sl) (pure (n:Int))) Q E s:=by
 obtain⟨os,hos,hcs,hds⟩:=id hs
 unfold Builtin.Slice.sliceApplied Builtin.Slice.sliceFields
 refine Ã (Ã (wpAny_field hos hds (x:=vl) rfl (Ã (wpAny_field hos hds (x:=vu) rfl (Ã (wpAny_field hos hds (x:=.none) rfl (Ñ ?_)))))))
 refine Ã (slicePart_none ?_)
 show wpAny _ _ (if ((1:Int) == 0)=true then _ else _) _ _ s
 rw[if_neg (by decide)]
 refine Ã (nq pl (Ã (nq pu (Ã (Ñ ?_)))))
 show wpAny _ _ (match ź lo hi 1 (n:Int) with|(lo,hi)=>pure (lo,(1:Int),Ō lo hi 1)) _ _ s
 rw[xu lo hi n]
 show wpAny _ _ (pure (((sIx n 0 lo:Nat):Int),(1:Int),Ō ((sIx n 0 lo:Nat):Int) ((sIx n n hi:Nat):Int) 1)) _ _ s
 rw[vR]
 exact Ñ h
def CK(xs:Array Value)(i k:Nat):((ä k).filterMap λ(m:Nat)=>xs[((i:Int)+(m:Int) * 1).toNat]?).toArray=((xs.toList.drop i).take k).toArray:=by
 have e:(λ(m:Nat)=>xs[((i:Int)+(m:Int) * 1).toNat]?)=λm=>xs[i+m]?:=by
  funext m
  have:((i:Int)+(m:Int) * 1).toNat=i+m:=by omega
  rw[this]
 rw[e]
 have:=pick_run xs i k
 rw[List.filterMap_map] at this
 have e2:((λx=>xs[x]?) ∘ λx=>i+x)=λm=>xs[i+m]?:=rfl
 rw[e2] at this
 rw[this]
def jP{t sl:Addr}{items:Array Value}{vl vu:Value}{lo hi:Option Int}{Q:Value->Shared->Prop}(ht:IsTup s.heap t items)(hs:s.heap.IsSliceOf sl vl vu .none)(pl:IsPart vl lo)(pu:IsPart vu hi)(hw:¬(sIx items.size 0 lo=0/\sIx items.size items.size hi=items.size))(h:Q (.ref s.heap.objs.size) { s with heap:=s.heap.push { cls:=.type "tuple",data:=.seq ((items.toList.drop (sIx items.size 0 lo)).take (sIx items.size items.size hi - sIx items.size 0 lo)).toArray } })(hsz:items.size<=sizeLine):wpAny (model prog w) A (getItem (.ref t) (.ref sl)) Q E s:=by
 have htake:sizeOk (.seq ((items.toList.drop (sIx items.size 0 lo)).take (sIx items.size items.size hi - sIx items.size 0 lo)).toArray):=by
  show((items.toList.drop (sIx items.size 0 lo)).take (sIx items.size items.size hi - sIx items.size 0 lo)).toArray.size<=sizeLine
  rw[Ì,Ċ,ċ,æ]
  omega
 have hj:sIx items.size items.size hi<=items.size:=Kq _ _ (Å _) hi
 obtain⟨os,hos,hcs,hds⟩:=id hs
 have hTs:s.TypeIs (.ref sl) "slice":=⟨os,hos,hcs⟩
 unfold getItem
 try with_reducible refine Ě ?_
 first|refine Ã (Ñ ?_)|skip
 refine Ã (wpAny_sequenceKey ht.typeIs (by decide) ?_)
 refine Ã (wpAny_callSpecial?_slot (name:=ù "__getitem__") ht.typeIs PyProof.Rows.slot_tuple_getitem
  (wpAny_call_entry PyProof.Rows.slot_tuple_getitem ht.typeIs entry_tuple_getitem ?_ (args_tuple_getitem _ _)))
 show wpAny _ _ (Builtin.Tuple.tupleItemsOf (.ref t) >>= _) _ _ s
 refine Ã (tupleItemsOf_ ht ?_)
 refine Ã (wpAny_typeOf hTs ?_)
 rw[if_pos (by decide)]
 refine Ã (j8 hs pl pu ?_)
 have hno:¬((((sIx items.size 0 lo:Nat):Int) == 0&&(1:Int) == 1&&(sIx items.size items.size hi - sIx items.size 0 lo) == items.size)=true):=by
  intro q
  rw[Ý,Ý] at q
  have q1:((sIx items.size 0 lo:Nat):Int)=0:=eq_of_beq q.1.1
  have q2:sIx items.size items.size hi - sIx items.size 0 lo=items.size:=eq_of_beq q.2
  exact hw ⟨by omega,by omega⟩
 show wpAny _ _ (if (((sIx items.size 0 lo:Nat):Int) == 0&&(1:Int) == 1&&(sIx items.size items.size hi - sIx items.size 0 lo) == items.size)=true then _ else _) _ _ s
 rw[if_neg hno,CK]
 first
  |exact Ã (m:=Œ _) (Ź (Ñ ⟨_,rfl,Ñ h⟩) htake)
  |exact Ã (m:=Œ _) (Ź (Ã (Ñ (Ñ ⟨_,rfl,Ñ h⟩))) htake)
  |exact Ã (Ã (m:=Œ _) (Ź (Ñ (Ñ ⟨_,rfl,Ñ h⟩)) htake))
  |exact Ã (Ã (m:=Œ _) (Ź (Ñ ⟨_,rfl,Ñ h⟩) htake))
end
end HT
namespace L2
open PySem PySem.Spec PyProof.Rows
abbrev TO:=St->Hp->(Option Int->Hp->Prop)->Prop
def PO(X:Cx)(e:Option Expr)(t:TO):Prop :=
 ∀(pins:List (Addr×Obj)) (s:Shared) (σ:St) (H:Hp) (Q:Option Int->Hp->Prop),Inv X pins σ H s->t σ H Q ->
  wpAny (model X.prog X.w) X.A (evalPart e X.env) (λu s'=>∃o H',Inv X pins σ H' s'/\IsPart u o/\Q o H') X.xe s
def GR:TO:=λ_ H Q=>Q none H
def Nj(t:TE):TO:=λσ H Q=>t σ H λx H1=>∃i,x=.int i/\Q (some i) H1
def intsAre_of{ns:List Int}:∀{us:List Value},Vals (ns.map V.int) us->IntsAre us ns:=by
 induction ns with
 |nil=>intro us r;rw[List.map_nil] at r;cases r;exact .nil
 |cons n ns ih =>
  intro us r
  rw[ë] at r
  cases r with
  |cons r1 r2 =>
   obtain⟨t,e⟩:=r1
   subst e
   exact .cons n t (ih r2)
section
variable {X:Cx}{e:Expr}{te:TE}{lo hi:Option Expr}{tl th:TO}{pos p2:Pos}
def Hh:PO X none GR:=by
 intro pins s σ H Q I h
 rw[evalPart_none]
 exact Ñ ⟨none,H,I,.none,h⟩
def Hg(h:PE X e te):PO X (some e) (Nj te):=by
 intro pins s σ H Q I hw
 rw[evalPart_some]
 refine thn (h pins s σ H _ I hw) λu s1 ⟨x,H1,I1,r1,q1⟩=>?_
 obtain⟨i,rfl,q⟩:=q1
 obtain⟨t,rfl⟩:=r1
 exact⟨some i,H1,I1,.int i t,q⟩
def SlR(X:Cx)(r:V->Option Int->Option Int->Hp->VK->Prop):Prop :=
 ∀(pins:List (Addr×Obj)) (s:Shared) (σ:St) (H:Hp) (x:V) (v vl vu:Value) (lo hi:Option Int) (sl:Addr) (Q:VK),Inv X pins σ H s->RelV x v->s.heap.IsSliceOf sl vl vu .none->IsPart vl lo->IsPart vu hi->r x lo hi H Q ->
  ∃T id,typeLookup (.type T) "__getitem__"=pure (some (.builtin id))/\s.TypeIs v T/\wpAny (model X.prog X.w) X.A (getItem v (.ref sl)) (EP X pins σ Q) X.xe s
def SlR.or{r r':V->Option Int->Option Int->Hp->VK->Prop}(h:SlR X r)(h':SlR X r'):SlR X (λx lo hi H Q=>r x lo hi H Q\/r' x lo hi H Q):=by
 intro pins s σ H x v vl vu lo hi sl Q I rx hs pl pu q
 rcases q with q|q
 ·exact h pins s σ H x v vl vu lo hi sl Q I rx hs pl pu q
 ·exact h' pins s σ H x v vl vu lo hi sl Q I rx hs pl pu q
def tSl(r:V->Option Int->Option Int->Hp->VK->Prop)(te:TE)(tl th:TO):TE:=λσ H Q=>te σ H λx H1=>tl σ H1 λl H2=>th σ H2 λu H3=>r x l u H3 Q
def uz{r:V->Option Int->Option Int->Hp->VK->Prop}(hr:SlR X r)(he:PE X e te)(hl:PO X lo tl)(hu:PO X hi th):PE X (.Subscript e (.Slice lo hi none p2) pos) (tSl r te tl th):=by
 intro pins s σ H Q I h
 refine Subscript_ (thn (he pins s σ H _ I h) λv s1 ⟨x,H1,I1,r1,q1⟩=>?_)
 refine wpAny_Slice (thn (hl pins s1 σ H1 _ I1 q1) λvl s2 ⟨l,H2,I2,pl,q2⟩=>thn (hu pins s2 σ H2 _ I2 q2) λvu s3 ⟨u,H3,I3,pu,q3⟩=>?_)
 rw[evalPart_none]
 refine Ñ ?_
 have I4:Inv X pins σ H3 { s3 with heap:=s3.heap.push { cls:=.type "slice",data:=.fields #[vl,vu,.none] } }:=I3.kept (t':=s3.toks) λb ob q=>Ç _ q
 obtain⟨T,id,hT,ht,hg⟩:=hr pins { s3 with heap:=s3.heap.push { cls:=.type "slice",data:=.fields #[vl,vu,.none] } } σ H3 x v vl vu l u s3.heap.objs.size Q I4 r1 (Heap.IsSliceOf.new ..) pl pu q3
 show wpAny (model X.prog X.w) X.A (subscriptTail e (.Slice lo hi none p2) v (.ref s3.heap.objs.size)) (EP X pins σ Q) X.xe { s3 with heap:=s3.heap.push { cls:=.type "slice",data:=.fields #[vl,vu,.none] } }
 exact tail_any (ops:=[.ref s3.heap.objs.size,v]) ht hT hg (by with_unfolding_all rfl)
def oY(xs:List V)(lo hi:Option Int):List V:=(xs.drop (HT.sIx xs.length 0 lo)).take (HT.sIx xs.length xs.length hi - HT.sIx xs.length 0 lo)
def lQ(xs:List V)(lo hi:Option Int):(oY xs lo hi).length<=xs.length:=by
 unfold oY
 rw[Ċ,ċ]
 omega
def Qx(K:Ø):V->Option Int->Option Int->Hp->VK->Prop:=λx lo hi H Q=>∃a xs,x=.ref a/\SqT K H a xs /\
 ¬(HT.sIx xs.length 0 lo=0/\HT.sIx xs.length xs.length hi=xs.length)/\∀p,H p=none->Q (.ref p) (upd H p (.tup (oY xs lo hi)))
def Kh:SlR X (Qx X.K):=by
 intro pins s σ H x v vl vu lo hi sl Q I rx hs pl pu h
 obtain⟨a,xs,rfl,hx,hw,q⟩:=h
 cases rx
 obtain⟨its,r,ht,hz⟩:=I.tuple hx
 have hlen:its.toArray.size=xs.length:=by rw[Ì];exact r.length.symm
 refine⟨"tuple",_,PyProof.Rows.slot_tuple_getitem.lookup,ht.typeIs,?_⟩
 refine HT.jP ht hs pl pu (by rw[hlen];exact hw) ?_ (by rw[hlen];exact hz)
 rw[hlen]
 refine⟨.ref s.heap.objs.size,_,I.laid (t':=s.toks) (o:=.tup (oY xs lo hi)) (λb ob q=>Ç _ q) (Å _) ?_,rfl,q _ (I.hok.fresh (Å _))⟩
 exact⟨ï (lQ xs lo hi) hz,_,(r.drop (HT.sIx xs.length 0 lo)).take (HT.sIx xs.length xs.length hi - HT.sIx xs.length 0 lo),IsTup.new _ _⟩
def Ob(K:Ø):R2:=λx y H Q=>∃a b xs ys,x=.ref a/\y=.ref b/\SqT K H a xs/\SqT K H b ys/\xs≠[]/\xs.length+ys.length<=sizeLine /\
 (ys=[]->Q (.ref a) H)/\(ys≠[]->∀p,H p=none->Q (.ref p) (upd H p (.tup (xs++ys))))
def Vals.rF{xs:List V}{us:List Value}(r:Vals xs us):us=[]↔xs=[]:=by
 cases r with
 |nil=>simp
 |cons _ _=>simp
def Hw:OpR X (binaryOp .Add) (Ob X.K):=by
 intro pins s σ H x y v u Q I rx ry h
 obtain⟨a,b,xs,ys,rfl,rfl,ha,hb,hx,hz,q1,q2⟩:=h
 cases rx
 cases ry
 obtain⟨its,r1,p1,_⟩:=I.tuple ha
 obtain⟨its2,r2,p2,_⟩:=I.tuple hb
 refine HT.Jk p1 p2 (λz=>hx (r1.rF.mp z)) (λz=>⟨.ref a,H,I,rfl,q1 (r2.rF.mp z)⟩) (λz=>?_) (by rw[←r1.length,←r2.length];exact hz)
 refine⟨.ref s.heap.objs.size,_,I.laid (t':=s.toks) (o:=.tup (xs++ys)) (λb ob q=>Ç _ q) (Å _) ?_,rfl,q2 (λw=>z (r2.rF.mpr w)) _ (I.hok.fresh (Å _))⟩
 exact⟨by rw[È];exact hz,_,r1.append r2,IsTup.new _ _⟩
end
def ixN(n:Nat)(i:Int):Option Nat:=if 0<=i then (if i<n then some i.toNat else none) else if -(n:Int)<=i then some (i+n).toNat else none
def atI{α:Type}(xs:List α)(i:Int):Option α:=(ixN xs.length i).bind λj=>xs[j]?
def rY{n:Nat}{i:Int}{j:Nat}(h:ixN n i=some j):seqIndex? i n=some j/\j<n/\-(n:Int)<=i/\i<n:=by
 unfold ixN at h
 by_cases h0:0<=i
 ·rw[if_pos h0] at h
  by_cases h1:i<n
  ·rw[if_pos h1] at h
   have e:i.toNat=j:=ß h
   exact⟨by rw[seqIndex_of h0 h1,e],by omega,by omega,h1⟩
  ·rw[if_neg h1] at h;cases h
 ·rw[if_neg h0] at h
  by_cases h1:-(n:Int)<=i
  ·rw[if_pos h1] at h
   have e:(i+n).toNat=j:=ß h
   exact⟨by rw[seqIndex_neg (by omega) h1,e],by omega,h1,by omega⟩
  ·rw[if_neg h1] at h;cases h
def yX{α:Type}{xs:List α}{i:Int}{v:α}(h:atI xs i=some v):∃j,seqIndex? i xs.length=some j/\xs[j]?=some v/\j<xs.length/\-(xs.length:Int)<=i/\i<xs.length:=by
 unfold atI at h
 cases e:ixN xs.length i with
 |none=>rw[e] at h;cases h
 |some j =>
  rw[e] at h
  obtain⟨h1,h2,h3,h4⟩:=rY e
  exact⟨j,h1,h,h2,h3,h4⟩
def eX{α:Type}{xs:List α}{j:Nat}{v:α}(h:xs[j]?=some v):atI xs (j:Int)=some v:=by
 have hj:j<xs.length:=(Ö.mp h).1
 have e:ixN xs.length (j:Int)=some j:=by
  unfold ixN
  rw[if_pos (by omega),if_pos (by omega)];simp
 unfold atI;rw[e];exact h
def jZ(b:Expr):Prop:=∀o i,subscripted b false o i=operate [o,i] (getItem o i)
def IxR(X:Cx)(r:R2):Prop :=
 ∀(value slice:Expr) (pins:List (Addr×Obj)) (s:Shared) (σ:St) (H:Hp) (x y:V) (v u:Value) (Q:VK),Inv X pins σ H s->RelV x v->RelV y u->r x y H Q ->
  subscripted slice false v u=operate [v,u] (getItem v u)->wpAny (model X.prog X.w) X.A (subscriptTail value slice v u) (EP X pins σ Q) X.xe s
def MtR(X:Cx)(id:String)(r:V->List V->Hp->VK->Prop):Prop :=
 ∀(pins:List (Addr×Obj)) (s:Shared) (σ:St) (H:Hp) (x:V) (xs:List V) (v:Value) (us:List Value) (Q:VK),Inv X pins σ H s->RelV x v->Vals xs us->r x xs H Q ->
  wpAny (model X.prog X.w) X.A (call (.builtin id) (v::us)) (EP X pins σ Q) X.xe s
section
variable {X:Cx}{a b:Expr}{ta tb:TE}{pos:Pos}
def IxR.or{r r':R2}(h:IxR X r)(h':IxR X r'):IxR X (λx y H Q=>r x y H Q\/r' x y H Q):=by
 intro value slice pins s σ H x y v u Q I rx ry q hs
 rcases q with q|q
 ·exact h value slice pins s σ H x y v u Q I rx ry q hs
 ·exact h' value slice pins s σ H x y v u Q I rx ry q hs
def eG{r:R2}(hr:IxR X r)(ha:PE X a ta)(hb:PE X b tb)(hs:jZ b):PE X (.Subscript a b pos) (tOp r ta tb):=by
 intro pins s σ H Q I h
 exact Subscript_ (MJ ha hb I h λv u s2 x y H2 I2 rx ry q=>hr a b pins s2 σ H2 x y v u Q I2 rx ry q (hs _ _))
def N8(K:Ø):R2:=λx y H Q=>∃p xs i v,x=.ref p/\y=.int i/\SqL K H p xs/\atI xs i=some v/\Q v H
def N7(K:Ø):R2:=λx y H Q=>∃p xs i v,x=.ref p/\y=.int i/\SqT K H p xs/\atI xs i=some v/\Q v H
def bO:IxR X (N8 X.K):=by
 intro value slice pins s σ H x y v u Q I rx ry h hs
 obtain⟨p,xs,i,z,rfl,rfl,hq,he,q⟩:=h
 cases rx
 obtain⟨t,rfl⟩:=ry
 obtain⟨its,r,pl,hz⟩:=I.list hq
 obtain⟨j,h1,h2,h3,h4,h5⟩:=yX he
 obtain⟨w,ew,rw'⟩:=r.get h2
 have hl:=r.length
 have hn:=rM
 have fin:EP X pins σ Q w s:=⟨z,H,I,rw',q⟩
 by_cases h0:0<=i
 ·have hj:i.toNat=j:=by
   rw[seqIndex_of h0 h5] at h1
   exact ß h1
  exact item_listR pl.isList h0 (by omega) (by rw[hj];simpa using ew) fin hs
 ·have hj:(i+(its.toArray.size:Int)).toNat=j:=by
   rw[seqIndex_neg (by omega) h4] at h1
   rw[Ì,←hl]
   exact ß h1
  exact subscriptTail_builtinR (x:=w) pl.isList.typeIs slot_list_getitem.lookup
   (wpAny_getItem_list_neg (Q:=λr s'=>r=w/\EP X pins σ Q r s') pl.isList (by omega) (by rw[Ì] <;> omega) (by omega) (by rw[hj];simpa using ew) ⟨rfl,fin⟩) hs
def wI:IxR X (N7 X.K):=by
 intro value slice pins s σ H x y v u Q I rx ry h hs
 obtain⟨p,xs,i,z,rfl,rfl,hq,he,q⟩:=h
 cases rx
 obtain⟨t,rfl⟩:=ry
 obtain⟨its,r,pl,hz⟩:=I.tuple hq
 obtain⟨j,h1,h2,h3,h4,h5⟩:=yX he
 obtain⟨w,ew,rw'⟩:=r.get h2
 have hl:=r.length
 have hn:=rM
 have fin:EP X pins σ Q w s:=⟨z,H,I,rw',q⟩
 exact subscriptTail_builtinR (x:=w) pl.typeIs slot_tuple_getitem.lookup
  (getItem_tuple (j:=j) (Q:=λr s'=>r=w/\EP X pins σ Q r s') pl (by omega) (by omega) (by rw[Ì,←hl];exact h1) (by simpa using ew) ⟨rfl,fin⟩) hs
def wD(its:List Value)(n j:Nat)(u:Value):Ô (·.setIfInBounds j u) { cls:=.type "list",data:=.seq its.toArray n }={ cls:=.type "list",data:=.seq (its.set j u).toArray n }:=by
 simp[Ô]
def Inv.lst{pins:List (Addr×Obj)}{σ:St}{H:Hp}{s:Shared}{p:Addr}{xs:List V}(I:Inv X pins σ H s)(h:H p=some (.lst xs)) :
  ∃(its:List Value) (n:Nat),Vals xs its/\s.heap.get? p=some { cls:=.type "list",data:=.seq its.toArray n }/\xs.length<=sizeLine:=by
 obtain⟨z,its,n,r,e⟩:=I.hok p _ h
 exact⟨its,n,r,e,z⟩
def Inv.Lq{pins:List (Addr×Obj)}{σ:St}{H:Hp}{s:Shared}{p:Addr}{xs ys:List V}{its its':List Value}{n n':Nat}{f:Obj->Obj}(I:Inv X pins σ H s)(h:H p=some (.lst xs))(ho:s.heap.get? p=some { cls:=.type "list",data:=.seq its.toArray n })(hf:f { cls:=.type "list",data:=.seq its.toArray n }={ cls:=.type "list",data:=.seq its'.toArray n' })(r:Vals ys its')(hz:ys.length<=sizeLine)(t:Nat) :
  Inv X pins σ (upd H p (.lst ys)) { s with heap:=s.heap.update p f,toks:=t }:=by
 have e:(s.heap.update p f).get? p=some { cls:=.type "list",data:=.seq its'.toArray n' }:=by
  rw[Ŏ f ho (by rw[hf] <;> rfl),hf]
 refine I.write (x:=p) (e:=p) (by rw[h];trivial) (.inl rfl) (λb u hb q=>(ġ _ _ (ę hb)).trans q) ⟨_,e⟩ ?_
 exact⟨hz,its',n',r,e⟩
def N5:V->V->V->Hp->(Hp->Prop)->Prop:=λo i v H Q=>∃p xs k j,o=.ref p/\i=.int k/\H p=some (.lst xs)/\ixN xs.length k=some j/\Q (upd H p (.lst (xs.set j v)))
def set_list:PL X N5:=by
 intro pins s σ H o i v ov iv u Q I ro ri rv h
 obtain⟨p,xs,k,j,rfl,rfl,hp,hj,q⟩:=h
 cases ro
 obtain⟨t,rfl⟩:=ri
 obtain⟨its,n,r,ho,hz⟩:=I.lst hp
 obtain⟨h1,h2,h3,h4⟩:=rY hj
 have hl:=r.length
 have hn:=rM
 have I':Inv X pins σ (upd H p (.lst (xs.set j v))) { s with heap:=s.heap.update p (Ô (·.setIfInBounds j u)) } :=
  I.Lq hp ho (wD its n j u) (r.set rv j) (by rw[List.length_set];exact hz) s.toks
 by_cases h0:0<=k
 ·have hk:k.toNat=j:=by
   rw[seqIndex_of h0 h4] at h1
   exact ß h1
  exact W.ki_setAt ho h0 (by omega) (by rw[Ì,←hl];exact h4) (by rw[hk];exact⟨_,I',q⟩)
 ·have hk:(k+(its.toArray.size:Int)).toNat=j:=by
   rw[seqIndex_neg (by omega) h3] at h1
   rw[Ì,←hl]
   exact ß h1
  exact W.ki_setBack ho (by omega) (by rw[Ì,←hl];exact h3) (by omega) (by rw[hk];exact⟨_,I',q⟩)
def qI(lo hi:Option Int)(n:Nat):(sliceBounds lo hi none n).1=((HT.sIx n 0 lo:Nat):Int)/\(sliceBounds lo hi none n).2.1=((HT.sIx n n hi:Nat):Int)/\(sliceBounds lo hi none n).2.2=1:=by
 refine⟨?_,?_,rfl⟩
 ·cases lo with
  |none=>simp[sliceBounds,HT.sIx]
  |some i =>
   simp only[sliceBounds,HT.sIx,Option.getD_none,show(1:Int) > 0 by decide,if_true]
   by_cases h:i<0
   ·simp only[h,if_true] <;> omega
   ·simp only[h,if_false] <;> omega
 ·cases hi with
  |none=>simp[sliceBounds,HT.sIx]
  |some i =>
   simp only[sliceBounds,HT.sIx,Option.getD_none,show(1:Int) > 0 by decide,if_true]
   by_cases h:i<0
   ·simp only[h,if_true] <;> omega
   ·simp only[h,if_false] <;> omega
def pB(its:List Value)(lo hi:Option Int):slicePick its.toArray lo hi none=((its.drop (HT.sIx its.length 0 lo)).take (HT.sIx its.length its.length hi - HT.sIx its.length 0 lo)).toArray:=by
 obtain⟨h1,h2,h3⟩:=qI lo hi its.toArray.size
 unfold slicePick
 rw[h1,h2,h3]
 simp only[sliceRange_one,pick_run,Ì] <;> rfl
def Qy(K:Ø):V->Option Int->Option Int->Hp->VK->Prop:=λx lo hi H Q=>∃a xs,x=.ref a/\SqL K H a xs/\∀p,H p=none->Q (.ref p) (upd H p (.lst (oY xs lo hi)))
def xP:SlR X (Qy X.K):=by
 intro pins s σ H x v vl vu lo hi sl Q I rx hs pl pu h
 obtain⟨a,xs,rfl,hx,q⟩:=h
 cases rx
 obtain⟨its,r,ht,hz⟩:=I.list hx
 have hlen:=r.length
 refine⟨"list",_,slot_list_getitem.lookup,ht.isList.typeIs,?_⟩
 refine wpAny_getItem_list_slice ht.isList hs pl pu .none (by simp) ?_ (by rw[Ì] <;> omega)
 rw[pB,←hlen]
 refine⟨.ref s.heap.objs.size,_,I.laid (t':=s.toks) (o:=.lst (oY xs lo hi)) (λb ob q=>Ç _ q) (Å _) ?_,rfl,q _ (I.hok.fresh (Å _))⟩
 exact⟨ï (lQ xs lo hi) hz,_,0,(r.drop (HT.sIx xs.length 0 lo)).take (HT.sIx xs.length xs.length hi - HT.sIx xs.length 0 lo),Û _ rfl⟩
def cI:bH X (.builtin "len") (λxs H Q=>∃p ys,xs=[.ref p]/\(SqL X.K H p ys\/SqT X.K H p ys)/\Q (.int ys.length) H):=by
 intro pins s σ H xs us Q I r h
 obtain⟨p,ys,rfl,hq,q⟩:=h
 obtain⟨u,rfl,rx⟩:=vals1 r
 cases rx
 have hn:=rM
 rcases hq with hq|hq
 ·obtain⟨its,r',pl,hz⟩:=I.list hq
  have hlen:=r'.length
  exact Calls.call_len_list pl.isList (by simp only[Ì] <;> omega) ⟨.int ys.length,H,I.tok _,⟨s.toks+1,by rw[Ì,hlen]⟩,q⟩
 ·obtain⟨its,r',pl,hz⟩:=I.tuple hq
  have hlen:=r'.length
  exact len_tuple pl (by simp only[Ì] <;> omega) ⟨.int ys.length,H,I.tok _,⟨s.toks+1,by rw[Ì,hlen]⟩,q⟩
def sV:bH X (.type "list") (λxs H Q=>∃p ys,xs=[.ref p]/\(SqL X.K H p ys\/SqT X.K H p ys)/\∀l,H l=none->Q (.ref l) (upd H l (.lst ys))):=by
 intro pins s σ H xs us Q I r h
 obtain⟨p,ys,rfl,hq,q⟩:=h
 obtain⟨u,rfl,rx⟩:=vals1 r
 cases rx
 have fin:∀(its:List Value),Vals ys its->ys.length<=sizeLine->∀(h':Heap) (c':Nat),(∀b o',s.heap.get? b=some o'->h'.get? b=some o') ->
   h'.get? s.heap.objs.size=some { cls:=.type "list",dict:=none,data:=.seq its.toArray c',slots:=#[] }->EP X pins σ Q (.ref s.heap.objs.size) { s with heap:=h' }:=λits r' hz h' c' kp e =>
  ⟨.ref s.heap.objs.size,_,I.laid (t':=s.toks) kp (Å _) (show bx X.prog X.w _ h' _ (.lst ys) from⟨hz,its,c',r',e⟩),rfl,q _ (I.hok.fresh (Å _))⟩
 rcases hq with hq|hq
 ·obtain⟨its,r',pl,hz⟩:=I.list hq
  have hlen:=r'.length
  obtain⟨o,ho,hc,n,hd⟩:=pl.isList
  exact call_list_seq p (.inl rfl) ho hc hd (λh' c' kp e=>fin its r' hz h' c' kp e) (by simp only[Ì] <;> omega)
 ·obtain⟨its,r',pl,hz⟩:=I.tuple hq
  have hlen:=r'.length
  obtain⟨o,ho,hc,n,hd⟩:=pl
  exact call_list_seq p (.inr rfl) ho hc hd (λh' c' kp e=>fin its r' hz h' c' kp e) (by simp only[Ì] <;> omega)
def pG:bH X (.type "tuple") (λxs H Q=>∃p ys,xs=[.ref p]/\((SqL X.K H p ys/\∀l,H l=none->Q (.ref l) (upd H l (.tup ys)))\/(SqT X.K H p ys/\Q (.ref p) H))):=by
 intro pins s σ H xs us Q I r h
 obtain⟨p,ys,rfl,h⟩:=h
 obtain⟨u,rfl,rx⟩:=vals1 r
 cases rx
 rcases h with ⟨hq,q⟩|⟨hq,q⟩
 ·obtain⟨its,r',pl,hz⟩:=I.list hq
  have hlen:=r'.length
  refine call_tuple_list pl.isList (λh' kp=>?_) (by simp only[Ì] <;> omega)
  have I1:Inv X pins σ H { s with heap:=h' }:=I.kept (t':=s.toks) kp
  have I2:Inv X pins σ (upd H h'.objs.size (.tup ys)) { s with heap:=h'.push { cls:=.type "tuple",data:=.seq its.toArray } } :=
   I1.laid (t':=s.toks) (λb o e=>Ç _ e) (Å _) (show bx X.prog X.w _ _ _ (.tup ys) from⟨hz,its,r',IsTup.new _ _⟩)
  exact⟨.ref h'.objs.size,_,I2,rfl,q _ (I1.hok.fresh (Å _))⟩
 ·obtain⟨its,r',pl,hz⟩:=I.tuple hq
  exact call_tuple_same pl ⟨.ref p,H,I,rfl,q⟩
def tyV(K:Ø)(T:String)(x:V)(H:Hp):Prop:=match x with
 |.str _=>T="str"
 |.int _=>T="int"
 |.ref p=>(T="list"/\∃xs,SqL K H p xs)\/(T="tuple"/\∃o,K.lookup p=some o/\o.cls=.type "tuple"/\o.dict=none) ∨
   (T="dict"/\((∃kvs,H p=some (.dK kvs))\/∃kvs,H p=some (.dT kvs)))\/(T="set"/\∃S n,H p=some (.set S n))
 |_=>False
def J2{pins:List (Addr×Obj)}{σ:St}{H:Hp}{s:Shared}{T:String}{x:V}{v:Value}(I:Inv X pins σ H s)(r:RelV x v)(ty:tyV X.K T x H) :
  s.TypeIs v T/\∀a,v=.ref a->∃ob,s.heap.get? a=some ob/\ob.dict=none:=by
 cases x with
 |str z =>
  obtain⟨t,rfl⟩:=r
  cases (show T="str" from ty)
  exact⟨typeIs_str s z t,λ_ e=>nomatch e⟩
 |int i =>
  obtain⟨t,rfl⟩:=r
  cases (show T="int" from ty)
  exact⟨typeIs_int s i t,λ_ e=>nomatch e⟩
 |ref p =>
  cases r
  rcases ty with ⟨rfl,xs,hq⟩|⟨rfl,o,hk,hc,hd⟩|⟨rfl,hk⟩|⟨rfl,S,n,hk⟩
  ·obtain⟨its,_,pl,_⟩:=I.list hq
   refine⟨pl.isList.typeIs,λa e=>?_⟩
   cases e
   obtain⟨o,n,e,c,hd,_⟩:=pl
   exact⟨o,e,hd⟩
  ·refine⟨⟨o,I.kIn p o hk,hc⟩,λa e=>?_⟩
   cases e
   exact⟨o,I.kIn _ o hk,hd⟩
  ·have z:∃o,s.heap.get? p=some o/\o.ExactDict:=by
    rcases hk with ⟨kvs,hk⟩|⟨kvs,hk⟩
    ·obtain⟨_,_,_,_,o,_,_,e,ex,_⟩:=I.hok p _ hk
     exact⟨o,e,ex⟩
    ·obtain⟨_,_,_,_,o,_,_,e,ex,_⟩:=I.hok p _ hk
     exact⟨o,e,ex⟩
   obtain⟨o,e,ex⟩:=z
   refine⟨⟨o,e,ex.1⟩,λa e2=>?_⟩
   cases e2
   exact⟨o,e,ex.2.1⟩
  ·obtain⟨o,_,_,_,e,ex,_⟩:=I.hok p _ hk
   refine⟨⟨o,e,ex.1⟩,λa e2=>?_⟩
   cases e2
   exact⟨o,e,ex.2.1⟩
 |_=>exact ė ty
def tBM(K:Ø)(T:String)(r:V->List V->Hp->VK->Prop)(to:TE)(t:TA):TE:=λσ H Q=>to σ H λx H1=>tyV K T x H1/\t σ H1 λxs H2=>r x xs H2 Q
variable {o e:Expr}{es:List Expr}{to:TE}{t:TA}{name:Str}{apos cpos:Pos}{T id:String}{r:V->List V->Hp->VK->Prop}
def yh(pa:PlainAttrs T)(slot:Slot T name id)(hty:typeOf (.builtin id)=pure (.type "method_descriptor"))(hm:MtR X id r)(ho:PE X o to)(ha:PA X (e::es) t)(hbase:attributeBase o name X.env (eval o X.env)=eval o X.env:=by rfl)(hfew:((backTo cpos (starEach (e::es) X.env)).all (λx=>!x.1)&&(backToKw cpos (keywordEach [] X.env)).all (λx=>x.1.isSome)
  &&decide ((e::es).length+([]:List Keyword).length+(if ([]:List Keyword).isEmpty then 0 else 1)<30))=true:=by rfl)(hline:(apos.endLine == cpos.line)=true:=by rfl)(hs:starEach (e::es) X.env=(false,eval e X.env)::starEach es X.env:=by rfl)(hplain:(backTo cpos (starEach es X.env)).any (·.1)=false:=by rfl) :
  PE X (.Call (.Attribute o name apos) (e::es) [] cpos) (tBM X.K T r to t):=by
 intro pins s σ H Q I h
 refine wpAny_Call_method_late hbase hfew hline rfl (thn (ho pins s σ H _ I h) λv s1 ⟨x,H1,I1,r1,ty,q1⟩=>?_)
 obtain⟨h1,h2⟩:=J2 I1 r1 ty
 refine⟨T,id,pa,slot,hty,h1,h2,?_⟩
 have hA:=ha cpos pins s1 σ H1 _ I1 q1
 rw[hs] at hA ⊢
 refine Calls.callWith_builtin (by show(false || (backTo cpos (starEach es X.env)).any (·.1))=false;rw[hplain] <;> rfl) (Calls.evalArgs_plain ?_)
 exact thn hA λus s2 ⟨vs,H2,I2,r2,q2⟩=>hm pins s2 σ H2 x vs v us Q I2 r1 r2 q2
/- xs.append(e),list.index on a module's tuple .. are MtR facts of 06m -/
end
def MtM(X:Cx)(id:String)(r:V->List V->Hp->VK->Prop):Prop :=
 ∀(pins:List (Addr×Obj)) (s:Shared) (σ:St) (H:Hp) (x:V) (xs:List V) (v:Value) (us:List Value) (Q:VK),Inv X pins σ H s->RelV x v->Vals xs us->r x xs H Q ->
  wpAny (model X.prog X.w) X.A (call (.builtin id) (v::us)) (EP X pins σ Q) X.xe s
def Vals.one:∀{x:V}{us:List Value},Vals [x] us->∃u,us=[u]/\RelV x u
 |_,_,.cons r .nil=>⟨_,rfl,r⟩
def Vals.eraseIdx:∀{xs:List V}{us:List Value} (i:Nat),Vals xs us->Vals (xs.eraseIdx i) (us.eraseIdx i)
 |_,_,_,.nil=>.nil
 |_,_,0,.cons _ t=>t
 |_,_,i+1,.cons r t=>.cons r (Vals.eraseIdx i t)
def Vals.reverse{xs:List V}{us:List Value}(h:Vals xs us):Vals xs.reverse us.reverse:=by
 induction h with
 |nil=>exact .nil
 |cons r t ih=>rw[List.reverse_cons,List.reverse_cons];exact Vals.append ih (.cons r .nil)
def Vals.rep{xs:List V}{us:List Value}(h:Vals xs us):∀k:Nat,Vals (Ï k xs).flatten (Ï k us).flatten
 |0=>.nil
 |k+1=>by
  rw[Ĳ,Ĳ,œ,œ]
  exact Vals.append h (Vals.rep h k)
def pX{α:Type}:∀(l:List α) (i:Nat),(l.eraseIdx i).length<=l.length
 |[],_=>Å _
 |_::_,0=>Ĥ _
 |_::r,i+1=>Nat.succ_le_succ (pX r i)
def foldl_rep(its:List Value):∀(k:Nat) (acc:List Value),
  List.foldl (λx1 x2=>x1++x2) acc.toArray (Ï k its.toArray)=(acc++(Ï k its).flatten).toArray
 |0,acc=>by simp
 |k+1,acc=>by
  have e:acc.toArray++its.toArray=(acc++its).toArray:=by simp
  have e2:(acc++its)++(Ï k its).flatten=acc++(Ï (k+1) its).flatten:=by
   rw[Ĳ,œ,ď]
  rw[←e2,←foldl_rep its k (acc++its),←e,Ĳ,List.foldl_cons]
section
variable {X:Cx}{pins:List (Addr×Obj)}{σ:St}{H:Hp}{s:Shared}{l b:Addr}{xs ys zs:List V}
def Inv.Lr{its its':List Value}{n:Nat}{f:Array Value->Array Value}{t':Nat}(I:Inv X pins σ H s)(hH:H l=some (.lst xs))(e:s.heap.get? l=some { cls:=.type "list",data:=.seq its.toArray n })(hf:f its.toArray=its'.toArray)(hv:Vals ys its')(hz:ys.length<=sizeLine) :
  Inv X pins σ (upd H l (.lst ys)) { s with heap:=s.heap.update l (Ô f),toks:=t' }:=by
 have q:=PySem.IsL.update e f
 rw[hf] at q
 refine I.write (x:=l) (e:=l) (by rw[hH];exact trivial) (.inl rfl) (λb' u hb hu=>(ġ s.heap (Ô f) (ę hb)).trans hu) ⟨_,q⟩ ?_
 exact⟨hz,its',_,hv,q⟩
def Inv.OJ{its:List Value}{t':Nat}(I:Inv X pins σ H s)(hv:Vals ys its)(hz:ys.length<=sizeLine) :
  Inv X pins σ (upd H s.heap.objs.size (.lst ys)) { s with heap:=s.heap.push { cls:=.type "list",data:=.seq its.toArray },toks:=t' } :=
 I.laid (λ_ _ q=>Ç _ q) (Å _) ⟨hz,its,0,hv,Û _ rfl⟩
def Inv.fresh(I:Inv X pins σ H s):H s.heap.objs.size=none:=I.hok.fresh (Å _)
def Inv.wF(I:Inv X pins σ H s)(hH:H l=some (.lst xs)):xs.length<=sizeLine/\∃(its:List Value) (n:Nat),Vals xs its/\xs.length=its.length/\s.heap.get? l=some { cls:=.type "list",data:=.seq its.toArray n }:=by
 obtain⟨z,its,n,r,e⟩:=I.hok l _ hH
 exact⟨z,its,n,r,r.length,e⟩
def uK{n:Nat}(h:n<=sizeLine):Ŗ n=false:=by
 unfold Ŗ
 exact decide_eq_false (by omega)
end
section
variable {X:Cx}
def qM:V->List V->Hp->VK->Prop:=λx vs H Q=>∃l xs y,x=.ref l/\vs=[y]/\H l=some (.lst xs)/\xs.length<sizeLine/\Q .non (upd H l (.lst (xs++[y])))
def pR:MtM X "list.append" qM:=by
 intro pins s σ H x vs v us Q I rx rv h
 obtain⟨l,xs,y,rfl,rfl,hH,hz,q⟩:=h
 cases rx
 obtain⟨u,rfl,ru⟩:=rv.one
 obtain⟨z,its,n,r,hl,e⟩:=I.wF hH
 refine call_meets F.slot_list_append ⟨_,e,rfl⟩ F.entry_list_append (F.args_list_append_2 _ _) (PySem.list_append l its.toArray n u (by rw[Ì];omega)) ⟨e,?_⟩
 refine⟨.non,_,I.Lr (its':=its++[u]) hH e (by simp) (r.append (.cons ru .nil)) ?_,rfl,q⟩
 rw[È,ĸ]
 omega
def xY:V->List V->Hp->VK->Prop:=λx vs H Q=>∃l b xs zs,x=.ref l/\vs=[.ref b]/\H l=some (.lst xs)/\H b=some (.lst zs)/\xs.length+zs.length<=sizeLine/\Q .non (upd H l (.lst (xs++zs)))
def Aa:MtM X "list.extend" xY:=by
 intro pins s σ H x vs v us Q I rx rv h
 obtain⟨l,b,xs,zs,rfl,rfl,hH,hB,hz,q⟩:=h
 cases rx
 obtain⟨u,rfl,ru⟩:=rv.one
 cases ru
 obtain⟨z,its,n,r,hl,e⟩:=I.wF hH
 obtain⟨z2,its2,n2,r2,hl2,e2⟩:=I.wF hB
 have hsz:its.toArray.size+its2.toArray.size<=sizeLine:=by rw[Ì,Ì];omega
 have hlong:¬(!its.toArray.isEmpty&&Ŗ (its.toArray.size+its2.toArray.size))=true:=by
  rw[uK hsz,Bool.and_false]
  exact Ð
 refine call_meets F.slot_list_extend ⟨_,e,rfl⟩ F.entry_list_extend (F.args_list_extend_2 _ _)
  (AutoSeq1.list_extend_list_list_0 l its.toArray n b its2.toArray n2 hlong (by rw[Ì];omega) (by omega)) ⟨e,e2,?_⟩
 refine⟨.non,_,I.Lr (its':=its++its2) hH e (by simp) (r.append r2) ?_,rfl,q⟩
 rw[È]
 omega
def Ku:V->List V->Hp->VK->Prop:=λx vs H Q=>∃l xs i k y,x=.ref l/\vs=[.int i]/\H l=some (.lst xs)/\-(2 ^ 63)<=i/\i<2 ^ 63/\seqIndex? i xs.length=some k/\xs[k]?=some y/\Q y (upd H l (.lst (xs.eraseIdx k)))
def Eh:MtM X "list.pop" Ku:=by
 intro pins s σ H x vs v us Q I rx rv h
 obtain⟨l,xs,i,k,y,rfl,rfl,hH,h1,h2,hk,hy,q⟩:=h
 cases rx
 obtain⟨u,rfl,ru⟩:=rv.one
 obtain⟨t,rfl⟩:=ru
 obtain⟨z,its,n,r,hl,e⟩:=I.wF hH
 obtain⟨w,hw,rw'⟩:=r.get hy
 refine call_meets F.slot_list_pop ⟨_,e,rfl⟩ F.entry_list_pop (F.args_list_pop_2 _ _)
  (MeetsSeq.list_pop_at l its.toArray n i t k w (fitsIndex_both h1 h2) (by rw[Ì,←hl];exact hk) (by rw[←č];exact hw) (by rw[Ì];omega)) ⟨e,?_⟩
 refine⟨y,_,I.Lr (its':=its.eraseIdx k) hH e ?_ (r.eraseIdx k) ?_,rw',q⟩
 ·show its.toArray.eraseIdxIfInBounds k=(its.eraseIdx k).toArray
  rw[List.eraseIdxIfInBounds_toArray]
 ·have:=pX xs k
  omega
def Oc:R2:=λx y H Q=>∃l b xs zs,x=.ref l/\y=.ref b/\H l=some (.lst xs)/\H b=some (.lst zs)/\xs.length+zs.length<=sizeLine/\∀p,H p=none->Q (.ref p) (upd H p (.lst (xs++zs)))
def wu:OpR X (binaryOp .Add) Oc:=by
 intro pins s σ H x y v u Q I rx ry h
 obtain⟨l,b,xs,zs,rfl,rfl,hH,hB,hz,q⟩:=h
 cases rx
 cases ry
 obtain⟨z,its,n,r,hl,e⟩:=I.wF hH
 obtain⟨z2,its2,n2,r2,hl2,e2⟩:=I.wF hB
 refine PySem.P.add_list e e2 ?_ (by rw[Ì,Ì];omega)
 have ea:its.toArray++its2.toArray=(its++its2).toArray:=by simp
 rw[ea]
 exact⟨.ref _,_,I.OJ (t':=s.toks) (r.append r2) (by rw[È];omega),rfl,q _ I.fresh⟩
def N6:R2:=λx y H Q=>∃l k xs,x=.ref l/\y=.int k/\H l=some (.lst xs)/\-(2 ^ 63)<=k/\k<2 ^ 63/\xs.length * k.toNat<=sizeLine /\
 ∀p,H p=none->Q (.ref p) (upd H p (.lst (Ï k.toNat xs).flatten))
def len_rep{α:Type}(xs:List α)(k:Nat):(Ï k xs).flatten.length=k * xs.length:=by
 induction k with
 |zero=>simp
 |succ k ih=>rw[Ĳ,œ,È,ih,Nat.succ_mul,Nat.add_comm]
def Dj:OpR X (binaryOp .Mult) N6:=by
 intro pins s σ H x y v u Q I rx ry h
 obtain⟨l,k,xs,rfl,rfl,hH,h1,h2,hz,q⟩:=h
 cases rx
 obtain⟨t,rfl⟩:=ry
 obtain⟨z,its,n,r,hl,e⟩:=I.wF hH
 have hlen:its.toArray.size * k.toNat<=sizeLine:=by rw[Ì,←hl];exact hz
 have hcap:¬its.toArray.size * k.toNat > (2 ^ 63 - 1) / 8:=by
  have:(sizeLine:Nat)<=(2 ^ 63 - 1) / 8:=by decide
  omega
 have hfit:¬(!Builtin.List.listFitsIndex k)=true:=by
  rw[fitsIndex_both h1 h2]
  exact Ð
 have hlong:¬Ŗ (its.toArray.size * k.toNat)=true:=by
  rw[uK hlen]
  exact Ð
 have hnew:List.foldl (λx1 x2=>x1++x2) #[] (Ï (if its.toArray.isEmpty=true then 0 else k.toNat) its.toArray)=(Ï k.toNat its).flatten.toArray:=by
  have f0:∀m:Nat,List.foldl (λx1 x2=>x1++x2) #[] (Ï m its.toArray)=(Ï m its).flatten.toArray:=λm=>by
   have:=foldl_rep its m []
   rw[List.nil_append] at this
   exact this
  rw[f0]
  cases its with
  |nil=>simp
  |cons a r'=>rw[if_neg (by simp)]
 refine wpAny_binaryOp_repeat_ref (T:="list") (U:="int") (by decide) ⟨_,e,rfl⟩ (λs'=>typeIs_int s' k t) noFill_list_mul F.fills_int_mul F.slot_int_rmul repeat_list F.slot_int_index.lookup
  (call_meets F.slot_int_rmul (typeIs_int s k t) F.entry_int_rmul (F.args_int_rmul_2 _ _) (int___rmul___int_list k t l its.toArray n)
   ⟨e,rfl,⟨_,e,rfl⟩,call_meets F.slot_list_mul ⟨_,e,rfl⟩ F.entry_list_mul (F.args_list_mul_2 _ _) (AutoListH.list___mul___list_int_3 l its.toArray n k t hfit hcap hlong) ⟨e,?_⟩⟩)
 rw[hnew]
 exact⟨.ref _,_,I.OJ (t':=s.toks) (r.rep k.toNat) (by rw[len_rep,Nat.mul_comm];exact hz),rfl,q _ I.fresh⟩
end
section
variable {prog:Program}{w:World}{A:Around}{E:Value->Shared->Prop}{s:Shared}
end
section
variable {X:Cx}
end
end L2
namespace Att
open PySem PySem.W PySem.Calls PyProof.Rows
def lY{P:Params}{h:Heap}:∀(ns:List Int) (vs:List Value),WellAll P h vs (ns.map WData.int)->IntsAre vs ns:=by
 intro ns
 induction ns with
 |nil =>
  intro vs w
  rw[List.map_nil] at w
  cases w
  exact .nil
 |cons n ns ih =>
  intro vs w
  rw[ë] at w
  cases w with
  |cons a b =>
   cases a
   exact .cons _ _ (ih _ b)
def zJ{l:OpenLaw}{n:Nat}(hn:l.most=some n){P:Params}{h:Heap}{args:List WData}{vals:List Value}(hpre:l.row.toRowW.claim.pre args=true)(hwl:WellAll P h vals args) :
  ∃a vs ns,vals=[ĕ a]/\args=[WData.list (ns.map WData.int)]/\h.get? a=some { cls:=.type "list",data:=.seq vs.toArray }/\IntsAre vs ns/\ns.length<=n:=by
 have hsh:WShape.hasAll [] args [.list .int]=true:=(pre_splitW hpre).1
 have hc:l.pre.holds [] { args:=args }=true:=(pre_splitW hpre).2
 obtain⟨d,r,rfl,h1,h2⟩:=hasAllW_cons hsh
 obtain rfl:=hasAllW_nil h2
 obtain⟨xs,rfl,h3⟩:=hasW_list h1
 obtain⟨ns,rfl⟩:=items_int h3
 have hlen:ns.length<=n:=by
  unfold OpenLaw.pre at hc
  have h4:(WTm.not (.lt (.lit (.int (n:Int))) (.len (.arg 0)))).holds [] { args:=[.list (ns.map .int)] }=true:=by
   have h4:=(holds_andW hc).1
   rw[hn] at h4
   exact h4
  have h5:=condW_of h4 (w_not (w_lt w_lit (w_len_list (w_arg rfl))))
  rw[Á] at h5
  refine Nat.le_of_not_lt λq=>?_
  have q':(n:Int)<((ns.length:Nat):Int):=by omega
  first
   |(rw[decide_eq_true q'] at h5;exact absurd h5 (by decide))
   |(simp at h5;omega)
 cases hwl with
 |cons w1 w2 =>
  cases w2
  cases w1 with
  |list ho hall=>exact⟨_,_,ns,rfl,rfl,ho,lY ns _ hall,hlen⟩
def zO(l:OpenLaw)(args:List WData):l.row.toRowW.claim.post args (.bool true) args=true :=
 postW_of (r:=l.row.toRowW) (X:=(true == true))
  (show WShape.has [] (.bool true) .bool=true by first|rfl|decide|simp[WShape.has,WShape.arms,WShape.armsAll])
  (show(WTm.eq .res (.lit (.bool true))).value [] { args:=args,res:=some (.bool true),after:=args }=some (.bool (true == true)) from w_eq_bool (w_res rfl) w_lit) rfl
def vh{l:OpenLaw}{n:Nat}{q:Program}{loose:List Str}{XP:(Str->Option Value)->Heap->Prop}{YP:World->Heap->Prop}{d:DefRec}(hn:l.most=some n)(hdf:d.params.defaults=[])(call:∀(w:World) (s₀ s₁:Shared) (mg mb:Str->Option Value) (fa:Addr) (o:Obj) (pm cd doc:Value) (a:Addr) (vs:List Value) (ns:List Int),
   Ground q loose [] XP w s₀ mg mb s₁.heap->YP w s₁.heap ->
   s₁.heap.get? fa=some o->o.data=.func (docDef d.name d.params d.body d.scope pm cd doc)->s₁.heap.CodeRec cd d.name->mg d.name=some (.ref fa) ->
   s₁.heap.get? a=some { cls:=.type "list",data:=.seq vs.toArray }->IntsAre vs ns->ns.length<=n->s₁.gens=#[] ->
   codeAny (model l.prog w) callerA (.call (.ref fa) ⟨[.ref a],[]⟩) (λr s'=>r=.ok (.ret (.bool true))/\OldK s₁.heap s'.heap/\s'.os=s₁.os/\AllBare s'.gens) s₁) :
  WalkO q loose XP YP l.row.toRowW d [] (λf vs=>PySem.call f vs):=by
 intro w s₀ s₁ mg mb G Y fa o pm cd doc dV kV ho hd hcd hD hmg hg args vals as hpre hlay hrd hwl hlo
 obtain rfl:dV=.none:=Dflts.none hD hdf
 obtain rfl:kV=.none:=Dflts.noKw hD
 obtain⟨a,vs,ns,rfl,rfl,hobj,hints,hlen⟩:=zJ hn hpre hwl
 refine enter_call (codeAny_mono (call w s₀ s₁ mg mb fa o pm cd doc a vs ns G Y ho (fd_plain hd) hcd hmg hobj hints hlen hg) λr s' hq=>?_)
 obtain⟨rfl,h2,h3,h4⟩:=hq
 exact⟨.inl ⟨.bool true,.bool true,[],rfl,λ_=>rfl,.bool true,zO l _,λ_=>⟨List.Pairwise.nil,λ_ hm=>(nomatch hm)⟩⟩,h2,h3,h4⟩
section
variable {prog:Program}{w:World}{A:Around}{E:Value->Shared->Prop}{s:Shared}{K:Frag}
def ledger(h:Heap)(L d:Addr):List (Addr×Obj):=(ä h.objs.size).filterMap λa=>if a=L\/a=d then none else (h.get? a).map λo=>(a,o)
end
end Att
namespace L2
open PySem PySem.Spec PyProof.Rows
def pH:∀{vs:List Value}{ns:List Int},IntsAre vs ns->Vals (ns.map V.int) vs
 |_,_,.nil=>.nil
 |_,_,.cons n t h=>.cons ⟨t,rfl⟩ (pH h)
def eU(s:Stmt):Arguments:=match s with
 |.FunctionDef _ a _ _ _ _ _ _ _ _=>a
 |_=>{ posonlyargs:=[],args:=[],vararg:=none,kwonlyargs:=[],kw_defaults:=[],kwarg:=none,defaults:=[] }
def bQ(s:Stmt):List Stmt:=match s with
 |.FunctionDef _ _ b _ _ _ _ _ _ _=>b
 |_=>[]
def aj(s:Stmt):Scope:=match s with
 |.FunctionDef _ _ _ _ _ _ sc _ _ _=>sc
 |_=>{ kind:=.function,names:=[],isGenerator:=false,isCoroutine:=false }
abbrev CX0:CXT:=λ_ _ _ _ _ _=>False
abbrev E0:XK:=λ_ _ _=>False
def Oo{X:Cx}:Passes CX0 X E0:=λ_ _ _ _ _ _ _ h=>h.elim
structure Fun(K:Ø)(x qual:Str)(st:Stmt)(f:Addr)(fd:FuncData):Prop where
 ex:∃(oc:Value) (od:Option Addr) (kV doc pm:Value) (an:Option Addr) (cdv ct:Value) (osl:Array (Option Value)),
  fd=W.fnOf x qual (eU st) (bQ st) (aj st) .none kV doc pm an cdv ct/\K.lookup f=some ⟨oc,od,.func fd,osl⟩/\W.codeIn K cdv qual=true
 kp:W.keepIn K (.ref f)=true
section
variable {P:Program}{w:World}{K:Ø}{mg:Str->Option Value}{base:Heap}
def Fun.ok{x qual:Str}{st:Stmt}{f:Addr}{fd:FuncData}{N ps:List Str}{k:Nat}{sp:Sp}(F:Fun K x qual st f fd)(S:FnScope N ps (aj st))(len:∀vs H Q E,sp vs H Q E->vs.length=ps.length)(hbody:∀(cdv:Value) (A:Around) (outer:List Env) (s:Shared) (H:Hp) (vs:List V) (Q:VK) (E:XK),Room k (A.deeper (envOfC qual (aj st) s.heap.objs.size f cdv))->sp vs H Q E ->
   ∃t,PSs (wZ CX0 P w K mg base N qual (aj st) f cdv A outer s H E).nox (bQ st) t/\t { nx:=λ_ H'=>Q .non H',rt:=Q } (start N vs) H):FnOk P w K mg base CX0 (k+1) f fd ps sp:=by
 obtain⟨oc,od,kV,doc,pm,an,cdv,ct,osl,rfl,lk,hcd⟩:=F.ex
 refine JV lk hcd S len λA outer s H vs Q E hr hsp=>?_
 obtain⟨t,h,q⟩:=hbody cdv A outer s H vs Q E hr hsp
 exact⟨t,h.nox,q⟩
def Fun.binds{x qual:Str}{st:Stmt}{f:Addr}{fd:FuncData}{ps:List Str}(F:Fun K x qual st f fd)(h:∀(kV doc pm:Value) (an:Option Addr) (cdv ct:Value) (us:List Value),us.length=ps.length->bindArgs (W.fnOf x qual (eU st) (bQ st) (aj st) .none kV doc pm an cdv ct) ⟨us,[]⟩=pure (ps.zip us):=by intro _ _ _ _ _ _ us hl;first|(obtain⟨_,rfl⟩:=Nf.len1 us hl;rfl)|(obtain⟨_,_,rfl⟩:=Nf.len2 us hl;rfl)|(obtain⟨_,_,_,rfl⟩:=Nf.QM us hl;rfl)):Binds K fd ps []:=by
 obtain⟨oc,od,kV,doc,pm,an,cdv,ct,osl,rfl,lk,hcd⟩:=F.ex
 exact .all (h kV doc pm an cdv ct)
def Mp{x qual:Str}{st:Stmt}{f:Addr}{oc:Value}{od an:Option Addr}{osl:Array (Option Value)}{kV doc pm cdv ct:Value}(l:K.lookup f=some ⟨oc,od,.func (W.fnOf x qual (eU st) (bQ st) (aj st) .none kV doc pm an cdv ct),osl⟩)(c:W.codeIn K cdv qual=true)(k:W.keepIn K (.ref f)=true):Fun K x qual st f (W.fnOf x qual (eU st) (bQ st) (aj st) .none kV doc pm an cdv ct):=⟨⟨oc,od,kV,doc,pm,an,cdv,ct,osl,rfl,l,c⟩,k⟩
end
section
variable {X:Cx}
def pv(i:Nat){x:Str}{pos:Pos}(hN:X.N[i]?=some x:=by rfl)(hv:Vis X.env.scope x:=by first|exact Ň rfl|exact Or.inr (Ň rfl)|exact Or.inr (Or.inr rfl))(hd:(x == ("__debug__":Str))=false:=by decide)(hcd:(x == ("__classdict__":Str))=false:=by decide):PE X (.Name x pos) (vJ i):=KC hN hv hd hcd
end
def bw{A B:Prop}(h:B):if false=true then A else B:=by
 rw[if_neg Ð]
 exact h
def bf{A B:Prop}(h:A):if true=true then A else B:=by
 rw[if_pos rfl]
 exact h
def d7{c A B:Prop}[Decidable c](h1:c->A)(h2:¬c->B):if c then A else B:=by
 by_cases h:c
 ·rw[if_pos h]
  exact h1 h
 ·rw[if_neg h]
  exact h2 h
def Same(H H':Hp):Prop:=∀b o,H b=some o->H' b=some o
def Same.refl(H:Hp):Same H H:=λ_ _ h=>h
def Same.trans{H H1 H2:Hp}(a:Same H H1)(b:Same H1 H2):Same H H2:=λc o h=>b c o (a c o h)
structure CB where
 cl:List (Str×Addr)
 C:Addr
 s:Shared
 H:Hp
 ex:List Addr
abbrev Cx.bD(X:Cx)(own M:List Str)(scope:Scope)(c:CB):Cx where
 prog:=X.prog
 w:=X.w
 K:=X.K
 mg:=X.mg
 base:=X.base
 A:=X.A
 N:=own++M
 s₀:=c.s
 H₀:=c.H
 env:=compEnvC scope c.cl c.C X.env
 outer:=X.stack
 stack:=X.stack
 ex:=c.ex
 fn:=λx=>scope.names.lookup x == some .cell
 calm:=X.calm
 pn:=[]
 sf:=X.sf
 xe:=λ_ _=>False
abbrev Cx.comp(X:Cx)(own:List Str)(scope:Scope)(c:CB):Cx:=X.bD own X.N scope c
def cB(cells:List (Str×Addr)):List (Str×NameKind)->List (Str×Addr)->List (Str×Addr)
 |[],acc=>acc
 |(n,k)::r,acc=>if k == .free then cB cells r ((n,(cells.lookup n).getD 0)::acc) else cB cells r acc
def gA{env:Env}:∀(names:List (Str×NameKind)) (acc:List (Str×Addr)),(∀x∈names,x.2=.free->∃c,env.cells.lookup x.1=some c) ->
  (forIn names acc λ(p:Str×NameKind) (r:List (Str×Addr))=>match p with
   |(name,kind)=>if (kind == ê)=true then do let a ←cellOf env name;pure (đ ((name,a)::r)) else pure (đ r):Sem (List (Str×Addr)))=pure (cB env.cells names acc)
 |[],acc,_=>by simp[cB]
 |(n,k)::r,acc,h=>by
  rw[List.forIn_cons]
  by_cases hk:(k == ê)=true
  ·obtain⟨c,hc⟩:=h (n,k) Ú (by simpa using hk)
   have e:cellOf env n=pure c:=by unfold cellOf;rw[hc]
   have ih:=gA (env:=env) r ((n,c)::acc) λx hx=>h x (Õ _ hx)
   show((if (k == ê)=true then do let a ←cellOf env n;pure (đ ((n,a)::acc)) else pure (đ acc)) >>= _:Sem _)=_
   rw[if_pos hk,e]
   unfold cB
   rw[if_pos hk,hc]
   exact ih
  ·have ih:=gA (env:=env) r acc λx hx=>h x (Õ _ hx)
   show((if (k == ê)=true then do let a ←cellOf env n;pure (đ ((n,a)::acc)) else pure (đ acc)) >>= _:Sem _)=_
   rw[if_neg hk]
   unfold cB
   rw[if_neg hk]
   exact ih
def xg{scope:Scope}{env:Env}(h:∀x∈scope.names,x.2=.free->∃c,env.cells.lookup x.1=some c):closureFor scope env=pure (cB env.cells scope.names []):=by
 have e:=gA (env:=env) scope.names [] h
 unfold closureFor
 show(forIn scope.names [] _ >>= λcs=>pure cs:Sem _)=_
 have e2:(forIn scope.names ([]:List (Str×Addr)) λ(p:Str×NameKind) (r:List (Str×Addr))=>match p with
   |(name,kind)=>if (kind == ê)=true then do let a ←cellOf env name;pure (đ ((name,a)::r)) else pure (đ r):Sem (List (Str×Addr)))=pure (cB env.cells scope.names []):=e
 rw[e2]
 rfl
def jY{cells:List (Str×Addr)}{x:Str}{c:Addr}:∀{names:List (Str×NameKind)}{acc:List (Str×Addr)},(cB cells names acc).lookup x=some c->acc.lookup x=some c\/((x,ê)∈names/\c=(cells.lookup x).getD 0)
 |[],acc,h=>.inl h
 |(n,k)::r,acc,h=>by
  unfold cB at h
  by_cases hk:(k == ê)=true
  ·rw[if_pos hk] at h
   have hk':k=.free:=by simpa using hk
   rcases jY h with q|⟨q1,q2⟩
   ·rw[ô] at q
    cases hx:x == n with
    |true =>
     rw[hx] at q
     have e:x=n:=by simpa using hx
     subst e hk'
     exact .inr ⟨Ú,(ß q).symm⟩
    |false=>rw[hx] at q;exact .inl q
   ·exact .inr ⟨Õ _ q1,q2⟩
  ·rw[if_neg hk] at h
   rcases jY h with q|⟨q1,q2⟩
   ·exact .inl q
   ·exact .inr ⟨Õ _ q1,q2⟩
def o8{cells:List (Str×Addr)}{x:Str}:∀{names:List (Str×NameKind)}{acc:List (Str×Addr)},(acc.lookup x).isSome=true->((cB cells names acc).lookup x).isSome=true
 |[],_,h=>h
 |(n,k)::r,acc,h=>by
  unfold cB
  split
  ·refine o8 ?_
   rw[ô]
   cases hx:x == n <;> simp[h]
  ·exact o8 h
def iH{cells:List (Str×Addr)}{x:Str}:∀{names:List (Str×NameKind)}{acc:List (Str×Addr)},(x,ê)∈names->((cB cells names acc).lookup x).isSome=true
 |(n,k)::r,acc,h=>by
  unfold cB
  rcases Ē.mp h with e|h
  ·cases e
   rw[if_pos (by rfl)]
   exact o8 (by simp[ô])
  ·split
   ·exact iH h
   ·exact iH h
def d8(env:Env)(scope:Scope)(N:List Str):Bool :=
 (scope.kind == .function)&&scope.names.all λy=>match y.2 with
  |.local=>!(N.contains y.1)&&(scope.names.lookup y.1 == some .local)
  |.cell=>!(N.contains y.1)&&(scope.names.lookup y.1 == some .cell)
  |.free=>(scope.names.lookup y.1 == some .free)&&(env.kindOf y.1 == some .cell || env.kindOf y.1 == some .free)
  |_=>true
def cg{env:Env}:∀{names:List (Str×NameKind)}{x:Str}{q:NameKind},(names.map λ(n,k)=>if (k == ê&&env.scope.kind == .function&&env.kindOf n == some .cell) then (n,ø) else (n,k)).lookup x=some q ->
  ∃k,(x,k)∈names/\names.lookup x=some k/\(q=k\/(q=.cell/\k=.free))
 |[],_,_,h=>by simp at h
 |(n,k)::r,x,q,h=>by
  have ih:=@cg env r x q
  have h':List.lookup x ((if (k == ê&&env.scope.kind == .function&&env.kindOf n == some .cell)=true then (n,ø) else (n,k))::(r.map λ(n,k)=>if (k == ê&&env.scope.kind == .function&&env.kindOf n == some .cell) then (n,ø) else (n,k)))=some q:=h
  by_cases hc:(k == ê&&env.scope.kind == .function&&env.kindOf n == some .cell)=true
  ·rw[if_pos hc,ô] at h'
   cases hx:x == n with
   |true =>
    rw[hx] at h'
    have e:x=n:=by simpa using hx
    subst e
    have hk:k=.free:=by simp at hc;exact hc.1.1
    exact⟨k,Ú,by simp[ô],.inr ⟨(ß h').symm,hk⟩⟩
   |false =>
    rw[hx] at h'
    obtain⟨k',h1,h2,h3⟩:=ih h'
    exact⟨k',Õ _ h1,by rw[ô,hx];exact h2,h3⟩
  ·rw[if_neg hc,ô] at h'
   cases hx:x == n with
   |true =>
    rw[hx] at h'
    have e:x=n:=by simpa using hx
    subst e
    exact⟨k,Ú,by simp[ô],.inl (ß h').symm⟩
   |false =>
    rw[hx] at h'
    obtain⟨k',h1,h2,h3⟩:=ih h'
    exact⟨k',Õ _ h1,by rw[ô,hx];exact h2,h3⟩
def HOk.track{P:Program}{w:World}{H:Hp}{h:Heap}{a:Addr}{o:HO}(x:HOk P w H h)(hn:H a=none)(new:bx P w (upd H a o) h a o):HOk P w (upd H a o) h:=λb u e=>by
 by_cases hb:b=a
 ·subst hb;rw[ao] at e;cases e;exact new
 ·rw[ak hb] at e
  exact(x b u e).stay (λc v _ q=>q) (λc q=>by rw[ak (aD q hn)];exact q) λc xs q=>by rw[ak (aD q hn)];exact q
def Ao{prog:Program}{w:World}{A:Around}{s:Shared}{elt target iter:Expr}{ifs:List Expr}{scope:Scope}{pos:Pos}{it acc:Value}{env:Env}{R:Result->Shared->Prop}(I:Nat->Shared->Prop)(turn:∀n s,I n s->wpAny (model prog w) A (pyNext it) (λr s₁=>match r with
   |none=>R (.ok .next) s₁
   |some v=>wpAny (model prog w) A (letOwnedTupleGo target it v) (λ_ s₀=>wpAny (model prog w) A (assign target env v) (λ_ s₂ =>
     wpAny (model prog w) A (forIn ifs true λc r=>if r=true then do let ok ←isTrue c env (eval c env);pure (đ ok) else pure (đ r)) (λok s₃ =>
      if ok=true then wpAny (model prog w) A (eval elt env) (λx s₄ =>
       wpAny (model prog w) A (call (.builtin "list.append") [acc,x]) (λ_ s₅=>∃m,m<n/\I m s₅) (λ_ _=>False) s₄) (λ_ _=>False) s₃
      else ∃m,m<n/\I m s₃) (λ_ _=>False) s₂) (λ_ _=>False) s₀) (λ_ _=>False) s₁) (λ_ _=>False) s)(n:Nat)(h:I n s):codeAny (model prog w) A (.compLoop (.ListComp elt [⟨target,iter,ifs,0⟩] scope pos) 0 it acc env) R s:=by
 refine codeAny_loop rfl I (λn s hI=>?_) n h
 show wpAny _ A ((compTurn (.ListComp elt [⟨target,iter,ifs,0⟩] scope pos) 0 it acc env).onRaise (λx=>do noteFrame x env;theTreesLotGoes x)) _ _ s
 refine wpAny_noted ?_
 rw[compTurn_list]
 refine Ã (wpAny_standAt (Ã (Ĵ (turn n s hI) (λr s₁ h₁=>?_) λ_ _ h'=>h'.elim)))
 cases r with
 |none=>exact Ñ h₁
 |some v =>
  refine Ã (Ĵ h₁ (λ_ s₀ h₀'=>?_) λ_ _ h'=>h'.elim)
  refine Ã (Ĵ h₀' (λ_ s₂ h₂=>Ã (Ĵ h₂ (λok s₃ h₃=>?_) λ_ _ h'=>h'.elim)) λ_ _ h'=>h'.elim)
  cases ok with
  |false=>exact Ñ ⟨rfl,h₃⟩
  |true =>
   exact Ã (Ã (Ĵ h₃ (λx s₄ h₄=>Ã (Ĵ h₄ (λ_ s₅ h₅=>Ñ (Ñ ⟨rfl,h₅⟩)) λ_ _ h'=>h'.elim)) λ_ _ h'=>h'.elim))
def PTs(X:Cx)(ifs:List Expr)(t:TT):Prop :=
 ∀(pins:List (Addr×Obj)) (s:Shared) (σ:St) (H:Hp) (Q:Bool->Hp->Prop),Inv X pins σ H s->t σ H Q ->
  wpAny (model X.prog X.w) X.A (forIn ifs true λc r=>if r=true then do let ok ←isTrue c X.env (eval c X.env);pure (đ ok) else pure (đ r)) (TP X pins σ Q) X.xe s
def yd{X:Cx}:PTs X [] (λ_ H Q=>Q true H):=λ_ _ _ H _ I h=>wpAny_tests_nil ⟨H,I,h⟩
def yc{X:Cx}{c:Expr}{t:TT}(hc:PT X c t):PTs X [c] t:=λpins s σ H Q I h=>wpAny_tests_one (hc pins s σ H Q I h)
def GF(J:It)(n:Nat)(g:CB->TG)(tt:CB->TT)(te:CB->TE)(σ:St)(Q:VK)(H:Hp):Prop:=∃W:Nat->Nat->List V->Hp->Prop,(∃m,W 0 m [] H)/\∀(c:CB) i m ys H,W i m ys H ->
 (J.stop i H/\∀p,H p=none->Q (.ref p) (upd H p (.lst ys))) ∨
 (J.go i H/\ys.length<sizeLine/\∃N:List V->Hp->Prop,(∀ys' H',N ys' H'->∃m',m'<m/\W (i+1) m' ys' H')/\∀x H',J.yld i H x H'->g c x (Ï n none++σ) H' λσ2 H2=>tt c σ2 H2 λb H3 =>
  if b=true then te c σ2 H3 λv H4=>N (ys++[v]) H4 else N ys H3)
def tLC(n:Nat)(wi:TI)(g:CB->TG)(tt:CB->TT)(te:CB->TE):TE:=λσ H Q=>wi σ H λJ H1=>GF J n g tt te σ Q H1
section
variable {X:Cx}{own:List Str}{scope:Scope}{tg iter elt:Expr}{ifs:List Expr}{pos:Pos}{wi:TI}{g:CB->TG}{tt:CB->TT}{te:CB->TE}
def aV(env:Env)(scope:Scope)(N M:List Str):Bool :=
 d8 env scope M&&((N.length == M.length)&&(N.zip M).all λy=>y.1 == y.2 || ((y.2 == ("":Str))&&scope.names.all λz=>!(z.1 == ("":Str))))
def u6{env:Env}{N:List Str}(h:d8 env scope N=true):aV env scope N N=true:=by
 unfold aV
 rw[h,Bool.true_and,beq_self_eq_true,Bool.true_and,Č]
 rintro⟨a,b⟩ hy
 obtain⟨i,hi,e⟩:=ī.mp hy
 rw[List.getElem_zip] at e
 cases e
 simp
variable {M:List Str}
def dG(h:aV X.env scope X.N M=true):scope.kind=.function:=by
 unfold aV d8 at h
 simp only[Ý,beq_iff_eq] at h
 exact h.1.1
def bG(h:aV X.env scope X.N M=true):∀y∈scope.names,(y.2=.local->y.1∉M/\scope.names.lookup y.1=some .local)/\(y.2=.cell->y.1∉M/\scope.names.lookup y.1=some .cell)/\(y.2=.free->scope.names.lookup y.1=some .free/\(X.env.kindOf y.1=some .cell\/X.env.kindOf y.1=some .free)):=by
 unfold aV at h
 rw[Ý] at h
 have h:=h.1
 unfold d8 at h
 rw[Ý,Č] at h
 intro y hy
 have q:=h.2 y hy
 obtain⟨n,k⟩:=y
 cases k with
 |«local»=>simp at q ⊢;exact q
 |cell=>simp at q ⊢;exact q
 |free=>simp at q ⊢;exact q
 |globalExplicit=>simp
 |globalImplicit=>simp
def aU:∀(names:List (Str×NameKind)) (n:Nat) (acc:List (Str×Addr)),cellsFrom n names acc=cellsFrom n names []++acc
 |[],_,_=>rfl
 |(nm,k)::r,n,acc=>by
  show(if (k == ø)=true then cellsFrom (n+1) r ((nm,n)::acc) else cellsFrom n r acc)=(if (k == ø)=true then cellsFrom (n+1) r [(nm,n)] else cellsFrom n r [])++acc
  split
  ·rw[aU r (n+1) ((nm,n)::acc),aU r (n+1) [(nm,n)],ď]
   rfl
  ·exact aU r n acc
def dI:∀(names:List (Str×NameKind)) (n:Nat) (x:Str) (c:Addr),(x,c)∈cellsFrom n names []->(x,ø)∈names/\n<=c
 |[],_,_,_,h=>nomatch h
 |(nm,k)::r,n,x,c,h=>by
  have h:(x,c)∈(if (k == ø)=true then cellsFrom (n+1) r [(nm,n)] else cellsFrom n r []):=h
  split at h
  ·rename_i hk
   rw[aU] at h
   rcases Ù.mp h with z|z
   ·obtain⟨h1,h2⟩:=dI r (n+1) x c z
    exact⟨Õ _ h1,by omega⟩
   ·have z:(x,c)=(nm,n):=by simpa using z
    cases z
    have hk:k=.cell:=by simpa using hk
    subst hk
    exact⟨Ú,Å _⟩
  ·obtain⟨h1,h2⟩:=dI r n x c h
   exact⟨Õ _ h1,h2⟩
def lC:∀(names:List (Str×NameKind)) (n:Nat) (x y:Str) (c:Addr),(x,c)∈cellsFrom n names []->(y,c)∈cellsFrom n names []->x=y
 |[],_,_,_,_,h,_=>nomatch h
 |(nm,k)::r,n,x,y,c,h,h'=>by
  have h:(x,c)∈(if (k == ø)=true then cellsFrom (n+1) r [(nm,n)] else cellsFrom n r []):=h
  have h':(y,c)∈(if (k == ø)=true then cellsFrom (n+1) r [(nm,n)] else cellsFrom n r []):=h'
  by_cases hk:(k == ø)=true
  ·rw[if_pos hk,aU] at h h'
   rcases Ù.mp h with z|z <;> rcases Ù.mp h' with z'|z'
   ·exact lC r (n+1) x y c z z'
   ·have:=(dI r (n+1) x c z).2
    have z':(y,c)=(nm,n):=by simpa using z'
    cases z'
    exact absurd this (Nat.not_succ_le_self _)
   ·have:=(dI r (n+1) y c z').2
    have z:(x,c)=(nm,n):=by simpa using z
    cases z
    exact absurd this (Nat.not_succ_le_self _)
   ·have z:(x,c)=(nm,n):=by simpa using z
    have z':(y,c)=(nm,n):=by simpa using z'
    cases z
    cases z'
    rfl
  ·rw[if_neg hk] at h h'
   exact lC r n x y c h h'
def iQ:∀(names:List (Str×NameKind)) (h:Heap) (b:Addr) (o:Obj),h.get? b=some o->(pushCells h names).get? b=some o
 |[],_,_,_,e=>e
 |(nm,k)::r,h,b,o,e=>by
  show(if (k == ø)=true then pushCells (h.push { cls:=ā "cell",data:=Data.cell none }) r else pushCells h r).get? b=some o
  split
  ·exact iQ r _ b o (Ç _ e)
  ·exact iQ r h b o e
def kj:∀(names:List (Str×NameKind)) (h:Heap) (x:Str) (c:Addr),(x,c)∈cellsFrom h.objs.size names []->(pushCells h names).IsCell c none
 |[],_,_,_,e=>nomatch e
 |(nm,k)::r,h,x,c,e=>by
  have e:(x,c)∈(if (k == ø)=true then cellsFrom (h.objs.size+1) r [(nm,h.objs.size)] else cellsFrom h.objs.size r []):=e
  show(if (k == ø)=true then pushCells (h.push { cls:=ā "cell",data:=Data.cell none }) r else pushCells h r).IsCell c none
  by_cases hk:(k == ø)=true
  ·rw[if_pos hk,aU] at e
   rw[if_pos hk]
   rcases Ù.mp e with z|z
   ·exact kj r _ x c (by rw[Ń];exact z)
   ·have z:(x,c)=(nm,h.objs.size):=by simpa using z
    cases z
    exact⟨_,iQ r _ _ _ (Û _ rfl),rfl⟩
  ·rw[if_neg hk] at e ⊢
   exact kj r h x c e
def wB{M:Model}{A:Around}{E:Value->Shared->Prop}{s:Shared}{scope:Scope}{globals:Addr}{closure:List (Str×Addr)}{qual:Str}{func:Option Addr}{code:Value}{around:Option Env}{builtins:Addr}{Q:Env->Shared->Prop}(h:Q (newEnv scope s.heap.objs.size globals (cellsFrom (s.heap.objs.size+1) scope.names closure) qual func code around builtins) { s with heap:=pushCells (s.heap.push { cls:=ā (if around.isSome=true then "dict" else "frame"),data:=Data.dict #[] }) scope.names }) :
  wpAny M A (newFunctionEnv scope globals closure [] qual func code around builtins) Q E s:=by
 unfold newFunctionEnv
 refine Ã (wpAny_alloc ?_)
 refine Ã (wpAny_layCells _ (λ_ _ _=>rfl) _ _ _ _ ?_)
 rw[Ń]
 exact Ã (Ñ (Ñ h))
def Mz{n:Nat}{names:List (Str×NameKind)}{cl:List (Str×Addr)}{x:Str}{c:Addr}(h:(cellsFrom n names cl).lookup x=some c):(x,c)∈cellsFrom n names []\/cl.lookup x=some c:=by
 rw[aU,List.lookup_append] at h
 cases e:(cellsFrom n names []).lookup x with
 |none=>rw[e] at h;exact .inr h
 |some d =>
  rw[e] at h
  cases h
  exact .inl (ĉ e)
def Gu{n:Nat}{names:List (Str×NameKind)}{cl:List (Str×Addr)}{x:Str}(h:∀c,(x,c)∈cellsFrom n names []->False):(cellsFrom n names cl).lookup x=cl.lookup x:=by
 rw[aU,List.lookup_append]
 cases e:(cellsFrom n names []).lookup x with
 |none=>rfl
 |some d=>exact(h d (ĉ e)).elim
def uW(h:aV X.env scope X.N M=true){n:Nat}{x:Str}(hx:(x,ê)∈scope.names):∀c,(x,c)∈cellsFrom n scope.names []->False:=λc z=>by
 have h1:=((bG h _ hx).2.2 rfl).1
 have h2:=((bG h _ (dI _ _ _ _ z).1).2.1 rfl).2
 rw[h1] at h2
 cases h2
def iG(h:aV X.env scope X.N M=true):X.N.length=M.length:=by
 unfold aV at h
 rw[Ý,Ý] at h
 exact eq_of_beq h.2.1
def qj{i:Nat}{x:Str}{k:NameKind}(h:aV X.env scope X.N M=true)(hx:M[i]?=some x)(_:x∈M)(hn:(x,k)∈scope.names):X.N[i]?=some x:=by
 have hl:=iG h
 unfold aV at h
 rw[Ý,Ý,Č] at h
 have hi:i<M.length:=(Ö.mp hx).1
 have hx':M[i]=x:=(Ö.mp hx).2
 have hi':i<X.N.length:=by omega
 have q:=h.2.2 (X.N[i],M[i]) (by
  refine List.mem_iff_getElem.mpr ⟨i,by rw[ũ];omega,?_⟩
  rw[List.getElem_zip])
 rw[Bool.or_eq_true] at q
 rcases q with q|q
 ·have q:X.N[i]=M[i]:=eq_of_beq q
  rw[Ä hi',q,hx']
 ·rw[Ý,Č] at q
  have e:M[i]=("":Str):=eq_of_beq q.1
  have z:=q.2 (x,k) hn
  rw[←hx',e] at z
  simp at z
def w6{pins:List (Addr×Obj)}{σ:St}{H:Hp}{s:Shared}{fp:List Addr}{h₁:Heap}{tk:Nat}(hk:aV X.env scope X.N M=true)(I:Inv X pins σ H s)(hf:∀b∈fp,pA X pins H b)(hfo:∀b∈fp,∃o,s.heap.get? b=some o)(hns:h₁.Ns (s.heap.objs.size+1) λ_=>none)(old:∀b o,s.heap.get? b=some o->h₁.get? b=some o)(hD:h₁.get? s.heap.objs.size=some { cls:=.type "list",data:=.seq #[] 0 })(hnc:∀x c,(x,c)∈cellsFrom (s.heap.objs.size+2) scope.names []->h₁.IsCell c none) :
  Inv (X.bD own M scope ⟨cellsFrom (s.heap.objs.size+2) scope.names (cB X.env.cells scope.names []),s.heap.objs.size+1,s,H,fp⟩) [(s.heap.objs.size,{ cls:=.type "list",data:=.seq #[] 0 })] (Ï own.length none++σ) H { s with heap:=h₁,toks:=tk }:=by
 have hkk:=dG hk
 have hka:=bG hk
 have hhas:∀x,(x,ê)∈scope.names->∃c,X.env.cells.lookup x=some c:=λx hx=>I.ok.has x ((hka _ hx).2.2 rfl).2
 have hcl:∀x c,(cB X.env.cells scope.names []).lookup x=some c->X.env.cells.lookup x=some c/\(x,ê)∈scope.names:=λx c e=>by
  rcases jY e with q|⟨q1,q2⟩
  ·simp at q
  ·obtain⟨c',e'⟩:=hhas x q1
   rw[e'] at q2
   exact⟨by rw[e',q2];rfl,q1⟩
 have hcc:∀x c,(cellsFrom (s.heap.objs.size+2) scope.names (cB X.env.cells scope.names [])).lookup x=some c->(X.env.cells.lookup x=some c/\(x,ê)∈scope.names/\c<s.heap.objs.size)\/((x,c)∈cellsFrom (s.heap.objs.size+2) scope.names []/\(x,ø)∈scope.names/\s.heap.objs.size+2<=c):=λx c e=>by
  rcases Mz e with z|z
  ·exact .inr ⟨z,dI _ _ _ _ z⟩
  ·obtain⟨h1,h2⟩:=hcl x c z
   obtain⟨v,o,ho,_⟩:=I.cell x c h1
   exact .inl ⟨h1,h2,É ho⟩
 have hvis:∀x,(relabel scope X.env).names.lookup x=some .cell\/(relabel scope X.env).names.lookup x=some .free->(x,ê)∈scope.names\/(x,ø)∈scope.names:=λx hx=>by
  have key:∀q,(relabel scope X.env).names.lookup x=some q->q=.cell\/q=.free->(x,ê)∈scope.names\/(x,ø)∈scope.names:=λq hq hq'=>by
   obtain⟨k,h1,h2,h3⟩:=cg (env:=X.env) (names:=scope.names) hq
   rcases h3 with h3|⟨_,h3⟩
   ·subst h3
    rcases hq' with z|z
    ·rw[z] at h1;exact .inr h1
    ·rw[z] at h1;exact .inl h1
   ·rw[h3] at h1;exact .inl h1
  rcases hx with hx|hx
  ·exact key _ hx (.inl rfl)
  ·exact key _ hx (.inr rfl)
 have hlt:∀b o,s.heap.get? b=some o->b<s.heap.objs.size:=λb o e=>É e
 refine⟨⟨I.ok.mod,hkk,I.ok.glob,I.ok.blt,Ĥ _,λx y c h1 h2=>?inj,λx hx=>?_,λx c z e=>?cab,I.ok.hd,I.ok.frames,.inl rfl,λb hb=>⟨?_,λx c e=>?exf⟩,I.bs,
   ï I.ok.bsz I.sz,λb o e hb=>?_,λb hb hs=>?_,I.stack,I.xO,λq hq=>⟨(I.ok.sof q hq).1,I.base.frzs _ _ _ (I.ok.sof q hq).2.1,(I.ok.sof q hq).2.2⟩⟩,rfl,I.bare,Un.kept old,⟨_,hns,λi x v h1 h2 h3=>?_⟩,λx c e=>?_,?_,λx c e=>?frc,λp hp=>?_,I.hok.kept old,?_⟩
 case inj =>
  rcases hcc x c h1 with ⟨a1,_,a3⟩|⟨a1,_,a3⟩ <;> rcases hcc y c h2 with ⟨b1,_,b3⟩|⟨b1,_,b3⟩
  ·exact I.ok.inj x y c a1 b1
  ·exact absurd (à a3 (ï (Nat.le_add_right _ 2) b3)) (ó _)
  ·exact absurd (à b3 (ï (Nat.le_add_right _ 2) a3)) (ó _)
  ·exact lC _ _ _ _ _ a1 b1
 case cab =>
  show s.heap.objs.size<=c
  rcases hcc x c e with ⟨_,a2,_⟩|⟨_,_,a3⟩
  ·have h1:=((hka _ a2).2.2 rfl).1
   have z:(scope.names.lookup x == some ø)=true:=z
   rw[h1] at z
   exact absurd z (by decide)
  ·omega
 case exf =>
  rcases hcc x c e with ⟨a1,_,_⟩|⟨_,_,a3⟩
  ·exact(hf b hb).2.2.2.2.1 x c a1
  ·obtain⟨o,e⟩:=hfo b hb
   have:=hlt b o e
   intro z
   subst z
   exact absurd (à this (ï (Nat.le_add_right _ 2) a3)) (ó _)
 case frc =>
  rcases hcc x c e with ⟨a1,_,_⟩|⟨_,_,a3⟩
  ·exact I.freeC x c a1
  ·exact I.hok.fresh (by omega)
 ·have hx':(relabel scope X.env).names.lookup x=some .cell\/(relabel scope X.env).names.lookup x=some .free:=hx
  refine ş.mp (W.cellsFrom_some _ _ _ ?_)
  rcases hvis x hx' with z|z
  ·exact .inr (iH z)
  ·exact .inl ((hka _ z).2.1 rfl).2
 ·obtain⟨o,e⟩:=hfo b hb
  exact ã (ă (hlt b o e))
 ·have hb':b∈fp:=hb
  rcases(hf b hb').2.2.2.1 with z|z
  ·exact I.ok.noex b o e z
  ·exact absurd (à (É (I.ok.bs b o e).1) z) (ó _)
 ·have hb':b∈fp:=hb
  rcases Ē.mp (I.qG b hs) with z|z
  ·exact(hf b hb').2.1 z
  ·exact(hf b hb').2.2.1 z
 ·have hi:own.length<=i:=by
   by_cases hi:i<own.length
   ·rw[é (by simpa using hi),Į] at h2
    split at h2 <;> cases h2
   ·omega
  have h1':M[i - own.length]?=some x:=by
   have q:(own++M)[i]?=some x:=h1
   rwa [ç hi] at q
  have h2':σ[i - own.length]?=some (some v):=by
   rw[ç (by simpa using hi)] at h2
   simpa using h2
  have h3':Vis (relabel scope X.env) x:=h3
  have hfr:(x,ê)∈scope.names:=by
   rcases h3' with z|z
   ·obtain⟨k,q1,q2,q3⟩:=cg (env:=X.env) (names:=scope.names) z
    rcases q3 with q3|⟨q3,_⟩
    ·subst q3
     exact absurd (Ò h1') ((hka _ q1).1 rfl).1
    ·cases q3
   ·rcases hvis x z with y|y
    ·exact y
    ·exact absurd (Ò h1') ((hka _ y).2.1 rfl).1
  have hkx:=((hka _ hfr).2.2 rfl).2
  obtain⟨m,hm,hl⟩:=I.loc
  obtain⟨u,ru,lu⟩:=hl _ x v (qj hk h1' (Ò h1') hfr) h2' (by rcases hkx with z|z;exact .inr (.inl z);exact .inr (.inr z))
  refine⟨u,ru,.inr ⟨?_,?_⟩⟩
  ·rcases h3' with z|z|z
   ·obtain⟨k,q1,q2,q3⟩:=cg (env:=X.env) (names:=scope.names) z
    rcases q3 with q3|⟨q3,_⟩
    ·subst q3
     exact absurd (Ò h1') ((hka _ q1).1 rfl).1
    ·cases q3
   ·exact .inl z
   ·exact .inr z
  ·rcases lu with ⟨z,_⟩|⟨_,c,e,ic⟩
   ·rcases hkx with q|q
    ·rw[q] at z;cases z
    ·rw[q] at z;cases z
   ·obtain⟨c',e'⟩:=ş.mp (iH (cells:=X.env.cells) (acc:=[]) hfr)
    have e2:=(hcl x c' e').1
    rw[e] at e2
    cases e2
    obtain⟨o,ho,hd⟩:=ic
    exact⟨c,(Gu (uW hk hfr)).trans e',o,old _ _ ho,hd⟩
 ·rcases hcc x c e with ⟨z,_,_⟩|⟨z,_,_⟩
  ·obtain⟨v,o,ho,hd⟩:=I.cell x c z
   exact⟨v,o,old _ _ ho,hd⟩
  ·exact⟨none,hnc x c z⟩
 ·exact I.hok.fresh (Ĥ _)
 ·have hp':p=(s.heap.objs.size,{ cls:=.type "list",data:=.seq #[] 0 }):=by simpa using hp
  subst hp'
  refine⟨hD,I.hok.fresh (Å _),ã (ś _),λz=>?_,λv z=>nomatch z⟩
  obtain⟨_,o,ho,_⟩:=I.stack.mem z
  exact absurd (É ho) (ó _)
 ·show(Ï own.length none++σ).length=(own++M).length
  rw[È,È,ŏ,I.len,iG hk]
def w5{pins pn:List (Addr×Obj)}{σ σ':St}{H H':Hp}{s s':Shared}{fp:List Addr}{cl:List (Str×Addr)}{ys:List V}{us:List Value}{n:Nat}(I:Inv X pins σ H s)(hf:∀b∈fp,pA X pins H b)(J:Inv (X.bD own M scope ⟨cl,s.heap.objs.size+1,s,H,fp⟩) pn σ' H' s')(hp:(s.heap.objs.size,({ cls:=.type "list",data:=.seq us.toArray n }:Obj))∈pn)(hv:Vals ys us)(hz:ys.length<=sizeLine) :
  Inv X pins σ (upd H' s.heap.objs.size (.lst ys)) s'/\H' s.heap.objs.size=none:=by
 obtain⟨hD,hDn,_⟩:=J.pin _ (á _ hp)
 refine⟨I.call' J.os ⟨λb o e n hb hx=>J.base.keep b o e n hb hx,λb o e n hb hx=>J.base.slot b o e n hb hx,λb o e n hx=>?_,λb o e hx=>J.base.there b o e hx,λb xs e=>?_,λb o u e=>?_,λb ps e=>?_⟩ ?_ J.bare ?_,hDn⟩
 ·rw[ak (ã (É e))]
  exact J.base.free b o e n hx
 ·have q:=J.base.tups b xs e
  rw[ak (aD q hDn)]
  exact q
 ·have q:=J.base.frzs b o u e
  rw[ak (aD q hDn)]
  exact q
 ·obtain⟨more,q⟩:=J.base.tbls b ps e
  exact⟨more,by rw[ak (aD q hDn)];exact q⟩
 ·exact J.hok.track hDn ⟨hz,us,n,hv,hD⟩
 ·intro b hb
  exact⟨(hf b hb).2.2.2.1,(hf b hb).2.1,(hf b hb).2.2.2.2.1,(hf b hb).2.2.2.2.2⟩
def oZ{pins pn:List (Addr×Obj)}{σ σ':St}{H H':Hp}{s s':Shared}{fp:List Addr}{cl:List (Str×Addr)}(hk:aV X.env scope X.N M=true)(I:Inv X pins σ H s)(hf:∀b∈fp,pA X pins H b)(hcl:∀x,(x,ê)∈scope.names->∃c,cl.lookup x=some c/\X.env.cells.lookup x=some c)(J:Inv (X.bD own M scope ⟨cl,s.heap.objs.size+1,s,H,fp⟩) pn σ' H' s'):Inv (X.bD own M scope ⟨cl,s.heap.objs.size+1,s,H,fp⟩) pn (Ï own.length none++σ) H' s':=by
 have hka:=bG hk
 refine⟨J.ok,J.os,J.bare,J.base,?_,J.cell,J.free,J.freeC,J.pin,J.hok,?_⟩
 ·obtain⟨mC,hmC,_⟩:=J.loc
  refine⟨mC,hmC,λi x v h1 h2 h3=>?_⟩
  have hi:own.length<=i:=by
   by_cases hi:i<own.length
   ·rw[é (by simpa using hi),Į] at h2
    split at h2 <;> cases h2
   ·omega
  have h1':M[i - own.length]?=some x:=by
   have q:(own++M)[i]?=some x:=h1
   rwa [ç hi] at q
  have h2':σ[i - own.length]?=some (some v):=by
   rw[ç (by simpa using hi)] at h2
   simpa using h2
  have h3':Vis (relabel scope X.env) x:=h3
  have nloc:¬(relabel scope X.env).names.lookup x=some .local:=λz=>by
   obtain⟨k,q1,q2,q3⟩:=cg (env:=X.env) (names:=scope.names) z
   rcases q3 with q3|⟨q3,_⟩
   ·subst q3
    exact absurd (Ò h1') ((hka _ q1).1 rfl).1
   ·cases q3
  have hkk:(relabel scope X.env).names.lookup x=some .cell\/(relabel scope X.env).names.lookup x=some .free:=by
   rcases h3' with z|z
   ·exact absurd z nloc
   ·exact z
  have hfr:(x,ê)∈scope.names:=by
   have key:∀q,(relabel scope X.env).names.lookup x=some q->q=.cell\/q=.free->(x,ê)∈scope.names:=λq hq hq'=>by
    obtain⟨k,h1,h2,h3⟩:=cg (env:=X.env) (names:=scope.names) hq
    rcases h3 with h3|⟨_,h3⟩
    ·subst h3
     rcases hq' with z|z
     ·rw[z] at h1;exact absurd (Ò h1') ((hka _ h1).2.1 rfl).1
     ·rw[z] at h1;exact h1
    ·rw[h3] at h1;exact h1
   rcases hkk with hx|hx
   ·exact key _ hx (.inl rfl)
   ·exact key _ hx (.inr rfl)
  have hkx:=((hka _ hfr).2.2 rfl).2
  obtain⟨m,hm,hl⟩:=I.loc
  obtain⟨u,ru,lu⟩:=hl _ x v (qj hk h1' (Ò h1') hfr) h2' (by rcases hkx with z|z;exact .inr (.inl z);exact .inr (.inr z))
  refine⟨u,ru,.inr ⟨hkk,?_⟩⟩
  rcases lu with ⟨z,_⟩|⟨_,c,e,ic⟩
  ·rcases hkx with q|q
   ·rw[q] at z;cases z
   ·rw[q] at z;cases z
  ·obtain⟨c',e',e2⟩:=hcl x hfr
   rw[e] at e2
   cases e2
   obtain⟨o,ho,hd⟩:=ic
   obtain⟨sl,q⟩:=J.base.any ho (I.freeC x c e) λz=>(hf c z).2.2.2.2.1 x c e rfl
   exact⟨c,e',_,q,hd⟩
 ·show(Ï own.length none++σ).length=(own++M).length
  rw[È,È,ŏ,I.len,iG hk]
def qd{pins:List (Addr×Obj)}{σ:St}{H:Hp}{s:Shared}{it:Addr}{fp:List Addr}{tn:Nat->Heap->Prop}{J:It}{W:Nat->Nat->List V->Hp->Prop}{E:Value->Shared->Prop}{RR:Value->Addr->Result->Shared->Prop}{Cm:Cx->Prop}(hc:∀c,Cm (X.bD own M scope c))(hk:aV X.env scope X.N M=true)(hg:∀c,PG (X.bD own M scope c) tg (g c))(ht:∀c,PTs (X.bD own M scope c) ifs (tt c))(he:∀c,PE (X.bD own M scope c) elt (te c))(I:Inv X pins σ H s)(T:TurnG Cm X.prog X.w X.K tg J fp it tn)(st:tn 0 s.heap)(hf:∀b∈fp,pA X pins H b){m0:Nat}(w0:W 0 m0 [] H){D:List V->Hp->Prop}(turn:∀(c:CB) i m ys H,W i m ys H->(J.stop i H/\D ys H) ∨
   (J.go i H/\ys.length<sizeLine/\∃N:List V->Hp->Prop,(∀ys' H',N ys' H'->∃m',m'<m/\W (i+1) m' ys' H')/\∀x H',J.yld i H x H'->g c x (Ï own.length none++σ) H' λσ2 H2=>tt c σ2 H2 λb H3 =>
    if b=true then te c σ2 H3 λv H4=>N (ys++[v]) H4 else N ys H3))(fin:∀s' m' ys H',(s'.heap.Ns (s.heap.objs.size+1) m')->H' (s.heap.objs.size+1)=none->H' s.heap.objs.size=none->Inv X pins σ (upd H' s.heap.objs.size (.lst ys)) s'->D ys H'->RR (.ref s.heap.objs.size) (s.heap.objs.size+1) (.ok .next) s') :
  wpAny (model X.prog X.w) X.A (newList []) (λacc s₃=>wpAny (model X.prog X.w) X.A (newFunctionEnv scope X.env.globals (cB X.env.cells scope.names []) [] X.env.qual none .none (some X.env)) (λcenv s₄ =>
   codeAny (model X.prog X.w) X.A (.compStart (.ListComp elt [⟨tg,iter,ifs,0⟩] scope pos) 0 (.ref it) acc { cenv with scope:=relabel scope X.env }) (RR acc cenv.locals) s₄) E s₃) E s:=by
 have hkk:=dG hk
 have hka:=bG hk
 refine Ź (wB ?_)
 dsimp only
 have hC:(s.heap.push { cls:=.type "list",dict:=none,data:=.seq ([]:List Value).toArray }).objs.size=s.heap.objs.size+1:=Ń ..
 rw[hC]
 generalize hH2:s.heap.push { cls:=.type "list",dict:=none,data:=.seq ([]:List Value).toArray }=H2 at hC ⊢
 generalize hH3:H2.push { cls:=ā (if (some X.env:Option Env).isSome=true then "dict" else "frame"),data:=Data.dict #[] }=H3
 generalize hh1:pushCells H3 scope.names=h₁
 have hC3:H3.objs.size=s.heap.objs.size+2:=by rw[←hH3,Ń,hC]
 have old3:∀b o,H3.get? b=some o->h₁.get? b=some o:=λb o e=>hh1 ▸ iQ _ _ _ _ e
 have old2:∀b o,H2.get? b=some o->h₁.get? b=some o:=λb o e=>old3 b o (hH3 ▸ Ç _ e)
 have old:∀b o,s.heap.get? b=some o->h₁.get? b=some o:=λb o e=>old2 b o (hH2 ▸ Ç _ e)
 have hacc:h₁.get? s.heap.objs.size=some { cls:=.type "list",data:=.seq #[] 0 }:=old2 _ _ (hH2 ▸ Û _ rfl)
 have hns:h₁.Ns (s.heap.objs.size+1) λ_=>none:=by
  have z:=Heap.Ns.new H2 (ā (if (some X.env:Option Env).isSome=true then "dict" else "frame"))
  rw[hC,hH3] at z
  exact z.keeps old3
 have hnc:∀x c,(x,c)∈cellsFrom (s.heap.objs.size+2) scope.names []->h₁.IsCell c none:=λx c e=>by
  rw[←hC3] at e
  exact hh1 ▸ kj _ _ _ _ e
 have hfo:∀b∈fp,∃o,s.heap.get? b=some o:=λb hb=>let ⟨o,e,_⟩:=T.obj 0 _ st b hb;⟨o,e⟩
 have st₁:tn 0 h₁:=T.keep 0 _ _ st λb _ o e=>old b o e
 have I₁:=w6 (own:=own) (tk:=s.toks) hk I hf hfo hns old hacc hnc
 have loop:∀s₃:Shared,s₃={ s with heap:=h₁,toks:=s.toks } ->
   codeAny (model X.prog X.w) X.A (.compLoop (.ListComp elt [⟨tg,iter,ifs,0⟩] scope pos) 0 (.ref it) (.ref s.heap.objs.size) (compEnvC scope (cellsFrom (s.heap.objs.size+2) scope.names (cB X.env.cells scope.names [])) (s.heap.objs.size+1) X.env))
    (RR (.ref s.heap.objs.size) (s.heap.objs.size+1)) s₃:=by
  rintro s₃ rfl
  have neD:∀b∈fp,b≠s.heap.objs.size:=λb hb=>by
   obtain⟨o,e⟩:=hfo b hb
   exact ã (É e)
  have stat:∀{H':Hp}{o:Obj},(∀b∈fp,H' b=none)->∀b∈fp,pA (X.bD own M scope ⟨cellsFrom (s.heap.objs.size+2) scope.names (cB X.env.cells scope.names []),s.heap.objs.size+1,s,H,fp⟩) [(s.heap.objs.size,o)] H' b:=λ{H' o} hn b hb =>
   ⟨hn b hb,(I₁.ok.exf b hb).1,I₁.ok.exfs b hb,.inl hb,(I₁.ok.exf b hb).2,λp hp=>by
    have hp':p=(s.heap.objs.size,o):=by simpa using hp
    subst hp'
    exact ę (neD b hb)⟩
  refine Ao (λk s'=>∃i ys us n H',Inv (X.bD own M scope ⟨cellsFrom (s.heap.objs.size+2) scope.names (cB X.env.cells scope.names []),s.heap.objs.size+1,s,H,fp⟩) [(s.heap.objs.size,{ cls:=.type "list",data:=.seq (us:List Value).toArray n })] (Ï own.length none++σ) H' s' /\
    Vals ys us/\ys.length<=sizeLine/\tn i s'.heap/\(∀b∈fp,H' b=none)/\W i k ys H') ?_ m0 ⟨0,[],[],0,H,I₁,.nil,û _,st₁,λb hb=>(hf b hb).1,w0⟩
  rintro k s3 ⟨i,ys,us,n,H3,I3,hv,hz,st3,fr3,w3⟩
  rcases turn ⟨cellsFrom (s.heap.objs.size+2) scope.names (cB X.env.cells scope.names []),s.heap.objs.size+1,s,H,fp⟩ i k ys H3 w3 with ⟨stop,d⟩|⟨go,hlt,N,hN,step⟩
  ·refine thn (T.done (X.bD own M scope ⟨cellsFrom (s.heap.objs.size+2) scope.names (cB X.env.cells scope.names []),s.heap.objs.size+1,s,H,fp⟩) rfl rfl rfl (hc _) i _ s3 _ H3 _ I3 (stat fr3) st3 stop) λr s4 ⟨hr,I4⟩=>?_
   subst hr
   obtain⟨m',hm',_⟩:=I4.loc
   obtain⟨J4,hDn⟩:=w5 I hf I4 (Ë.mpr rfl) hv hz
   exact fin s4 m' ys H3 hm' I4.free hDn J4 d
  ·refine thn (T.item (X.bD own M scope ⟨cellsFrom (s.heap.objs.size+2) scope.names (cB X.env.cells scope.names []),s.heap.objs.size+1,s,H,fp⟩) rfl rfl rfl (hc _) i _ s3 _ H3 _ I3 (stat fr3) st3 go) λr s4 ⟨u,hr,h4⟩=>?_
   subst hr
   refine thn h4 λ_ s5 ⟨x,H5,I5,r5,y5,st5,fr5⟩=>?_
   have I5':=I5.pinned (stat fr5) (T.obj _ _ st5)
   refine thn (hg _ _ s5 _ H5 x u _ I5' r5 (step x H5 y5)) λ_ s6 ⟨σ6,H6,I6,q6⟩=>?_
   refine thn (ht _ _ s6 σ6 H6 _ I6 q6) λb s7 ⟨H7,I7,q7⟩=>?_
   -- the turn's end: the iterator's records stand,the names are forgotten
   have clH:∀x,(x,ê)∈scope.names->∃c,(cellsFrom (s.heap.objs.size+2) scope.names (cB X.env.cells scope.names [])).lookup x=some c/\X.env.cells.lookup x=some c:=λx hx=>by
    obtain⟨c,e⟩:=I.ok.has x ((hka _ hx).2.2 rfl).2
    obtain⟨c',e'⟩:=ş.mp (iH (cells:=X.env.cells) (acc:=[]) hx)
    rcases jY e' with q|⟨_,q⟩
    ·simp at q
    ·rw[e] at q
     exact⟨c',(Gu (uW hk hx)).trans e',by rw[e,q];rfl⟩
   have keepT:∀{H':Hp}{σ':St}{s':Shared}{pn:List (Addr×Obj)},(∀p∈gW fp s5.heap,p∈pn)->Inv (X.bD own M scope ⟨cellsFrom (s.heap.objs.size+2) scope.names (cB X.env.cells scope.names []),s.heap.objs.size+1,s,H,fp⟩) pn σ' H' s'->tn (i+1) s'.heap/\∀b∈fp,H' b=none:=λ{H' σ' s' pn} hs I' =>
    ⟨T.keep _ _ _ st5 λb hb o e=>(I'.pin (b,o) (á _ (hs _ (gn hb e)))).1,λb hb=>by
     obtain⟨o,e,_⟩:=T.obj _ _ st5 b hb
     exact(I'.pin (b,o) (á _ (hs _ (gn hb e)))).2.1⟩
   cases b with
   |false =>
    rw[if_neg Ð]
    rw[if_neg Ð] at q7
    obtain⟨m',hm',w7⟩:=hN _ _ q7
    obtain⟨t7,f7⟩:=keepT (λp hp=>á _ hp) I7
    exact⟨m',hm',i+1,ys,us,n,H7,oZ hk I hf clH I7.jr,hv,hz,t7,f7,w7⟩
   |true =>
    rw[if_pos rfl]
    rw[if_pos rfl] at q7
    refine thn (he _ _ s7 σ6 H7 _ I7 q7) λu8 s8 ⟨v8,H8,I8,r8,q8⟩=>?_
    obtain⟨m',hm',w8⟩:=hN _ _ q8
    obtain⟨t8,f8⟩:=keepT (λp hp=>á _ hp) I8
    obtain⟨hD8,nD8,lD8,fD8,_⟩:=I8.pin (s.heap.objs.size,{ cls:=.type "list",data:=.seq us.toArray n }) (á _ (ĝ _ (Ë.mpr rfl)))
    refine append_at (hsz:=by rw[Ì,←hv.length];exact Nat.le_of_lt hlt) hD8 λh9 hs9 hD9=>?_
    have J8:Inv (X.bD own M scope ⟨cellsFrom (s.heap.objs.size+2) scope.names (cB X.env.cells scope.names []),s.heap.objs.size+1,s,H,fp⟩) (gW fp s5.heap) σ6 H8 s8:=I8.mO λp hp=>I8.pin p (á _ (á _ hp))
    have J9:Inv (X.bD own M scope ⟨cellsFrom (s.heap.objs.size+2) scope.names (cB X.env.cells scope.names []),s.heap.objs.size+1,s,H,fp⟩) (gW fp s5.heap) σ6 H8 { s8 with heap:=h9 }:=J8.turned (t':=s8.toks) (it:=s.heap.objs.size) (λb o hb e=>(hs9.2 b hb).trans e) nD8 lD8 (.inr (Å _))
     (λx c e z=>by
      obtain⟨v,o,ho,hd⟩:=J8.cell x c e
      rw[z,hD8] at ho
      cases ho
      cases hd)
     (λp hp=>by
      have hp':p∈gW fp s5.heap:=by simpa using hp
      exact neD _ (pQ hp').1)
    obtain⟨t9,f9⟩:=keepT (λp hp=>hp) J9
    have e9:h9.get? s.heap.objs.size=some { cls:=.type "list",data:=.seq (us++[u8]).toArray (n+1) }:=by
     rw[hD9,List.push_toArray]
    have J9':Inv (X.bD own M scope ⟨cellsFrom (s.heap.objs.size+2) scope.names (cB X.env.cells scope.names []),s.heap.objs.size+1,s,H,fp⟩) [(s.heap.objs.size,{ cls:=.type "list",data:=.seq (us++[u8]).toArray (n+1) })] σ6 H8 { s8 with heap:=h9 }:=J9.mO λp hp=>by
     have hp':p=(s.heap.objs.size,{ cls:=.type "list",data:=.seq (us++[u8]).toArray (n+1) }):=by simpa using hp
     subst hp'
     exact⟨e9,nD8,lD8,fD8,λv z=>nomatch z⟩
    exact⟨m',hm',i+1,ys++[v8],us++[u8],n+1,H8,oZ hk I hf clH J9',hv.append (.cons r8 .nil),by rw[È,ĸ];exact hlt,t9,f9,w8⟩
 exact codeAny_compStart_list (loop _ rfl) (T.self _ 0 _ _ _ st₁ (loop _ rfl))
def qg{pins:List (Addr×Obj)}{σ:St}{H:Hp}{s:Shared}(hk:aV X.env scope X.N M=true)(I:Inv X pins σ H s):closureFor scope X.env=pure (cB X.env.cells scope.names []) :=
 xg λx hx hf=>I.ok.has x.1 ((bG hk x hx).2.2 hf).2
def qe{pins:List (Addr×Obj)}{σ:St}{H:Hp}{s s':Shared}{C:Addr}{h':Heap}{m:Str->Option Value}(I:Inv X pins σ H s')(hs:X.s₀.heap.objs.size<=C)(hC:C≠X.env.locals)(hcl:∀x c,X.env.cells.lookup x=some c->c≠C)(hp:∀p∈X.pn++pins,p.1≠C)(hn:H C=none)(hb:Heap.SameBut C s'.heap h'):Inv X pins σ H { s' with heap:=h' }:=I.turned (t':=s'.toks) (λb o hb' e=>(hb.2 b hb').trans e) hn hC (.inr hs) hcl hp
def KQ(own M:List Str)(hc:X.calm=true)(hi:PI X tg iter wi)(hg:∀c,PG (X.bD own M scope c) tg (g c))(ht:∀c,PTs (X.bD own M scope c) ifs (tt c))(he:∀c,PE (X.bD own M scope c) elt (te c))(hk:aV X.env scope X.N M=true:=by rfl)(hs:∀x,foldedSetIterable iter X.env x=pure x:=by intro _;rfl) :
  PE X (.ListComp elt [⟨tg,iter,ifs,0⟩] scope pos) (tLC own.length wi g tt te):=by
 intro pins s σ H Q I h
 rw[eval_ListComp]
 have hka:=bG hk
 refine wpAny_comprehension_free (use:=none) rfl hs (qg hk I) (dG hk) (λx hx hl=>((hka x hx).1 hl).2) (thn (hi pins s σ H _ I h) λv s1 h1=>thn h1 λitv s2 h2=>?_)
 obtain⟨it,fp,tn,J,H2,e,I2,T,st2,f2,W,⟨m0,w0⟩,turn⟩:=h2
 subst e
 refine qd (RR:=λacc C=>compPost (model X.prog X.w) X.A X.xe none (EP X pins σ Q) acc C) (D:=λys H=>∀p,H p=none->Q (.ref p) (upd H p (.lst ys))) (λ_=>hc) hk hg ht he I2 T st2 f2 w0 turn ?_
 intro s' m' ys H' hns hCn hDn J' d
 have lt2:∀{b:Addr}{o:Obj},s2.heap.get? b=some o->b≠s2.heap.objs.size+1:=λe=>ã (ă (É e))
 refine⟨m',hns,λh' hb=>⟨.ref s2.heap.objs.size,_,qe (m:=m') (s:=s2) J' (ï I2.sz (Ĥ _)) (ę (ã (ă I2.lt))) (λx c e=>?_) (λp hp=>?_) ?_ hb,rfl,d _ hDn⟩⟩
 ·obtain⟨v,o,ho,_⟩:=I2.cell x c e
  exact lt2 ho
 ·exact lt2 (I2.pin p hp).1
 ·rw[ak (ŋ (ś _))]
  exact hCn
def Hf{Cm:Cx->Prop}(own M:List Str){i:Nat}{y:Str}{py spos:Pos}(hc:∀c,Cm (X.bD own M scope c))(hN:X.N.Nodup)(hiN:X.N[i]?=some y)(hx:Loc X.env.scope y)(hi:PIG Cm X tg iter wi)(hg:∀c,PG (X.bD own M scope c) tg (g c))(ht:∀c,PTs (X.bD own M scope c) ifs (tt c))(he:∀c,PE (X.bD own M scope c) elt (te c))(hsw:swapsWith (.ListComp elt [⟨tg,iter,ifs,0⟩] scope pos) (some (.Name y py)) spos.line X.env=pure true:=by rfl)(hk:aV X.env scope X.N M=true:=by rfl)(hs:∀x,foldedSetIterable iter X.env x=pure x:=by intro _;rfl)(hf:X.fn y=true\/X.env.scope.names.lookup y=some .local:=by first|exact .inl rfl|exact .inr rfl|assumption) :
  PS X (.Assign [.Name y py] (.ListComp elt [⟨tg,iter,ifs,0⟩] scope pos) spos) (tY (tLC own.length wi g tt te) (jf i)):=by
 intro pins s σ H D I h
 rw[exec_Assign_Name_used _ _ _ _ hsw]
 have hka:=bG hk
 refine Ã (wpAny_standAt (Ã ?_))
 show wpAny _ X.A (do let _ ←comprehension (.ListComp elt [⟨tg,iter,ifs,0⟩] scope pos) scope X.env _ (newList []) false (eval iter X.env) (some (assign (.Name y py) X.env))) _ _ s
 refine Ã (Ĵ (wpAny_comprehension_free (use:=some (assign (.Name y py) X.env)) (Q:=λ_ s'=>SP X pins D .next s') rfl hs (qg hk I) (dG hk) (λx hx hl=>((hka x hx).1 hl).2)
  (thn (hi pins s σ H _ I h) λv s1 h1=>thn h1 λitv s2 h2=>?_)) (λ_ s' hq=>Ñ (Ñ hq)) λ_ _ e=>e)
 obtain⟨it,fp,tn,J,H2,e,I2,T,st2,f2,W,⟨m0,w0⟩,turn⟩:=h2
 subst e
 refine qd (RR:=λacc C=>compPost (model X.prog X.w) X.A X.xe (some (assign (.Name y py) X.env)) (λ_ s'=>SP X pins D .next s') acc C) (D:=λys H=>∀p,H p=none->jf i (.ref p) σ (upd H p (.lst ys)) D.nx) hc hk hg ht he I2 T st2 f2 w0 turn ?_
 intro s' m' ys H' hns hCn hDn J' d
 have lt2:∀{b:Addr}{o:Obj},s2.heap.get? b=some o->b≠s2.heap.objs.size+1:=λe=>ã (ă (É e))
 show wpAny _ X.A (assign (.Name y py) X.env (.ref s2.heap.objs.size)) _ _ _
 refine wpAny_assign_Name (pK (v:=.ref s2.heap.objs.size) J' (λj h=>uM hN h hiN) hiN hx rfl (λs'' J'' ⟨a,hsb,ha⟩=>?_) hf)
 have hLne:X.env.locals≠s2.heap.objs.size+1:=ã (ă I2.lt)
 have hCa:s2.heap.objs.size+1≠a:=by
  rcases ha with ha|ha
  ·rw[ha];exact ę hLne
  ·obtain⟨v,o,ho,_⟩:=I2.cell _ _ ha
   exact ę (lt2 ho)
 refine⟨m',hns.sameBut hsb hCa,λh' hb=>⟨_,_,qe (m:=m') (s:=s2) J'' (ï I2.sz (Ĥ _)) (ę hLne) (λx c e=>?_) (λp hp=>?_) ?_ hb,d _ hDn⟩⟩
 ·obtain⟨v,o,ho,_⟩:=I2.cell x c e
  exact lt2 ho
 ·exact lt2 (I2.pin p hp).1
 ·rw[ak (ŋ (ś _))]
  exact hCn
def Kv(own M:List Str){i:Nat}{y:Str}{py spos:Pos}(hc:X.calm=true)(hN:X.N.Nodup)(hiN:X.N[i]?=some y)(hx:Loc X.env.scope y)(hi:PI X tg iter wi)(hg:∀c,PG (X.bD own M scope c) tg (g c))(ht:∀c,PTs (X.bD own M scope c) ifs (tt c))(he:∀c,PE (X.bD own M scope c) elt (te c))(hsw:swapsWith (.ListComp elt [⟨tg,iter,ifs,0⟩] scope pos) (some (.Name y py)) spos.line X.env=pure true:=by rfl)(hk:aV X.env scope X.N M=true:=by rfl)(hs:∀x,foldedSetIterable iter X.env x=pure x:=by intro _;rfl)(hf:X.fn y=true\/X.env.scope.names.lookup y=some .local:=by first|exact .inl rfl|exact .inr rfl|assumption) :
  PS X (.Assign [.Name y py] (.ListComp elt [⟨tg,iter,ifs,0⟩] scope pos) spos) (tY (tLC own.length wi g tt te) (jf i)):=Hf own M (λ_=>hc) hN hiN hx hi hg ht he hsw hk hs hf
def CV(own:List Str)(hc:X.calm=true)(hi:PI X tg iter wi)(hg:∀c,PG (X.comp own scope c) tg (g c))(ht:∀c,PTs (X.comp own scope c) ifs (tt c))(he:∀c,PE (X.comp own scope c) elt (te c))(hk:d8 X.env scope X.N=true:=by rfl)(hs:∀x,foldedSetIterable iter X.env x=pure x:=by intro _;rfl) :
  PE X (.ListComp elt [⟨tg,iter,ifs,0⟩] scope pos) (tLC own.length wi g tt te):=KQ own X.N hc hi hg ht he (u6 hk) hs
def Od(own:List Str){i:Nat}{y:Str}{py spos:Pos}(hc:X.calm=true)(hN:X.N.Nodup)(hiN:X.N[i]?=some y)(hx:Loc X.env.scope y)(hi:PI X tg iter wi)(hg:∀c,PG (X.comp own scope c) tg (g c))(ht:∀c,PTs (X.comp own scope c) ifs (tt c))(he:∀c,PE (X.comp own scope c) elt (te c))(hsw:swapsWith (.ListComp elt [⟨tg,iter,ifs,0⟩] scope pos) (some (.Name y py)) spos.line X.env=pure true:=by rfl)(hk:d8 X.env scope X.N=true:=by rfl)(hs:∀x,foldedSetIterable iter X.env x=pure x:=by intro _;rfl)(hf:X.fn y=true\/X.env.scope.names.lookup y=some .local:=by first|exact .inl rfl|exact .inr rfl|assumption) :
  PS X (.Assign [.Name y py] (.ListComp elt [⟨tg,iter,ifs,0⟩] scope pos) spos) (tY (tLC own.length wi g tt te) (jf i)):=Kv own X.N hc hN hiN hx hi hg ht he hsw (u6 hk) hs hf
end
section
variable {X:Cx}{tg:Expr}{K:Ø}{g:CB->TG}{tt:CB->TT}{te:CB->TE}{σ:St}{H:Hp}{Q:VK}{n:Nat}
def QT(K:Ø)(tl:TE):TI:=λσ H R=>tl σ H λx H1=>∃a,x=.ref a/\(((∃xs,SqL K H1 a xs)/\R (Itl K a) H1)\/((∃xs,SqT K H1 a xs)/\R (Itt K a) H1))
def Ky{l:Expr}{tl:TE}(hl:PE X l tl):PI X tg l (QT X.K tl):=by
 intro pins s σ H R I h
 refine thn (hl pins s σ H _ I h) λv s1 ⟨x,H1,I1,r1,q1⟩=>?_
 obtain⟨a,e,q1⟩:=q1
 subst e
 cases r1
 rcases q1 with ⟨⟨xs,hq⟩,q⟩|⟨⟨xs,hq⟩,q⟩
 ·obtain⟨its,rv,p,hz⟩:=I1.list hq
  refine wpAny_pyIter_list p.isList ?_
  refine⟨s1.heap.objs.size,[s1.heap.objs.size],_,_,H1,rfl,I1.kept (t':=s1.toks) λb o e=>Ç _ e,zq a _,⟨_,Û _ rfl,rfl,rfl⟩,λb hb=>?_,q⟩
  have e:b=s1.heap.objs.size:=by simpa using hb
  subst e
  exact I1.Mq (Å _) (I1.hok.fresh (Å _))
 ·obtain⟨its,rv,p,hz⟩:=I1.tuple hq
  refine wpAny_pyIter_tuple (show s1.heap.IsTuple a its.toArray from p) ?_
  refine⟨s1.heap.objs.size,[s1.heap.objs.size],_,_,H1,rfl,I1.kept (t':=s1.toks) λb o e=>Ç _ e,vH a _,⟨_,Û _ rfl,rfl,rfl⟩,λb hb=>?_,q⟩
  have e:b=s1.heap.objs.size:=by simpa using hb
  subst e
  exact I1.Mq (Å _) (I1.hok.fresh (Å _))
def Lx{J:It}(k:Nat)(hk:k<=1000)(Pv:Nat->List V->Hp->Prop)(h0:Pv 0 [] H)(hgo:∀i ys H,i<k->Pv i ys H->J.go i H)(hst:∀ys H,Pv k ys H->J.stop k H)(hl:∀i ys H,Pv i ys H->ys.length<=i)(hs:∀c i x ys H H',i<k->J.yld i H x H'->Pv i ys H->g c x (Ï n none++σ) H' λσ2 H2=>tt c σ2 H2 λb H3=>if b=true then te c σ2 H3 λv H4=>Pv (i+1) (ys++[v]) H4 else Pv (i+1) ys H3)(hd:∀ys H,Pv k ys H->∀p,H p=none->Q (.ref p) (upd H p (.lst ys))):GF J n g tt te σ Q H:=by
 refine⟨λi m ys H=>m=k - i/\i<=k/\Pv i ys H,⟨k,by simp,û _,h0⟩,?_⟩
 rintro c i m ys H ⟨rfl,hi,p⟩
 by_cases hlt:i<k
 ·refine .inr ⟨hgo i ys H hlt p,?_,Pv (i+1),λys' H' p'=>⟨k - (i+1),by omega,rfl,hlt,p'⟩,λx H' y=>hs c i x ys H H' hlt y p⟩
  have:=hl i ys H p
  have h24:=ì
  omega
 ·have e:i=k:=by omega
  subst e
  exact .inl ⟨hst ys H p,hd ys H p⟩
def Lw{lo:Int}{k:Nat}(hk:k<=1000)(Pv:Nat->List V->Hp->Prop)(h0:Pv 0 [] H)(hl:∀i ys H,Pv i ys H->ys.length<=i)(hs:∀c i ys H,i<k->Pv i ys H->g c (.int (lo+i)) (Ï n none++σ) H λσ2 H2=>tt c σ2 H2 λb H3=>if b=true then te c σ2 H3 λv H4=>Pv (i+1) (ys++[v]) H4 else Pv (i+1) ys H3)(hd:∀ys H,Pv k ys H->∀p,H p=none->Q (.ref p) (upd H p (.lst ys))):GF (Itr lo k) n g tt te σ Q H :=
 Lx k hk Pv h0 (λi ys H hi p=>hi) (λys H p=>Å k) hl (λc i x ys H H' hi y p=>by
  obtain⟨e,y⟩:=y
  subst e y
  exact hs c i ys _ hi p) hd
end
end L2
namespace NfSort
open PySem PySem.W PyProof.Rows
def kwp{α:Type}(n:Nat)(key:Nat->Int):KasT α->(α->Prop)->Prop
 |.ret a,Q=>Q a
 |.ask i j k,Q=>i<n/\j<n/\kwp n key (k (decide (key i<key j))) Q
def bB{α:Type}{n:Nat}{key:Nat->Int}{Q Q':α->Prop}(h:∀a,Q a->Q' a):∀{t:KasT α},kwp n key t Q->kwp n key t Q'
 |.ret a,q=>h a q
 |.ask _ _ k,q=>⟨q.1,q.2.1,bB h q.2.2⟩
def dZ{α β:Type}{n:Nat}{key:Nat->Int}{f:α->KasT β}{Q:β->Prop}:∀{t:KasT α},kwp n key t (λa=>kwp n key (f a) Q)->kwp n key (t.bind f) Q
 |.ret a,q=>q
 |.ask _ _ k,q=>⟨q.1,q.2.1,dZ q.2.2⟩
def rR{α:Type}{n:Nat}{key:Nat->Int}{cmp:Nat->Nat->(Bool->Shared->Prop)->Shared->Prop}{s:Shared}{G:α->Shared->Prop}(hc:∀i j C,i<n->j<n->C (decide (key i<key j)) s->cmp i j C s) :
  ∀{t:KasT α},kwp n key t (λa=>G a s)->t.kasWp cmp G s
 |.ret _,q=>q
 |.ask i j k,q=>hc i j _ q.1 q.2.1 (rR hc q.2.2)
section
variable {n:Nat}{key:Nat->Int}{p:Array Nat}
def Pm(n:Nat)(p:Array Nat):Prop:=p.Perm (ä n).toArray
def kk(key:Nat->Int)(p:Array Nat)(i:Nat):Int:=key (p.getD i 0)
def Pm.size(h:Pm n p):p.size=n:=by
 have:=Array.Perm.size_eq h
 simpa using this
def getD_eq(p:Array Nat)(i:Nat):p.getD i 0=(p[i]?).getD 0:=by
 by_cases h:i<p.size <;> simp[Array.getD,h]
def Pm.lt(h:Pm n p){i:Nat}(hi:i<n):p.getD i 0<n:=by
 have hs:=h.size
 have hi':i<p.size:=by omega
 have hm:p[i]∈p.toList:=by
  have:=Array.getElem_mem hi'
  simpa using this
 have hp:p.toList.Perm (ä n):=by
  have:=ŗ.mp h
  simpa using this
 have e:p.getD i 0=p[i]:=by simp[Array.getD,hi']
 rw[e]
 exact Ŷ.mp (hp.mem_iff.mp hm)
def Pm.rev(h:Pm n p)(i j:Nat):Pm n (kas_rev p i j):=Array.Perm.trans (mirror_perm _ _ _ _) h
def Pm.bub(h:Pm n p)(i j:Nat):Pm n (bubble p i j):=Array.Perm.trans (bubble_perm _ _ _) h
def rT(h:Pm n p){i j:Nat}(hj:j<=n)(t:Nat):kk key (kas_rev p i j) t=if i<=t/\t<j then kk key p (i+j - 1 - t) else kk key p t:=by
 unfold kk kas_rev
 rw[getD_eq,getElem?_mirror_all (by rw[h.size];exact hj)]
 split
 ·rw[getD_eq]
 ·rw[getD_eq]
def Lz(h:Pm n p){k l:Nat}(hk:k<n)(hl:l<=k)(t:Nat):kk key (bubble p k (k - l)) t=if t=l then kk key p k else if l<t/\t<=k then kk key p (t - 1) else kk key p t:=by
 unfold kk
 rw[getD_eq,getElem?_bubble (by rw[h.size];exact hk) _ (by omega)]
 have e:k - (k - l)=l:=by omega
 rw[e]
 split
 ·rw[getD_eq]
 ·split
  ·rw[getD_eq]
  ·rw[getD_eq]
def Up(key:Nat->Int)(p:Array Nat)(m:Nat):Prop:=∀i j,i<=j->j<m->kk key p i<=kk key p j
def Dn(key:Nat->Int)(p:Array Nat)(m:Nat):Prop:=∀i j,i<=j->j<m->kk key p j<=kk key p i
def Rn(key:Nat->Int)(p:Array Nat)(m q:Nat):Prop:=q+1<=m/\∀t,m<=t+q+1->t<m->kk key p t=kk key p (m - 1)
def Up.more{a:Nat}(h:Up key p a)(h1:1<=a)(hx:kk key p (a - 1)<=kk key p a):Up key p (a+1):=λi j hij hj=>by
 by_cases hja:j<a
 ·exact h i j hij hja
 ·obtain rfl:j=a:=by omega
  by_cases hi:i=j
  ·subst hi;exact ÿ _
  ·exact Ă (h i (j - 1) (by omega) (by omega)) hx
def Dn.more{a:Nat}(h:Dn key p a)(h1:1<=a)(hx:kk key p a<=kk key p (a - 1)):Dn key p (a+1):=λi j hij hj=>by
 by_cases hja:j<a
 ·exact h i j hij hja
 ·obtain rfl:j=a:=by omega
  by_cases hi:i=j
  ·subst hi;exact ÿ _
  ·exact Ă hx (h i (j - 1) (by omega) (by omega))
def xr(hp:Pm n p):∀(f a:Nat),1<=a->a+f<=n->Up key p a->kwp n key (kas_asc p f a) (λm=>a<=m/\m<=a+f/\Up key p m/\(m<a+f->kk key p m<kk key p (m - 1)))
 |0,a,h1,hf,hu=>⟨Å _,Å _,hu,λh=>absurd h (by omega)⟩
 |f+1,a,h1,hf,hu=>by
  refine⟨hp.lt (by omega),hp.lt (by omega),?_⟩
  by_cases hc:key (p.getD a 0)<key (p.getD (a - 1) 0)
  ·(rw[decide_eq_true hc];dsimp only;rw[if_pos rfl])
   exact⟨Å _,by omega,hu,λ_=>hc⟩
  ·(rw[decide_eq_false hc];dsimp only;rw[if_neg Ð])
   refine bB (λm ⟨a1,a2,a3,a4⟩=>⟨by omega,by omega,a3,λh=>a4 (by omega)⟩) (xr hp f (a+1) (by omega) (by omega) (hu.more h1 (Ĺ.mp hc)))
def xX(hp:Pm n p){a q:Nat}(ha:a<=n)(hr:Rn key p a q)(t:Nat):kk key (kas_rev p (a - (q+1)) a) t=kk key p t:=by
 rw[rT hp ha]
 split
 ·rename_i h
  rw[hr.2 t (by omega) h.2]
  exact hr.2 _ (by have:=hr.1;omega) (by omega)
 ·rfl
def Dn.eq{p':Array Nat}{m:Nat}(h:Dn key p m)(e:∀t,kk key p' t=kk key p t):Dn key p' m:=λi j a b=>by rw[e,e];exact h i j a b
def yR:∀(f:Nat) (p:Array Nat) (a q:Nat),Pm n p->1<=a->a+f<=n->Dn key p a->Rn key p a q ->
  kwp n key (kas_desc f p a q) (λr=>Pm n r.1/\a<=r.2.1/\r.2.1<=a+f/\Dn key r.1 r.2.1/\Rn key r.1 r.2.1 r.2.2)
 |0,p,a,q,hp,h1,hf,hd,hr=>⟨hp,Å _,Å _,hd,hr⟩
 |f+1,p,a,q,hp,h1,hf,hd,hr=>by
  refine⟨hp.lt (by omega),hp.lt (by omega),?_⟩
  have fin:∀{p':Array Nat}{q':Nat},Pm n p'->Dn key p' (a+1)->Rn key p' (a+1) q'->kwp n key (kas_desc f p' (a+1) q') (λr=>Pm n r.1/\a<=r.2.1/\r.2.1<=a+(f+1)/\Dn key r.1 r.2.1/\Rn key r.1 r.2.1 r.2.2):=λx y z =>
   bB (λr ⟨a1,a2,a3,a4,a5⟩=>⟨a1,by omega,by omega,a4,a5⟩) (yR f _ (a+1) _ x (by omega) (by omega) y z)
  have rn0:∀p':Array Nat,Rn key p' (a+1) 0:=λp'=>⟨by omega,λt h1 h2=>by
   have e:t=a+1 - 1:=by omega
   rw[e]⟩
  by_cases hc:key (p.getD a 0)<key (p.getD (a - 1) 0)
  ·(rw[decide_eq_true hc];dsimp only;rw[if_pos rfl])
   have hc':kk key p a<kk key p (a - 1):=hc
   by_cases hq:q > 0
   ·rw[if_pos hq]
    have e:=xX (key:=key) hp (by omega) hr
    exact fin (hp.rev _ _) ((hd.more h1 (ú hc')).eq e) (rn0 _)
   ·rw[if_neg hq]
    exact fin hp (hd.more h1 (ú hc')) (rn0 _)
  ·(rw[decide_eq_false hc];dsimp only;rw[if_neg Ð])
   refine⟨hp.lt (by omega),hp.lt (by omega),?_⟩
   by_cases hc2:key (p.getD (a - 1) 0)<key (p.getD a 0)
   ·(rw[decide_eq_true hc2];dsimp only;rw[if_pos rfl])
    exact⟨hp,Å _,(by show a<=a+(f+1);omega),hd,hr⟩
   ·(rw[decide_eq_false hc2];dsimp only;rw[if_neg Ð])
    have e:kk key p a=kk key p (a - 1):=Int.le_antisymm (Ĺ.mp hc2) (Ĺ.mp hc)
    refine fin hp (hd.more h1 (Int.le_of_eq e)) ⟨by have:=hr.1;omega,λt t1 t2=>?_⟩
    show _=kk key p a
    by_cases ht:t=a
    ·rw[ht]
    ·rw[e]
     exact hr.2 t (by omega) (by omega)
def tU{a:Nat}(hp:Pm n p)(h1:1<=a)(ha:a<=n)(hd:Dn key p a):kwp n key (kas_tail3 a n p) (λr=>Pm n r.2/\1<=r.1/\r.1<=n/\Up key r.2 r.1):=by
 unfold kas_tail3
 have hu:Up key (kas_rev p 0 a) a:=λi j hij hj=>by
  rw[rT hp ha,rT hp ha,if_pos ⟨by omega,by omega⟩,if_pos ⟨by omega,hj⟩]
  exact hd _ _ (by omega) (by omega)
 refine dZ (bB (λm ⟨a1,a2,a3,_⟩=>?_) (xr (hp.rev 0 a) (n - a) a h1 (by omega) hu))
 exact⟨hp.rev 0 a,by omega,by omega,a3⟩
def lO{a:Nat}(hp:Pm n p)(ha:a+1<=n)(hd:Dn key p (a+1)):kwp n key (kas_descPart a n p) (λr=>Pm n r.2/\1<=r.1/\r.1<=n/\Up key r.2 r.1):=by
 unfold kas_descPart
 refine dZ (bB (λr ⟨a1,a2,a3,a4,a5⟩=>?_) (yR (n - (a+1)) p (a+1) 0 hp (by omega) (by omega) hd ⟨by omega,λt h1 h2=>by
  have e:t=a+1 - 1:=by omega
  rw[e]⟩))
 split
 ·exact tU (a1.rev _ _) (by omega) (by omega) (a4.eq (xX a1 (by omega) a5))
 ·exact tU a1 (by omega) (by omega) a4
def Gs(hp:Pm n p)(h1:1<=n):kwp n key (kas_count n p) (λr=>Pm n r.2/\1<=r.1/\r.1<=n/\Up key r.2 r.1):=by
 unfold kas_count
 have u1:Up key p 1:=λi j hij hj=>by
  have e:i=j:=by omega
  rw[e];exact ÿ _
 refine dZ (bB (λm ⟨a1,a2,a3,a4⟩=>?_) (xr hp (n - 1) 1 (Å _) (by omega) u1))
 by_cases hm:m=n
 ·rw[if_pos (by simpa using hm)]
  exact⟨hp,by omega,by omega,a3⟩
 ·rw[if_neg (by simpa using hm)]
  have hlt:=a4 (by omega)
  by_cases hm1:m > 1
  ·rw[if_pos hm1]
   refine⟨hp.lt (by omega),hp.lt (by omega),?_⟩
   by_cases hc:key (p.getD 0 0)<key (p.getD (m - 1) 0)
   ·(rw[decide_eq_true hc];dsimp only;rw[if_pos rfl])
    exact⟨hp,by omega,by omega,a3⟩
   ·(rw[decide_eq_false hc];dsimp only;rw[if_neg Ð])
    have hall:∀t,t<m->kk key p t=kk key p 0:=λt ht=>by
     have e1:=a3 0 t (by omega) ht
     have e2:=a3 t (m - 1) (by omega) (by omega)
     have e3:kk key p (m - 1)<=kk key p 0:=Ĺ.mp hc
     omega
    have e:∀t,kk key (kas_rev p 0 m) t=kk key p t:=λt=>by
     rw[rT hp (by omega)]
     split
     ·rename_i h
      rw[hall t h.2,hall _ (by omega)]
     ·rfl
    refine lO (hp.rev 0 m) (by omega) (Dn.eq (p:=p) (Dn.more (λi j hij hj=>?_) (by omega) (ú hlt)) e)
    rw[hall i (by omega),hall j hj]
    exact ÿ _
  ·rw[if_neg hm1]
   obtain rfl:m=1:=by omega
   refine lO hp (by omega) (Dn.more (λi j hij hj=>?_) (by omega) (ú hlt))
   have e:i=j:=by omega
   rw[e];exact ÿ _
def nG{k:Nat}(hp:Pm n p)(hk:k<n)(hu:Up key p k):∀(f l r:Nat),l<=r->r<=k->r<=l+f->(∀t,t<l->kk key p t<=kk key p k)->(∀t,r<=t->t<k->kk key p k<kk key p t) ->
  kwp n key (kas_place p k f l r) (λl'=>l'<=k/\(∀t,t<l'->kk key p t<=kk key p k)/\(∀t,l'<=t->t<k->kk key p k<kk key p t))
 |0,l,r,h1,h2,h3,h4,h5=>⟨by omega,h4,λt a b=>h5 t (by omega) b⟩
 |f+1,l,r,h1,h2,h3,h4,h5=>by
  unfold kas_place
  by_cases hlr:l ≥ r
  ·rw[if_pos hlr]
   exact⟨by omega,h4,λt a b=>h5 t (by omega) b⟩
  ·rw[if_neg hlr]
   have hm:(l+r) / 2<r:=by omega
   refine⟨hp.lt hk,hp.lt (by omega),?_⟩
   by_cases hc:key (p.getD k 0)<key (p.getD ((l+r) / 2) 0)
   ·(rw[decide_eq_true hc];dsimp only;rw[if_pos rfl])
    have hc':kk key p k<kk key p ((l+r) / 2):=hc
    exact nG hp hk hu f l _ (by omega) (by omega) (by omega) h4 λt a b=>Int.lt_of_lt_of_le hc' (hu _ t a b)
   ·(rw[decide_eq_false hc];dsimp only;rw[if_neg Ð])
    have hc':kk key p ((l+r) / 2)<=kk key p k:=Ĺ.mp hc
    exact nG hp hk hu f _ r (by omega) (by omega) (by omega) (λt a=>Ă (hu t _ (by omega) (by omega)) hc') h5
def Gx:∀(f:Nat) (p:Array Nat) (k:Nat),Pm n p->k+f<=n->Up key p k->kwp n key (kas_bin f p k) (λp'=>Pm n p'/\Up key p' (k+f))
 |0,p,k,hp,hk,hu=>⟨hp,hu⟩
 |f+1,p,k,hp,hk,hu=>by
  unfold kas_bin
  refine dZ (bB (λl ⟨a1,a2,a3⟩=>?_) (nG hp (by omega) hu k 0 k (û _) (Å _) (by omega) (λt h=>absurd h (by omega)) (λt h1 h2=>absurd h1 (by omega))))
  have e:=Lz (key:=key) hp (k:=k) (by omega) a1
  have hu':Up key (bubble p k (k - l)) (k+1):=λi j hij hj=>by
   rw[e,e]
   by_cases hi:i=l
   ·rw[if_pos hi]
    by_cases hj':j=l
    ·rw[if_pos hj'];exact ÿ _
    ·rw[if_neg hj',if_pos ⟨by omega,by omega⟩]
     exact ú (a3 _ (by omega) (by omega))
   ·rw[if_neg hi]
    by_cases hi2:l<i/\i<=k
    ·rw[if_pos hi2,if_neg (by omega),if_pos ⟨by omega,by omega⟩]
     exact hu _ _ (by omega) (by omega)
    ·rw[if_neg hi2]
     by_cases hj':j=l
     ·rw[if_pos hj']
      exact a2 i (by omega)
     ·rw[if_neg hj']
      by_cases hj2:l<j/\j<=k
      ·rw[if_pos hj2]
       exact hu _ _ (by omega) (by omega)
      ·rw[if_neg hj2]
       exact hu _ _ hij (by omega)
  refine bB (λp' ⟨b1,b2⟩=>⟨b1,?_⟩) (Gx f _ (k+1) (hp.bub _ _) (by omega) hu')
  have e2:k+(f+1)=k+1+f:=by omega
  rw[e2];exact b2
def G4(h1:1<=n):kwp n key (kas_sort n) (λp=>Pm n p/\Up key p n):=by
 unfold kas_sort
 refine dZ (bB (λr ⟨a1,a2,a3,a4⟩=>?_) (Gs (p:=(ä n).toArray) (Array.Perm.refl _) h1))
 have e:max r.1 1=r.1:=by omega
 rw[e]
 split
 ·refine bB (λp' ⟨b1,b2⟩=>⟨b1,?_⟩) (Gx (n - r.1) r.2 r.1 a1 (by omega) a4)
  have e2:r.1+(n - r.1)=n:=by omega
  rw[e2] at b2;exact b2
 ·have e2:r.1=n:=by omega
  rw[e2] at a4
  exact⟨a1,a4⟩
end
end NfSort
namespace L2
open PySem PySem.Spec PyProof.Rows
section
variable {prog:Program}{w:World}{A:Around}{E:Value->Shared->Prop}{s:Shared}
end
section
variable {X:Cx}{pos:Pos}
def Ip(K:Ø)(n:Nat)(t:TGs):TG:=λv σ H Q=>∃a xs,v=.ref a/\SqL K H a xs/\xs.length=n/\t xs σ H Q
end
section
variable {X:Cx}
def sX:bH X (.builtin "isinstance") (λxs H Q=>∃x c t b,xs=[x,.ty c]/\TyOf X.K H x t/\ŭ X.K t (.type c)=some b/\Q (.bl b) H):=by
 intro pins s σ H xs us Q I r h
 obtain⟨x,c,t,b,rfl,ty,e,q⟩:=h
 obtain⟨u,u2,rfl,rx,rc⟩:=vals2 r
 cases rc
 exact Ah I rx ty e λtk=>⟨.bl b,H,I.tok _,rfl,q⟩
def sW:bH X (.builtin "isinstance") (λxs H Q=>∃x p c1 c2 t b,xs=[x,.ref p]/\TyOf X.K H x t/\SqT X.K H p [.ty c1,.ty c2]/\W.kitAny X.K t [.type c1,.type c2]=some b/\Q (.bl b) H):=by
 intro pins s σ H xs us Q I r h
 obtain⟨x,p,c1,c2,t,b,rfl,ty,hp,e,q⟩:=h
 obtain⟨u,u2,rfl,rx,rc⟩:=vals2 r
 cases rc
 obtain⟨its,rv,⟨o,ho,hcl,n,hd⟩,hz⟩:=I.tuple hp
 obtain⟨v1,v2,rfl,r1,r2⟩:=vals2 rv
 cases r1
 cases r2
 obtain⟨oc,od,odt,osl⟩:=o
 cases hcl
 cases hd
 have fin:∀tk,EP X pins σ Q (.bool b) { s with toks:=tk }:=λtk=>⟨.bl b,H,I.tok _,rfl,q⟩
 cases ty with
 |non=>cases (show u=ĭ from rx);exact Ť W.kitx_none I.kIn Ř ho e (λz=>nomatch z) fin
 |bl y=>cases (show u=Ũ y from rx);exact Ť W.kitx_bool I.kIn Ř ho e (λz=>nomatch z) fin
 |int i=>obtain⟨t,q⟩:=(show ∃t,u=Đ i t from rx);cases q;exact Ť W.kitx_int I.kIn Ř ho e (λz=>nomatch z) fin
 |str y=>obtain⟨t,q⟩:=(show ∃t,u=Value.str y t from rx);cases q;exact Ť W.kitx_str I.kIn Ř ho e (λz=>nomatch z) fin
 |flt y=>obtain⟨t,q⟩:=(show ∃t,u=Value.float y t from rx);cases q;exact Ť W.kitx_float I.kIn Ř ho e (λz=>nomatch z) fin
 |@lst a xs ea =>
  cases (show u=ĕ a from rx)
  obtain⟨_,_,n,_,h1⟩:=(show bx X.prog X.w H s.heap a (.lst xs) from I.hok a _ ea)
  exact Ť W.kitx_list I.kIn ⟨_,h1,rfl⟩ ho e (λz=>nomatch z) fin
 |@frz a ob xs ea =>
  cases (show u=ĕ a from rx)
  obtain⟨_,_,_,n,_,h1⟩:=(show bx X.prog X.w H s.heap a (.frz ob (.lst xs)) from I.hok a _ ea)
  exact Ť W.kitx_list I.kIn ⟨_,h1,rfl⟩ ho e (λz=>nomatch z) fin
 |@tup a xs ea =>
  cases (show u=ĕ a from rx)
  obtain⟨_,_,_,p⟩:=(show bx X.prog X.w H s.heap a (.tup xs) from I.hok a _ ea)
  obtain⟨o,h1,h2,_⟩:=p
  exact Ť W.kitx_tuple I.kIn ⟨o,h1,h2⟩ ho e (λz=>nomatch z) fin
 |@dK a kvs ea =>
  cases (show u=ĕ a from rx)
  obtain⟨_,_,vs,_,p⟩:=(show bx X.prog X.w H s.heap a (.dK kvs) from I.hok a _ ea)
  obtain⟨o,es,ep,h1,h2,_⟩:=p
  exact Ť W.kitx_dict I.kIn ⟨o,h1,h2.1⟩ ho e (λz=>nomatch z) fin
 |@dT a kvs ea =>
  cases (show u=ĕ a from rx)
  obtain⟨_,_,xs,_,o,es,ep,h1,h2,_⟩:=(show bx X.prog X.w H s.heap a (.dT kvs) from I.hok a _ ea)
  exact Ť W.kitx_dict I.kIn ⟨o,h1,h2.1⟩ ho e (λz=>nomatch z) fin
 |@ins a C dx fs ea cl ha hn htk hm =>
  cases (show u=ĕ a from rx)
  obtain⟨mA,O,_⟩:=yM I.hok ea
  obtain⟨od,J,_⟩:=O.look
  exact Ť (W.kitx_own (cl.get _) cl.hd ha hn htk hm) I.kIn J ho e (λz=>nomatch z) fin
def xJ:∀{bs:List Bool}{us:List Value},Vals (bs.map V.bl) us->us=bs.map Ũ
 |[],_,h=>by cases h;rfl
 |b::bs,_,h=>by
  cases h with
  |cons r t =>
   cases r
   rw[xJ t]
   rfl
def all_range(bs:List Bool):(ä bs.length).all (λi=>bs.getD i true)=bs.all id:=by
 rw[į]
 simp only[Č,List.mem_range]
 constructor
 ·intro h x hx
  obtain⟨i,hi,e⟩:=ī.mp hx
  have q:=h i hi
  simp[hi] at q
  rw[←e];exact q
 ·intro h i hi
  have q:=h bs[i] (List.getElem_mem hi)
  simpa[hi] using q
def Ba(hc:X.calm=true):bH X (.builtin "all") (λxs H Q=>∃(p:Addr) (bs:List Bool),xs=[.ref p]/\SqL X.K H p (bs.map V.bl)/\Q (.bl (bs.all id)) H):=by
 intro pins s σ H xs us Q I r h
 obtain⟨p,bs,rfl,hp,q⟩:=h
 obtain⟨u,rfl,rx⟩:=vals1 r
 cases rx
 obtain⟨its,rv,pl,hz⟩:=I.list hp
 have e:=xJ rv
 subst e
 have hlt:p≠s.heap.objs.size:=by obtain⟨o,ho,_⟩:=pl.isList;exact ã (É ho)
 refine call_all_walk (wpAny_pyIter_list pl.isList ?_)
 refine⟨_,_,_,_,_,_,λi=>bs.getD i true,rfl,Walks.list (A:=X.A.in1) (I.ok.hd hc) _ p hlt _,⟨⟨_,Û _ rfl,rfl,rfl⟩,pl.isList.push _⟩,?_,λh' tk hk=>?_⟩
 ·intro i v s Q E hP hQ
  have hP':(bs.map Ũ)[i]?=some v:=by simpa using hP
  rw[Þ] at hP'
  cases hb:bs[i]? with
  |none=>rw[hb] at hP';cases hP'
  |some b =>
   rw[hb] at hP'
   cases hP'
   refine ĳ ?_
   have e:bs.getD i true=b:=by rw[Ü,hb];rfl
   have hQ':Q (bs.getD i true) s:=hQ
   rw[e] at hQ'
   exact hQ'
 ·have e:(ä (bs.map Ũ).toArray.size).all (λi=>bs.getD i true)=bs.all id:=by
   rw[Ì,Á]
   exact all_range bs
  rw[e]
  refine⟨.bl (bs.all id),H,I.kept λb o eb=>hk b o ?_ (Ç _ eb),rfl,q⟩
  intro hm
  have:b=s.heap.objs.size:=by simpa using hm
  exact absurd (É eb) (by rw[this];exact ó _)
def Ar(hc:X.calm=true):bH X (.builtin "min") (λxs H Q=>∃p a b,xs=[.ref p]/\SqT X.K H p [.int a,.int b]/\Q (.int (if b<a then b else a)) H):=by
 intro pins s σ H xs us Q I r h
 obtain⟨p,a,b,rfl,hp,q⟩:=h
 obtain⟨u,rfl,rx⟩:=vals1 r
 cases rx
 obtain⟨its,rv,pl,hz⟩:=I.tuple hp
 obtain⟨v1,v2,rfl,⟨t1,rfl⟩,⟨t2,rfl⟩⟩:=vals2 rv
 have pl':s.heap.IsTuple p (intItems #[(a,t1),(b,t2)]):=by
  have z:s.heap.IsTuple p #[Đ a t1,Đ b t2]:=pl
  simpa[intItems] using z
 have hlt:p<s.heap.objs.size:=by obtain⟨o,ho,_⟩:=pl;exact É ho
 refine call_min_walk (wpAny_pyIter_tuple pl' ?_)
 refine⟨_,[s.heap.objs.size,p],[s.heap.objs.size],_,_,_,_,rfl,Walks.tuple (A:=X.A.in1) (I.ok.hd hc) _ p (ã hlt) (intItems #[(a,t1),(b,t2)]),⟨⟨_,Û _ rfl,rfl,rfl⟩,pl'.push _⟩,λc hc=>?_,by simp[intItems],
  CmpOf.ints_lt (numAt #[(a,t1),(b,t2)]) (λ_ _=>intItems_at),λv h' tk hP hk=>?_⟩
 ·show c<(s.heap.push _).objs.size
  rw[Ń]
  rcases Ē.mp hc with rfl|hc
  ·exact ś _
  ·have:c=p:=by simpa using hc
   rw[this];exact ă hlt
 ·have hv:v=if b<a then Đ b t2 else Đ a t1:=by
   have hP':(intItems #[(a,t1),(b,t2)])[argBest (λi j=>decide (numAt #[(a,t1),(b,t2)] i<numAt #[(a,t1),(b,t2)] j)) 1]?=some v:=by
    have hsz2:(intItems #[(a,t1),(b,t2)]).size - 1=1:=by simp[intItems]
    rw[←hsz2];exact hP
   by_cases hba:b<a
   ·have e:argBest (λi j=>decide (numAt #[(a,t1),(b,t2)] i<numAt #[(a,t1),(b,t2)] j)) 1=1:=by simp[argBest,numAt,hba]
    rw[e] at hP'
    simpa[intItems,hba] using hP'.symm
   ·have e:argBest (λi j=>decide (numAt #[(a,t1),(b,t2)] i<numAt #[(a,t1),(b,t2)] j)) 1=0:=by simp[argBest,numAt,hba]
    rw[e] at hP'
    simpa[intItems,hba] using hP'.symm
  subst hv
  refine⟨.int (if b<a then b else a),H,I.kept λb o eb=>hk b o ?_ (Ç _ eb),?_,q⟩
  ·intro hm
   have:b=s.heap.objs.size:=by simpa using hm
   exact absurd (É eb) (by rw[this];exact ó _)
  ·by_cases hba:b<a
   ·rw[if_pos hba,if_pos hba];exact⟨_,rfl⟩
   ·rw[if_neg hba,if_neg hba];exact⟨_,rfl⟩
def Aw(hc:X.calm=true):bH X (.builtin "max") (λxs H Q=>∃p a b,xs=[.ref p]/\SqT X.K H p [.int a,.int b]/\Q (.int (if b > a then b else a)) H):=by
 intro pins s σ H xs us Q I r h
 obtain⟨p,a,b,rfl,hp,q⟩:=h
 obtain⟨u,rfl,rx⟩:=vals1 r
 cases rx
 obtain⟨its,rv,pl,hz⟩:=I.tuple hp
 obtain⟨v1,v2,rfl,⟨t1,rfl⟩,⟨t2,rfl⟩⟩:=vals2 rv
 have pl':s.heap.IsTuple p (intItems #[(a,t1),(b,t2)]):=by
  have z:s.heap.IsTuple p #[Đ a t1,Đ b t2]:=pl
  simpa[intItems] using z
 have hlt:p<s.heap.objs.size:=by obtain⟨o,ho,_⟩:=pl;exact É ho
 refine call_max_walk (wpAny_pyIter_tuple pl' ?_)
 refine⟨_,[s.heap.objs.size,p],[s.heap.objs.size],_,_,_,_,rfl,Walks.tuple (A:=X.A.in1) (I.ok.hd hc) _ p (ã hlt) (intItems #[(a,t1),(b,t2)]),⟨⟨_,Û _ rfl,rfl,rfl⟩,pl'.push _⟩,λc hc=>?_,by simp[intItems],
  CmpOf.ints_gt (numAt #[(a,t1),(b,t2)]) (λ_ _=>intItems_at),λv h' tk hP hk=>?_⟩
 ·show c<(s.heap.push _).objs.size
  rw[Ń]
  rcases Ē.mp hc with rfl|hc
  ·exact ś _
  ·have:c=p:=by simpa using hc
   rw[this];exact ă hlt
 ·have hv:v=if b > a then Đ b t2 else Đ a t1:=by
   have hP':(intItems #[(a,t1),(b,t2)])[argBest (λi j=>decide (numAt #[(a,t1),(b,t2)] i > numAt #[(a,t1),(b,t2)] j)) 1]?=some v:=by
    have hsz2:(intItems #[(a,t1),(b,t2)]).size - 1=1:=by simp[intItems]
    rw[←hsz2];exact hP
   by_cases hba:b > a
   ·have e:argBest (λi j=>decide (numAt #[(a,t1),(b,t2)] i > numAt #[(a,t1),(b,t2)] j)) 1=1:=by simp[argBest,numAt,hba]
    rw[e] at hP'
    simpa[intItems,hba] using hP'.symm
   ·have e:argBest (λi j=>decide (numAt #[(a,t1),(b,t2)] i > numAt #[(a,t1),(b,t2)] j)) 1=0:=by simp[argBest,numAt,hba]
    rw[e] at hP'
    simpa[intItems,hba] using hP'.symm
  subst hv
  refine⟨.int (if b > a then b else a),H,I.kept λb o eb=>hk b o ?_ (Ç _ eb),?_,q⟩
  ·intro hm
   have:b=s.heap.objs.size:=by simpa using hm
   exact absurd (É eb) (by rw[this];exact ó _)
  ·by_cases hba:b > a
   ·rw[if_pos hba,if_pos hba];exact⟨_,rfl⟩
   ·rw[if_neg hba,if_neg hba];exact⟨_,rfl⟩
def qm:bH X (.type "range") (λxs H Q=>∃j,xs=[.int j]/\∀p,H p=none->Q (.ref p) (upd H p (.rng 0 j))):=by
 intro pins s σ H xs us Q I r h
 obtain⟨j,rfl,q⟩:=h
 obtain⟨u,rfl,t,rfl⟩:=vals1 r
 refine call_range_1 ?_
 exact⟨.ref s.heap.objs.size,_,I.laid (o:=.rng 0 j) (λb o e=>Ç _ e) (Å _) ⟨_,_,_,Û _ rfl⟩,rfl,q _ I.fresh⟩
def lW(lo hi:Int):List V:=(ä (hi - lo).toNat).map λi=>V.int (lo+(i:Nat))
def vG{lo:Int}:∀{n:Nat}{us:List Value},us.length=n->(∀j v,us[j]?=some v->∃t,v=Đ (lo+(j:Nat) * 1) t)->Vals ((ä n).map λi=>V.int (lo+(i:Nat))) us:=by
 intro n us hl h
 have key:∀(us:List Value) (k:Nat),(∀j v,us[j]?=some v->∃t,v=Đ (lo+((k+j:Nat):Int)) t)->Vals ((List.range' k us.length).map λi=>V.int (lo+(i:Nat))) us:=by
  intro us
  induction us with
  |nil=>intro k _;exact .nil
  |cons u us ih =>
   intro k hk
   obtain⟨t,e⟩:=hk 0 u (by simp)
   rw[ð,List.range'_succ,ë]
   refine .cons ⟨t,by simpa using e⟩ (ih (k+1) λj v hv=>?_)
   obtain⟨t,e⟩:=hk (j+1) v (by simpa using hv)
   exact⟨t,by rw[e];congr 2;omega⟩
 have q:=key us 0 λj v hv=>by
  obtain⟨t,e⟩:=h j v hv
  exact⟨t,by rw[e];simp⟩
 rw[hl,←List.range_eq_range'] at q
 exact q
def jg(hc:X.calm=true):bH X (.type "list") (λxs H Q=>∃p lo hi,xs=[.ref p]/\H p=some (.rng lo hi)/\(-1000<=lo/\lo<=1000/\-1000<=hi/\hi<=1000)/\∀l,H l=none->Q (.ref l) (upd H l (.lst (lW lo hi)))):=by
 intro pins s σ H xs us Q I r h
 obtain⟨p,lo,hi,rfl,hp,⟨b1,b2,b3,b4⟩,q⟩:=h
 obtain⟨u,rfl,rx⟩:=vals1 r
 cases rx
 obtain⟨t,u,v,e⟩:=I.hok p _ hp
 have hsz:Builtin.Range.rangeSize lo hi 1=(((hi - lo).toNat:Nat):Int):=by rw[rangeSize_one];split <;> omega
 refine call_list_range (I.ok.hd hc) (show IsRange s.heap p lo hi 1 t u v from e) (small_one (by omega) (by omega) (by omega) (by omega)) hsz (by omega) λh' tk acc' c' hk ho ⟨hn,hit⟩=>?_
 have hv:Vals (lW lo hi) acc'.toList:=vG (by simpa using hn) λj w hw=>hit j w (by simpa using hw)
 refine⟨.ref s.heap.objs.size,_,I.laid (o:=.lst (lW lo hi)) hk (Å _) ⟨?_,acc'.toList,c',hv,by simpa using ho⟩,rfl,q _ I.fresh⟩
 unfold lW
 rw[Á,List.length_range,ì]
 omega
end
abbrev Tie:=Int×Int
def Pr(H:Hp)(v:V)(t:Tie):Prop:=∃p,v=.ref p/\H p=some (.tup [.int t.1,.int t.2])
abbrev Prs(H:Hp):List V->List Tie->Prop:=Paired (Pr H)
def aN(t:Tie):Int:=64 * t.1+t.2
def vB(t:Tie):Prop:=0<=t.2/\t.2<64
def iJ(h:Heap)(u:Value)(t:Tie):Prop:=∃a o t1 t2 n,u=.ref a/\h.get? a=some o/\o.cls=.type "tuple"/\o.data=.seq #[.int t.1 t1,.int t.2 t2] n
def iJ.keep{h h':Heap}{u:Value}{t:Tie}(x:iJ h u t)(k:∀a o,h.get? a=some o->o.cls=.type "tuple"->h'.get? a=some o):iJ h' u t:=by
 obtain⟨a,o,t1,t2,n,e,ho,hc,hd⟩:=x
 exact⟨a,o,t1,t2,n,e,k a o ho hc,hc,hd⟩
def Og{α β:Type}{F:α->β->Prop}{l₁:List α}{l₂:List β}(h:Paired F l₁ l₂):∀{i:Nat}{b:β},l₂[i]?=some b->∃a,l₁[i]?=some a/\F a b:=by
 induction h with
 |nil=>intro i x e;simp at e
 |cons r t ih =>
  intro i x e
  cases i with
  |zero=>simp at e;subst e;exact⟨_,rfl,r⟩
  |succ i =>
   obtain⟨c,e1,f⟩:=ih (by simpa using e)
   exact⟨c,by simpa using e1,f⟩
def CJ{α β:Type}{F:α->β->Prop}{l₁:List α}{l₂:List β}(h:Paired F l₁ l₂)(da:α)(db:β):∀(p:List Nat),(∀i∈p,i<l₂.length)->Paired F (p.map λi=>l₁.getD i da) (p.map λi=>l₂.getD i db)
 |[],_=>.nil
 |i::p,hp=>by
  have hi:i<l₂.length:=hp i Ú
  obtain⟨a,e,f⟩:=Og h (i:=i) (b:=l₂[i]) (by simp[hi])
  refine .cons ?_ (CJ h da db p λj hj=>hp j (Õ _ hj))
  have e1:l₁.getD i da=a:=by rw[Ü,e];rfl
  have e2:l₂.getD i db=l₂[i]:=by simp[hi]
  show F (l₁.getD i da) (l₂.getD i db)
  rw[e1,e2]
  exact f
def Nx{α:Type}:∀us:List α,List.map (λx=>x.snd) (us.zip us)=us
 |[]=>rfl
 |u::us=>by rw[List.zip_cons_cons,ë,Nx us]
def iu{α:Type}(l:List α)(d:α):(ä l.length).map (λi=>l.getD i d)=l:=by
 apply List.ext_getElem
 ·simp
 ·intro i h1 h2
  simp at h1 ⊢
  simp[h1]
section
variable {X:Cx}{pins:List (Addr×Obj)}{σ:St}{H:Hp}{s:Shared}
def Inv.pairs(I:Inv X pins σ H s):∀{vs:List V}{ts:List Tie}{us:List Value},Prs H vs ts->Vals vs us->Paired (iJ s.heap) us ts
 |_,_,_,.nil,r=>by cases r;exact .nil
 |_,_,_,.cons p q,r=>by
  cases r with
  |cons r rr =>
   refine .cons ?_ (I.pairs q rr)
   obtain⟨a,rfl,e⟩:=p
   cases r
   obtain⟨_,its,rv,⟨o,ho,hc,n,hd⟩⟩:=I.hok a _ e
   obtain⟨v1,v2,rfl,⟨t1,rfl⟩,⟨t2,rfl⟩⟩:=vals2 rv
   exact⟨a,o,t1,t2,n,rfl,ho,hc,hd⟩
end
section
variable {prog:Program}{w:World}{A:Around}{E:Value->Shared->Prop}{s:Shared}
def En{x y:Value}{a b:Tie}{Q:Bool->Shared->Prop}(hx:iJ s.heap x a)(hy:iJ s.heap y b)(na:vB a)(nb:vB b)(h:Q (decide (aN a<aN b)) s):wpAny (model prog w) A (keyLt' (tuples' true) x y) Q E s:=by
 obtain⟨p,o,t1,t2,n,rfl,ho,hc,hd⟩:=hx
 obtain⟨p',o',t1',t2',n',rfl,ho',hc',hd'⟩:=hy
 obtain⟨a1,a2⟩:=a
 obtain⟨b1,b2⟩:=b
 unfold vB at na nb
 simp only at na nb
 refine W.kat_lt ho hd ho' hd' ?_
 refine W.kat_cons (wpAny_eqBool_int ?_)
 by_cases e1:a1=b1
 ·subst e1
  rw[beq_self_eq_true]
  refine W.kat_yes (W.kat_cons (wpAny_eqBool_int ?_))
  by_cases e2:a2=b2
  ·subst e2
   rw[beq_self_eq_true]
   refine W.kat_yes (W.kat_nil ?_)
   have e:decide (aN (a1,a2)<aN (a1,a2))=false:=decide_eq_false (Int.lt_irrefl _)
   rw[e] at h
   exact h
  ·rw[beq_eq_false_iff_ne.mpr e2]
   refine W.kat_no (W.kat_one _ _ (lt_int ?_))
   have e:decide (aN (a1,a2)<aN (a1,b2))=decide (a2<b2):=by
    apply decide_eq_decide.mpr
    unfold aN
    omega
   rw[e] at h
   exact h
 ·rw[beq_eq_false_iff_ne.mpr e1]
  refine W.kat_no (oneLt_int ?_)
  have e:decide (aN (a1,a2)<aN (b1,b2))=decide (a1<b1):=by
   apply decide_eq_decide.mpr
   unfold aN
   simp only
   constructor
   ·intro h;omega
   ·intro h;omega
  rw[e] at h
  exact h
def Fe:∀{us:List Value}{ts:List Tie},Paired (iJ s.heap) us ts->∃fs,W.KatTups s.heap us fs/\fs.length=us.length/\∀v∈fs,∃i t,v=Đ i t
 |_,_,.nil=>⟨[],.nil,rfl,λ_ h=>nomatch h⟩
 |_,_,.cons p q=>by
  obtain⟨a,o,t1,t2,n,rfl,ho,hc,hd⟩:=p
  obtain⟨fs,k,hl,hv⟩:=Fe q
  refine⟨_::fs,.cons ho hc hd (f:=Đ _ t1) rfl k,by simp[hl],λv hv'=>?_⟩
  rcases Ē.mp hv' with rfl|h
  ·exact⟨_,_,rfl⟩
  ·exact hv v h
def M5{n:Nat}{key:Nat->Int}{p:Array Nat}(hp:NfSort.Pm n p)(h1:1<=n)(hs:NfSort.Up key p n):NfSort.kwp n key (W.kas_count n p) (λr=>r.1=n/\r.2=p):=by
 unfold W.kas_count
 have go:∀(f a:Nat),1<=a->a+f=n->NfSort.kwp n key (W.kas_asc p f a) (λm=>m=n):=by
  intro f
  induction f with
  |zero=>intro a _ h;exact h
  |succ f ih =>
   intro a ha h
   refine⟨hp.lt (by omega),hp.lt (by omega),?_⟩
   have hc:¬key (p.getD a 0)<key (p.getD (a - 1) 0):=Int.not_lt.mpr (hs (a - 1) a (by omega) (by omega))
   rw[decide_eq_false hc]
   exact ih (a+1) (by omega) (by omega)
 refine NfSort.dZ (NfSort.bB (λm e=>?_) (go (n - 1) 1 (Å _) (by omega)))
 rw[if_pos (by simpa using e)]
 exact⟨e,rfl⟩
open PySem.W in
def G7{prog:Program}{w:World}{A:Around}{E:Value->Shared->Prop}{κ:SortKind}{it:Array Keyed}{n:Nat}{Q:Unit->SortSt->Shared->Prop}{G:Array Nat->Shared->Prop}{s:Shared}(h2:2<=n)(hmr:minRun' n n 0<=n)(hG:∀p' st' s',p'.size=n->arrOf st'=p'.map (kas_item it)->failedOf st'=none->G p' s'->Q () st' s')(h:(kas_count n (ļ (ä n))).kasWp (kas_cmp prog w A κ it) (λr s'=>r.1=n/\G r.2 s') s) :
  kasC (model prog w) A E sortRuns' Q (kas_st κ it (ļ (ä n))) s:=by
 obtain⟨r,rfl⟩:∃r,n=r+2:=⟨n - 2,by omega⟩
 have hrs:(ļ (ä (r+2))).size=r+2:=by simp
 rw[sortRuns'_eq]
 refine kasC_bind (kasC_get ?_)
 dsimp only
 have hsz:(arrOf (kas_st κ it (ļ (ä (r+2))))).size=r+2:=by
  show((ļ (ä (r+2))).map (kas_item it)).size=_
  rw[Array.size_map,hrs]
 simp only[hsz]
 refine kasC_bind (kasC_range ?_)
 show kasC _ _ _ (forIn (0::1::List.range' 2 r) _ _) _ _ _
 refine kasC_cons ?_
 dsimp only
 rw[if_neg (by omega)]
 simp only[Nat.sub_zero,Nat.zero_add]
 refine kasC_bind (kas_count_ (by omega) (by rw[hrs];exact Å _) (λm p' s' hm1 hm2 hp hg=>?_) h)
 have hps:p'.size=r+2:=hp.trans hrs
 obtain⟨e,hg⟩:=hg
 have e':m=r+2:=e
 subst e'
 dsimp only
 rw[if_neg (by omega)]
 refine kasC_bind (kasC_get ?_)
 rw[show(pendingOf (kas_st κ it p')).back?=none from rfl]
 dsimp only
 refine kasC_bind (kasC_modify (kasC_pure ?_))
 show kasC _ _ _ (forIn (1::List.range' 2 r) _ _) _ _ _
 refine kasC_cons ?_
 dsimp only
 rw[if_pos (Å _)]
 refine kasC_pure ?_
 dsimp only
 refine kasC_bind (kasC_range ?_)
 show kasC _ _ _ (forIn (0::1::List.range' 2 r) _ _) _ _ _
 refine kasC_cons ?_
 refine kasC_bind (kasC_get ?_)
 rw[if_pos (show(pendingOf (setPending (kas_st κ it p') ((pendingOf (kas_st κ it p')).push (0,r+2,0)))).size<=1 from Å 1)]
 refine kasC_pure ?_
 dsimp only
 exact kasC_pure (hG p' _ _ hps rfl rfl hg)
def Srt(ts:List Tie):Prop:=ts.length<64\/ts.length=300/\∀i j,i<=j->j<ts.length->aN (ts.getD i (0,0))<=aN (ts.getD j (0,0))
def Srt.lt{ts:List Tie}:Srt ts->ts.length<512
 |.inl h=>by omega
 |.inr h=>by omega
def zE{a:Addr}{us:List Value}{ts:List Tie}{n:Nat}{P:PySem.Fin->Shared->Prop}(ho:s.heap.get? a=some (seqObj "list" us.toArray n))(hp:Paired (iJ s.heap) us ts)(hn:∀t∈ts,vB t)(h64:Srt ts)(h:∀p:List Nat,p.Perm (ä us.length)->(∀i j,i<=j->j<us.length->aN (ts.getD (p.getD i 0) (0,0))<=aN (ts.getD (p.getD j 0) (0,0))) ->
   P (.done (.ret .none)) { s with heap:=sortedHeap s.heap a us (p.map λi=>us.getD i ĭ).toArray }) :
  wpAny (model prog w) A (Builtin.«list.sort» ⟨[.ref a],[]⟩) P E s:=by
 have hlen:=hp.length
 have hbig:=h64.lt
 have h24:=ì
 rw[list_sort_plain]
 have ha:a<s.heap.objs.size:=É ho
 refine Ã (listItems_at ho rfl ?_)
 refine Ã (ř ho rfl ?_ (by rw[Ì,ì];omega) (û _))
 obtain⟨e1,ho1⟩:∃e1,(s.heap.update a (Ô λ_=>(#[]:Array Value))).get? a=some (seqObj "list" #[] e1):=⟨_,get?_update_seq ho (λ_=>#[])⟩
 refine Ã (seqEpoch_at ho1 rfl ?_)
 refine Ã (wpAny_newTuple ?_ (by show us.length<=_;rw[ì];omega))
 refine Ã (wpAny_newList ?_ (û _))
 refine Ě ?_
 have ho6:(((s.heap.update a (Ô λ_=>(#[]:Array Value))).push (seqObj "tuple" us.toArray 0)).push (seqObj "list" #[] 0)).get? a=some (seqObj "list" #[] e1):=by
  rw[ő _ _ _ (by rw[size_push',Ĝ];exact ã (ă ha)),ő _ _ _ (by rw[Ĝ];exact ã ha)]
  exact ho1
 have kept:∀b o,s.heap.get? b=some o->o.cls=.type "tuple"->(((s.heap.update a (Ô λ_=>(#[]:Array Value))).push (seqObj "tuple" us.toArray 0)).push (seqObj "list" #[] 0)).get? b=some o:=λb o q hc=>by
  have hlt:b<s.heap.objs.size:=É q
  have hne:b≠a:=λz=>by
   rw[z,ho] at q
   cases q
   have z2:(ā "list")=ā "tuple":=hc
   injection z2 with z3
   exact absurd z3 (by decide)
  rw[ő _ _ _ (by rw[size_push',Ĝ];exact ã (ă hlt)),ő _ _ _ (by rw[Ĝ];exact ã hlt),Heap.get?_update_ne _ _ _ _ hne]
  exact q
 show wpAny (model prog w) A _ P E { s with heap:=((s.heap.update a (Ô λ_=>(#[]:Array Value))).push (seqObj "tuple" us.toArray 0)).push (seqObj "list" #[] 0) }
 dsimp only
 have hsz:us.toArray.size=us.length:=by simp
 have hp6:Paired (iJ (((s.heap.update a (Ô λ_=>(#[]:Array Value))).push (seqObj "tuple" us.toArray 0)).push (seqObj "list" #[] 0))) us ts:=Paired.Ek hp λu t x=>x.keep kept
 by_cases h2:us.toArray.size<2
 ·rw[if_pos h2,if_pos h2]
  refine Ã (Ñ ?_)
  rw[StateT.run_pure]
  refine Ã (Ñ ?_)
  dsimp only
  have eout:(arrOf (SortSt.mk' general' (us.toArray.zip us.toArray) #[] 7 none)).map (·.2)=((ä us.length).map λi=>us.getD i ĭ).toArray:=by
   rw[iu]
   show(us.toArray.zip us.toArray).map (·.2)=us.toArray
   apply Array.toList_inj.mp
   simp
   exact Nx us
  rw[eout]
  refine Ã (seqEpoch_at ho6 rfl ?_)
  refine Ã (ř ho6 rfl ?_ (û _) (by rw[Ì,Á,List.length_range,ì];omega))
  simp only[bne_self_eq_false,ħ,if_false]
  refine Ñ (h _ (List.Perm.refl _) λi j hij hj=>?_)
  have:i=j:=by omega
  subst this
  exact ÿ _
 ·rw[if_neg h2,if_neg h2]
  have h2':2<=us.length:=by omega
  obtain⟨fs,hk,hfl,hfi⟩:=Fe (s:={ s with heap:=((s.heap.update a (Ô λ_=>(#[]:Array Value))).push (seqObj "tuple" us.toArray 0)).push (seqObj "list" #[] 0) }) hp6
  refine Ã (W.kat_kind (T:=.type "int") hk (by omega) (λv hv=>by obtain⟨i,t,rfl⟩:=hfi v hv;exact W.Looks.of_pure rfl) rfl ?_)
  have hcmp:∀i j C,i<us.length->j<us.length->C (decide (aN (ts.getD i (0,0))<aN (ts.getD j (0,0)))) { s with heap:=((s.heap.update a (Ô λ_=>(#[]:Array Value))).push (seqObj "tuple" us.toArray 0)).push (seqObj "list" #[] 0) } ->
    W.kas_cmp prog w A (tuples' true) (us.toArray.zip us.toArray) i j C { s with heap:=((s.heap.update a (Ô λ_=>(#[]:Array Value))).push (seqObj "tuple" us.toArray 0)).push (seqObj "list" #[] 0) }:=λi j C hi hj hC=>by
   unfold W.kas_cmp
   rw[W.kat_item rfl,W.kat_item rfl]
   have key:∀k,k<us.length->iJ (((s.heap.update a (Ô λ_=>(#[]:Array Value))).push (seqObj "tuple" us.toArray 0)).push (seqObj "list" #[] 0)) (us.getD k ĭ) (ts.getD k (0,0))/\vB (ts.getD k (0,0)):=λk hk=>by
    have hk':k<ts.length:=by omega
    have ek:ts.getD k (0,0)=ts[k]:=by simp[hk']
    obtain⟨u,eu,pu⟩:=Og hp6 (i:=k) (b:=ts[k]) (by simp[hk'])
    have eu':us.getD k ĭ=u:=by rw[Ü,eu];rfl
    rw[ek,eu']
    exact⟨pu,hn _ (List.getElem_mem hk')⟩
   exact En (key i hi).1 (key j hj).1 (key i hi).2 (key j hj).2 hC
  have G:W.kasC (model prog w) A E sortRuns' (λ_ st' s'=>∃p:Array Nat,s'={ s with heap:=((s.heap.update a (Ô λ_=>(#[]:Array Value))).push (seqObj "tuple" us.toArray 0)).push (seqObj "list" #[] 0) }/\arrOf st'=p.map (W.kas_item (us.toArray.zip us.toArray))/\failedOf st'=none/\NfSort.Pm us.length p/\NfSort.Up (λi=>aN (ts.getD i (0,0))) p us.length) (W.kas_st (tuples' true) (us.toArray.zip us.toArray) (ļ (ä us.length))) { s with heap:=((s.heap.update a (Ô λ_=>(#[]:Array Value))).push (seqObj "tuple" us.toArray 0)).push (seqObj "list" #[] 0) }:=by
   rcases h64 with h64|⟨h64,hs⟩
   ·exact W.kas_runs (G:=λp s'=>s'={ s with heap:=((s.heap.update a (Ô λ_=>(#[]:Array Value))).push (seqObj "tuple" us.toArray 0)).push (seqObj "list" #[] 0) }/\NfSort.Pm us.length p/\NfSort.Up (λi=>aN (ts.getD i (0,0))) p us.length) h2' (by omega) (λp' st' s' a1 a2 a3 a4=>⟨p',a4.1,a2,a3,a4.2⟩)
     (NfSort.rR hcmp (NfSort.bB (λp hp=>⟨rfl,hp⟩) (NfSort.G4 (by omega))))
   ·have hu:NfSort.Up (λi=>aN (ts.getD i (0,0))) (ļ (ä us.length)) us.length:=λi j hij hj=>by
     unfold NfSort.kk
     have eg:∀k,k<us.length->(ļ (ä us.length)).getD k 0=k:=λk hk=>by simp[Array.getD,hk]
     rw[eg i (by omega),eg j hj]
     exact hs i j hij (by omega)
    exact G7 (G:=λp s'=>s'={ s with heap:=((s.heap.update a (Ô λ_=>(#[]:Array Value))).push (seqObj "tuple" us.toArray 0)).push (seqObj "list" #[] 0) }/\NfSort.Pm us.length p/\NfSort.Up (λi=>aN (ts.getD i (0,0))) p us.length) h2' (by rw[hlen,h64];decide +kernel) (λp' st' s' a1 a2 a3 a4=>⟨p',a4.1,a2,a3,a4.2⟩)
     (NfSort.rR (G:=λr s'=>r.1=us.length/\s'={ s with heap:=((s.heap.update a (Ô λ_=>(#[]:Array Value))).push (seqObj "tuple" us.toArray 0)).push (seqObj "list" #[] 0) }/\NfSort.Pm us.length r.2/\NfSort.Up (λi=>aN (ts.getD i (0,0))) r.2 us.length) hcmp (NfSort.bB (λr ⟨e1,e2⟩=>⟨e1,rfl,by rw[e2];exact⟨Array.Perm.refl _,hu⟩⟩) (M5 (Array.Perm.refl _) (by omega) hu)))
  have est:SortSt.mk' (tuples' true) (us.toArray.zip us.toArray) #[] 7 none=W.kas_st (tuples' true) (us.toArray.zip us.toArray) (ļ (ä us.length)):=by
   have e:=W.kas_range (us.toArray.zip us.toArray)
   rw[show(us.toArray.zip us.toArray).size=us.length by simp] at e
   show SortSt.mk' (tuples' true) (us.toArray.zip us.toArray) #[] 7 none=SortSt.mk' (tuples' true) ((ļ (ä us.length)).map (W.kas_item (us.toArray.zip us.toArray))) #[] 7 none
   rw[e]
  have eT:tuples' (ā "int" != ā "tuple")=tuples' true:=rfl
  rw[eT,est]
  refine Ã (Ĵ G ?_ λ_ _ e=>e)
  rintro⟨⟨⟩,st'⟩ s' ⟨p,rfl,har,hf,hpm,hup⟩
  dsimp only
  have hout:=W.kat_snds (ks:=us) (vs:=us) rfl har
  rw[hout]
  have hsz2:p.size=us.length:=hpm.size
  refine Ã (seqEpoch_at ho6 rfl ?_)
  refine Ã (ř ho6 rfl ?_ (û _) (by rw[Ì,Á,æ,hsz2,ì];omega))
  rw[hf]
  simp only[bne_self_eq_false,ħ,if_false]
  refine Ñ (h p.toList ?_ λi j hij hj=>?_)
  ·have:=ŗ.mp hpm
   simpa using this
  ·have q:=hup i j hij hj
   unfold NfSort.kk at q
   have eg:∀k,p.toList.getD k 0=p.getD k 0:=λk=>by
    rw[NfSort.getD_eq,Ü]
    simp
   rw[eg,eg]
   exact q
def o7{l:Addr}{vs:List Value}{Q:List Value->Shared->Prop}(hl:IsTup s.heap l vs.toArray)(h:Q vs { s with heap:=(s.heap.push (seqObj "list" #[] 0)).update s.heap.objs.size (Ô (·++vs.toArray)) })(hsz:vs.length<=sizeLine) :
  wpAny (model prog w) A (collect (.ref l)) Q E s:=by
 obtain⟨o,ho,hc,n,hd⟩:=id hl
 unfold collect
 refine Ã (wpAny_runValue (codeAny_builtin entry_proto_collect' ?_))
 show wpAny _ _ (do again (.builtin "list.__iadd__" ⟨[←newList [],.ref l],[]⟩)) _ _ s
 refine Ã (wpAny_newList (Ñ ⟨Code.quiet_builtin _ (by decide +kernel),codeAny_builtin entry_list_iadd' ?_⟩))
 show wpAny _ _ (ņ (.ref s.heap.objs.size) (.ref l) (.ref s.heap.objs.size)) _ _ { s with heap:=s.heap.push (seqObj "list" #[] 0) }
 unfold ņ
 have ho':(s.heap.push (seqObj "list" #[] 0)).get? l=some o:=Ç _ ho
 refine Ã (wpAny_typeOf (T:="tuple") ⟨o,ho',hc⟩ ?_)
 have ht:(ā "tuple" == ā "tuple")=true:=by rfl
 rw[if_pos (by rw[ht];simp)]
 refine Ã (listItems_at ho' hd ?_)
 refine Ã (listItems_at (xs:=#[]) (n:=0) (Û _ rfl) rfl ?_)
 rw[if_neg (by simp)]
 refine Ã (ř (xs:=#[]) (n:=0) (Û _ rfl) rfl ?_ (û _) (by show(#[]++vs.toArray).size<=sizeLine+1;simp only[Array.size_append,Ì,List.length_nil];omega))
 refine Ñ ?_
 show wpAny (model prog w) A (do
   let o ←load s.heap.objs.size
   match o.data with
   |.seq xs _=>pure xs.toList
   |_=>unsupported "internal:collect") Q E { s with heap:=(s.heap.push (seqObj "list" #[] 0)).update s.heap.objs.size (Ô (·++vs.toArray)) }
 refine Ã (wpAny_load (get?_update_seq (Û _ rfl) _) ?_)
 show wpAny _ _ (pure ((#[]:Array Value)++vs.toArray).toList) Q E _
 rw[show((#[]:Array Value)++vs.toArray).toList=vs by simp]
 exact Ñ h
def qH{l:Addr}{us:List Value}{ts:List Tie}{Q:Value->Shared->Prop}(hl:s.heap.IsList l us.toArray\/IsTup s.heap l us.toArray)(hp:Paired (iJ s.heap) us ts)(hn:∀t∈ts,vB t)(h64:Srt ts)(h:∀p:List Nat,p.Perm (ä us.length)->(∀i j,i<=j->j<us.length->aN (ts.getD (p.getD i 0) (0,0))<=aN (ts.getD (p.getD j 0) (0,0))) ->
   Q (.ref (s.heap.objs.size+1)) { s with heap:=sortedAll s.heap us (p.map λi=>us.getD i ĭ).toArray }) :
  wpAny (model prog w) A (call (.builtin "sorted") [.ref l]) Q E s:=by
 have h24:=ì
 have hlen:=hp.length
 have hbig:=h64.lt
 refine Calls.call_function_entry kind_sorted plain_sorted entry_sorted (args_sorted1 _) ?_
 unfold Builtin.«sorted»
 refine Ã (m:=checkCount "sorted" 1 1 _) (Ñ ?_)
 have hsz:((s.heap.push (seqObj "list" #[] 0)).update s.heap.objs.size (Ô (·++us.toArray))).objs.size=s.heap.objs.size+1:=by
  rw[Ĝ,size_push']
 have hoL:(((s.heap.push (seqObj "list" #[] 0)).update s.heap.objs.size (Ô (·++us.toArray))).push (seqObj "list" us.toArray 0)).get? (s.heap.objs.size+1)=some (seqObj "list" us.toArray 0):=by
  rw[←hsz];exact Û _ rfl
 have keep:∀b o,s.heap.get? b=some o->(((s.heap.push (seqObj "list" #[] 0)).update s.heap.objs.size (Ô (·++us.toArray))).push (seqObj "list" us.toArray 0)).get? b=some o:=λb o q=>by
  have hlt:b<s.heap.objs.size:=É q
  rw[ő _ _ _ (by rw[hsz];exact ã (ă hlt)),Heap.get?_update_ne _ _ _ _ (ã hlt),ő _ _ _ (ã hlt)]
  exact q
 have go:∀{Q':List Value->Shared->Prop},Q' us { s with heap:=(s.heap.push (seqObj "list" #[] 0)).update s.heap.objs.size (Ô (·++us.toArray)) }->wpAny (model prog w) A.in1 (collect (.ref l)) Q' (λe s'=>E e s') s:=λ{Q'} hq=>by
  rcases hl with hl|hl
  ·exact collect_list hl hq (by omega)
  ·exact o7 hl hq (by omega)
 refine Ã (go ?_)
 refine Ã (wpAny_newList ?_ (by omega))
 show wpAny _ _ _ _ _ { s with heap:=((s.heap.push (seqObj "list" #[] 0)).update s.heap.objs.size (Ô (·++us.toArray))).push (seqObj "list" us.toArray 0) }
 rw[hsz]
 refine Ã (Ě (wpAny_call_entry slot_list_sort ⟨_,hoL,rfl⟩ entry_list_sort (zE hoL (Paired.Ek hp λu t x=>x.keep λa o e _=>keep a o e) hn h64 λp a1 a2=>⟨_,rfl,?_⟩) (args_list_sort _)))
 exact Ñ ⟨_,rfl,h p a1 a2⟩
end
section
variable {X:Cx}
def uf{ts:List Tie}{p:List Nat}(hp:p.Perm (ä ts.length))(h:∀i j,i<=j->j<ts.length->aN (ts.getD (p.getD i 0) (0,0))<=aN (ts.getD (p.getD j 0) (0,0))) :
  (p.map λi=>ts.getD i (0,0)).Perm ts/\(p.map λi=>ts.getD i (0,0)).Pairwise (λa b=>aN a<=aN b):=by
 refine⟨?_,?_⟩
 ·have q:=hp.map λi=>ts.getD i (0,0)
  rw[iu] at q
  exact q
 ·have hl:p.length=ts.length:=by simpa using hp.length_eq
  rw[List.pairwise_iff_getElem]
  intro i j hi hj hij
  rw[Á] at hi hj
  have q:=h i j (by omega) (by omega)
  have ei:p.getD i 0=p[i]:=by simp[hi]
  have ej:p.getD j 0=p[j]:=by simp[hj]
  rw[ei,ej] at q
  simpa using q
def sU:bH X (.builtin "sorted") (λxs H Q=>∃(p:Addr) (vs:List V) (ts:List Tie),xs=[.ref p]/\(SqL X.K H p vs\/SqT X.K H p vs)/\Prs H vs ts/\(∀t∈ts,vB t)/\Srt ts /\
  ∀l ws us,H l=none->Prs H ws us->us.Perm ts->us.Pairwise (λa b=>aN a<=aN b)->Q (.ref l) (upd H l (.lst ws))):=by
 intro pins s σ H xs us Q I r h
 obtain⟨p,vs,ts,rfl,hp,hpr,hn,h64,q⟩:=h
 obtain⟨u,rfl,rx⟩:=vals1 r
 cases rx
 have h24:=ì
 have fin:∀its:List Value,Vals vs its->(s.heap.IsList p its.toArray\/IsTup s.heap p its.toArray)->wpAny (model X.prog X.w) X.A (call (.builtin "sorted") [.ref p]) (EP X pins σ Q) X.xe s:=λits rv hl=>by
  have hpv:=I.pairs hpr rv
  have hlen:=hpr.length
  have hlen2:=rv.length
  have hbig:=h64.lt
  refine qH hl hpv hn h64 λpp hpp hord=>?_
  have eits:its.length=ts.length:=by omega
  rw[eits] at hpp hord
  obtain⟨hperm,hpw⟩:=uf hpp hord
  have hlt:∀i∈pp,i<ts.length:=λi hi=>Ŷ.mp (hpp.mem_iff.mp hi)
  have hw:=CJ hpr V.non (0,0) pp hlt
  have hvv:Vals (pp.map λi=>vs.getD i V.non) (pp.map λi=>its.getD i ĭ):=CJ rv V.non ĭ pp λi hi=>by have:=hlt i hi;omega
  obtain⟨e,he⟩:=sortedAll_at s.heap its (pp.map λi=>its.getD i ĭ).toArray
  refine⟨.ref (s.heap.objs.size+1),upd H (s.heap.objs.size+1) (.lst (pp.map λi=>vs.getD i V.non)),I.laid (t':=s.toks) (λb o eb=>sortedAll_old eb) (Ĥ _) ?_,rfl,q _ _ _ (I.hok.fresh (Ĥ _)) hw hperm hpw⟩
  refine⟨?_,_,e,hvv,he⟩
  have hl3:pp.length=ts.length:=by simpa using hpp.length_eq
  rw[Á]
  omega
 rcases hp with hp|hp
 ·obtain⟨its,rv,pl,hz⟩:=I.list hp
  exact fin its rv (.inl pl.isList)
 ·obtain⟨its,rv,pl,hz⟩:=I.tuple hp
  exact fin its rv (.inr pl)
def pD(t:Tie):PyData:=.tuple [.int t.1,.int t.2]
def Ey:∀ts:List Tie,Ġ (ts.map pD)=true
 |[]=>rfl
 |t::ts=>by
  show(PyData.canLay0 (pD t)&&Ġ (ts.map pD))=true
  rw[Ey ts]
  rfl
def uZ:∀ts:List Tie,ĺ (ts.map pD)<=1
 |[]=>û _
 |t::ts=>by
  show max (PyData.depth (pD t)) (ĺ (ts.map pD))<=1
  have h1:=uZ ts
  have h2:PyData.depth (pD t)=1:=rfl
  omega
inductive DatV(K:Ø)(H:Hp):V->PyData->Prop
 |lst {a:Addr}{vs:List V}{ts:List Tie}:SqL K H a vs->Prs H vs ts->DatV K H (.ref a) (.list (ts.map pD))
 |tup {a:Addr}{vs:List V}{ts:List Tie}:SqT K H a vs->Prs H vs ts->DatV K H (.ref a) (.tuple (ts.map pD))
 |web {a b:Addr}{n:Int}{vs:List V}{ts:List Tie}:SqT K H a [.int n,.ref b]->SqT K H b vs->Prs H vs ts->DatV K H (.ref a) (.tuple [.int n,.tuple (ts.map pD)])
end
end L2
namespace L2
open PySem PySem.Spec PyProof.Rows HT
section
variable {prog:Program}{w:World}{A:Around}{E:Value->Shared->Prop}{s:Shared}
end
section
variable {X:Cx}{e:Expr}{te:TE}{p1 p2 p3 pos:Pos}
end
end L2
namespace PySem
open Sem (wp)
open AutoSeq1 (wpAny_loadPart')
section
variable {prog:Program}{w:World}{A:Around}{E:Value->Shared->Prop}{s:Shared}
end
end PySem
namespace L2
open PySem PySem.Spec PyProof.Rows
section
variable {κ:Type} [DecidableEq κ]
end
section
variable {P:Program}{w:World}{H:Hp}{h:Heap}{a:Addr}
end
section
variable {X:Cx}{pins:List (Addr×Obj)}{σ:St}{H:Hp}{s:Shared}{a:Addr}{y v:V}{u r:Value}{o:Option V}{A:Around}{E:Value->Shared->Prop}
end
section
variable {X:Cx}{pins:List (Addr×Obj)}{σ:St}{H:Hp}{s:Shared}{a:Addr}{kvs:List (Key×V)}{k:Key}{u:Value}{A:Around}{E:Value->Shared->Prop}
end
section
variable {X:Cx}{o i e value:Expr}{pos pos' tpos:Pos}{td ty tv:TE}
end
section
variable {X:Cx}{pos:Pos}
end
structure M1(X:Cx)(o:Expr)(m:Str)(apos:Pos)(e:Expr)(cpos:Pos):Prop where
 base:attributeBase o m X.env (eval o X.env)=eval o X.env
 few:((backTo cpos (starEach [e] X.env)).all (λx=>!x.1)&&(backToKw cpos (keywordEach [] X.env)).all (λx=>x.1.isSome)
 &&decide (([e]:List Expr).length+([]:List Keyword).length+(if ([]:List Keyword).isEmpty then 0 else 1)<30))=true
 line:(apos.endLine == cpos.line)=true
 trees:backTo cpos (starEach [e] X.env)=[(false,eval e X.env)]
structure M2(X:Cx)(o:Expr)(m:Str)(apos:Pos)(e f:Expr)(cpos:Pos):Prop where
 base:attributeBase o m X.env (eval o X.env)=eval o X.env
 few:((backTo cpos (starEach [e,f] X.env)).all (λx=>!x.1)&&(backToKw cpos (keywordEach [] X.env)).all (λx=>x.1.isSome)
 &&decide (([e,f]:List Expr).length+([]:List Keyword).length+(if ([]:List Keyword).isEmpty then 0 else 1)<30))=true
 line:(apos.endLine == cpos.line)=true
 trees:backTo cpos (starEach [e,f] X.env)=[(false,eval e X.env),(false,eval f X.env)]
section
variable {X:Cx}{pins:List (Addr×Obj)}{σ:St}{H:Hp}{s:Shared}{a:Addr}{y d:V}{u r:Value}{o:Option V}{A:Around}{E:Value->Shared->Prop}
end
section
variable {X:Cx}{o e f:Expr}{apos cpos:Pos}{td ty tx:TE}
end
section
variable {X:Cx}{pins:List (Addr×Obj)}{σ:St}{H:Hp}{s:Shared}{a:Addr}{kvs:List (Key×V)}{A:Around}{E:Value->Shared->Prop}
end
section
variable {X:Cx}{pins:List (Addr×Obj)}{σ:St}{H:Hp}{s:Shared}{a:Addr}{y:V}{u:Value}{A:Around}{E:Value->Shared->Prop}
end
section
variable {prog:Program}{w:World}{A:Around}{E:Value->Shared->Prop}{s:Shared}
end
section
variable {X:Cx}
end
section
variable {X:Cx}
def iD(l:List Int):PyData:=.list (l.map Í)
inductive DatL(K:Ø)(H:Hp):V->PyData->Prop
 |flt {a:Addr}{l:List Int}:SqL K H a (l.map V.int)->DatL K H (.ref a) (iD l)
 |lists {a:Addr}{as:List Addr}{ls:List (List Int)}:SqL K H a (as.map V.ref)->Paired (λ(a:Addr) (l:List Int)=>SqL K H a (l.map V.int)) as ls->DatL K H (.ref a) (.list (ls.map iD))
end
end L2
namespace PySem
open PyProof.Rows
def Rf(h:Heap)(e:Addr):Prop:=∃oe vs,h.get? e=some oe/\oe.data=.fields vs/\vs[2]?=some .none
section
variable {M:Model}{A:Around}{E:Value->Shared->Prop}{s:Shared}{base:Heap}{env:Env}{outer:List Env}{L e:Addr}{Q:Unit->Shared->Prop}
end
end PySem
namespace L2
open PySem PySem.Spec PyProof.Rows
def Rg(base:Heap)(l:List Env)(e:Addr)(cls a0:Value)(h:Heap):Prop:=base.StaysIn h/\base.get? e=none/\h.FunFrames base l/\h.TracedW base e cls a0/\Rf h e
def CX1(P:Program)(w:World):CXT:=λouter H s E e s'=>∃(a:Addr) (cls a0:Value) (H1:Hp) (hb:Heap),e=.ref a/\s'.os=s.os/\AllBare s'.gens/\Un (frs outer) [] H H1 s.heap s'.heap/\HOk P w H1 hb/\Rg hb outer a cls a0 s'.heap /\
 (∀b o,s.heap.get? b=some o->H b=none->b∉frs outer->hb.get? b=some o)/\(∀b o,s.heap.get? b=some o->b∉frs outer->∃o',hb.get? b=some o')/\E cls none H1
structure Lets(X:Cx)(E:XK):Prop where
 xe:∀e s',wpAny (model X.prog X.w) X.A (leaving X.env e) (λ_ s''=>CX1 X.prog X.w X.outer X.H₀ X.s₀ E e s'') (λe' s''=>CX1 X.prog X.w X.outer X.H₀ X.s₀ E e' s'') s'->X.xe e s'
 stk:X.stack=X.env::X.outer
 fr:X.env.frame=some X.env.locals
 ex:X.ex=[]
section
variable {X:Cx}{pins:List (Addr×Obj)}{σ:St}{H H1:Hp}{s:Shared}{E:XK}
end
structure ExcCls(K:Ø)(C:Addr)(newId:String)(bmB:List Value):Prop where
 ex:∃(nm q:Str) (N:Addr) (bs bm:List Value) (hdct:Bool) (sn:List Str) (sub:List Value) (ab:Bool) (col:Option Bool) (dd:Option Addr) (k0 k1 k2 k3 k5:Option Value),
  K.lookup C=some (excClassObj nm q C N bs bm hdct sn sub ab col dd k0 k1 k2 k3 k5 newId)/\W.tailIn K bmB bm=true/\W.nsOkIn K N=true/\W.nsIn K N "__init__"=some none/\bm.contains (.type "BaseException")=true
section
variable {X:Cx}{E:XK}{x:Str}{C:Addr}{newId Bn initId:String}{bmB:List Value}{e:Expr}{es:List Expr}{t:TA}{np cpos pos:Pos}
end
section
variable {X:Cx}{pins:List (Addr×Obj)}{σ:St}{H:Hp}{s:Shared}{ev:Value}
def P0(a:Addr)(cls:Value):Heap->Prop:=λh=>∃oe vs,h.get? a=some oe/\oe.cls=cls/\oe.data=.fields vs
def Q5(a:Addr)(cls:Value):HO:=.ext (P0 a cls)
def Inv.track{a:Addr}{o:HO}(I:Inv X pins σ H s)(hn:H a=none)(h0:∀ob,X.s₀.heap.get? a≠some ob)(hL:a≠X.env.locals)(hC:∀x c,X.env.cells.lookup x=some c->c≠a)(hp:∀p∈X.pn++pins,p.1≠a)(new:bx X.prog X.w (upd H a o) s.heap a o):Inv X pins σ (upd H a o) s:=by
 refine⟨I.ok,I.os,I.bare,⟨I.base.keep,I.base.slot,λb ob e n hx=>?_,I.base.there,λb xs e=>?_,λb ob u e=>?_,λb ps e=>?_⟩,I.loc,I.cell,?_,λx c e=>?_,λp q=>?_,I.hok.track hn new,I.len⟩
 ·rw[ak (show b≠a from λz=>h0 ob (by rw[←z];exact e))]
  exact I.base.free b ob e n hx
 ·have q:=I.base.tups b xs e
  rw[ak (aD q hn)]
  exact q
 ·have q:=I.base.frzs b ob u e
  rw[ak (aD q hn)]
  exact q
 ·obtain⟨m,q⟩:=I.base.tbls b ps e
  exact⟨m,by rw[ak (aD q hn)];exact q⟩
 ·rw[ak (ę hL)]
  exact I.free
 ·rw[ak (hC x c e)]
  exact I.freeC x c e
 ·obtain⟨q1,q2,q3⟩:=I.pin p q
  exact⟨q1,by rw[ak (hp p q)];exact q2,q3⟩
end
section
variable {X:Cx}{k:Nat}{f CF:Addr}{fd:FuncData}{ps:List Str}{sp:Sp}{E:XK}{x hx n:Str}{p np cpos epos hpos pos:Pos}{e:Expr}{es:List Expr}{t:TA}{b₀:Stmt}{suite:List Stmt}{ts:TS}{j:Nat}
end
end L2
namespace L2
open PySem PySem.W PySem.Spec PyProof.Rows
structure ExcK(K:Ø)(C:Addr):Prop where
 ex:∃(nm q:Str) (N AF:Addr) (bs bmB:List Value) (hdct:Bool) (sn:List Str) (sub:List Value) (ab:Bool) (col:Option Bool) (dd ddF:Option Addr) (k0 k1 k2 k3 k5:Option Value) (newId B:String) (c0:Value) (cd:ClassData) (slF:Array (Option Value)),
  K.lookup C=some (excClassObj nm q C N bs (.ref AF::bmB) hdct sn sub ab col dd k0 k1 k2 k3 k5 newId)/\K.lookup AF=some ⟨c0,ddF,.cls cd,slF⟩/\nsOkIn K cd.ns=true/\(∀n∈quietNames,nsIn K cd.ns n=some none)/\ExcAttrBase B bmB
 ga:findIn K (.ref C) "__getattribute__"=some (some (.builtin "BaseException.__getattribute__"))
 hook:findIn K (.ref C) "__getattr__"=some none
 cls:findIn K (.ref C) "__class__"=some (some (.builtin "object.__class__"))
 mro:mroIn K C (.type "object")=some true
section
variable {prog:Program}{w:World}{K:Ø}{a C:Addr}{A:Around}{E:Value->Shared->Prop}{s:Shared}
end
section
variable {X:Cx}
def Ju:R2:=λx y H Q=>∃a b xs ys,x=.ref a/\y=.ref b/\H a=some (.tup xs)/\H b=some (.tup ys)/\xs.length+ys.length<=sizeLine/\∀c H',(∀d u,H d=some u->H' d=some u)->H' c=some (.tup (xs++ys))->Q (.ref c) H'
def yw:OpR X (binaryOp .Add) Ju:=by
 intro pins s σ H x y v u Q I rx ry h
 obtain⟨a,b,xs,ys,rfl,rfl,ha,hb,hz,q⟩:=h
 cases rx
 cases ry
 obtain⟨its,r1,p1,_⟩:=I.tuple (SqT.of ha)
 obtain⟨its2,r2,p2,_⟩:=I.tuple (SqT.of hb)
 by_cases hx:xs=[]
 ·subst hx
  cases r1
  obtain⟨m,F⟩:=I.fr
  refine add_tuples (vs:=[]) F Ec p1 p2 (λ_=>⟨.ref b,H,I,rfl,q b H (λ_ _ z=>z) (by simpa using hb)⟩) (λz=>absurd rfl z) (λz=>absurd rfl z) (by rw[←r2.length];simpa using hz)
 ·refine Hw pins s σ H (.ref a) (.ref b) (.ref a) (.ref b) Q I rfl rfl ⟨a,b,xs,ys,rfl,rfl,SqT.of ha,SqT.of hb,hx,hz,λe=>?_,λ_ p hp=>?_⟩
  ·subst e
   exact q a H (λ_ _ z=>z) (by rw[õ];exact ha)
  ·exact q p _ (λd u z=>by rw[ak (aD z hp)];exact z) ao
end
section
variable {K:Ø}{C c:Addr}{dd:Option Addr}{cd:ClassData}{sl:Array (Option Value)}
end
end L2
namespace Dl
open PySem L2 PyProof.Rows
abbrev D:=PyData
def kD:Key->D
 |.inl i=>.int i
 |.inr x=>.str x
mutual
inductive Rp(ok:Addr->Prop)(H:Hp):V->D->Prop
 |non:Rp ok H .non .none
 |bl (b:Bool):Rp ok H (.bl b) (.bool b)
 |int (i:Int):Rp ok H (.int i) (.int i)
 |str (x:Str):Rp ok H (.str x) (.str x)
 |lst {a:Addr}{vs:List V}{ds:List D} (o:ok a) (h:H a=some (.lst vs)) (r:Rps ok H vs ds):Rp ok H (.ref a) (.list ds)
 |tup {a:Addr}{vs:List V}{ds:List D} (h:H a=some (.tup vs)) (r:Rps ok H vs ds):Rp ok H (.ref a) (.tuple ds)
 |dct {a:Addr}{kvs:List (Key×V)}{ds:List (D×D)} (o:ok a) (h:H a=some (.dK kvs)) (r:Rkv ok H kvs ds):Rp ok H (.ref a) (.dict ds)
inductive Rps(ok:Addr->Prop)(H:Hp):List V->List D->Prop
 |nil:Rps ok H [] []
 |cons {v:V}{d:D}{vs:List V}{ds:List D} (h:Rp ok H v d) (t:Rps ok H vs ds):Rps ok H (v::vs) (d::ds)
inductive Rkv(ok:Addr->Prop)(H:Hp):List (Key×V)->List (D×D)->Prop
 |nil:Rkv ok H [] []
 |cons {k:Key}{v:V}{d:D}{vs:List (Key×V)}{ds:List (D×D)} (h:Rp ok H v d) (t:Rkv ok H vs ds):Rkv ok H ((k,v)::vs) ((kD k,d)::ds)
end
section
variable {ok ok':Addr->Prop}{H H':Hp}
mutual
def Rp.mono(f:∀a,ok a->ok' a)(g:∀a o,ok a->H a=some o->H' a=some o)(t:∀a xs,H a=some (.tup xs)->H' a=some (.tup xs)):∀{v:V}{d:D},Rp ok H v d->Rp ok' H' v d
 |_,_,.non=>.non
 |_,_,.bl b=>.bl b
 |_,_,.int i=>.int i
 |_,_,.str x=>.str x
 |_,_,.lst o h r=>.lst (f _ o) (g _ _ o h) (Rps.mono f g t r)
 |_,_,.tup h r=>.tup (t _ _ h) (Rps.mono f g t r)
 |_,_,.dct o h r=>.dct (f _ o) (g _ _ o h) (Rkv.mono f g t r)
def Rps.mono(f:∀a,ok a->ok' a)(g:∀a o,ok a->H a=some o->H' a=some o)(t:∀a xs,H a=some (.tup xs)->H' a=some (.tup xs)):∀{v:List V}{d:List D},Rps ok H v d->Rps ok' H' v d
 |_,_,.nil=>.nil
 |_,_,.cons h r=>.cons (Rp.mono f g t h) (Rps.mono f g t r)
def Rkv.mono(f:∀a,ok a->ok' a)(g:∀a o,ok a->H a=some o->H' a=some o)(t:∀a xs,H a=some (.tup xs)->H' a=some (.tup xs)):∀{v:List (Key×V)}{d:List (D×D)},Rkv ok H v d->Rkv ok' H' v d
 |_,_,.nil=>.nil
 |_,_,.cons h r=>.cons (Rp.mono f g t h) (Rkv.mono f g t r)
end
def Rps.length:∀{vs:List V}{ds:List D},Rps ok H vs ds->vs.length=ds.length
 |_,_,.nil=>rfl
 |_,_,.cons _ t=>by rw[ð,ð,Rps.length t]
def Rps.getD:∀{vs:List V}{ds:List D}{i:Nat}{d:D},Rps ok H vs ds->ds[i]?=some d->∃v,vs[i]?=some v/\Rp ok H v d
 |_,_,i,v,.nil,e=>by simp at e
 |_,_,0,v,.cons h t,e=>by simp at e;subst e;exact⟨_,rfl,h⟩
 |_,_,i+1,v,.cons h t,e=>by
  obtain⟨d,a,b⟩:=Rps.getD (i:=i) (d:=v) t (by simpa using e)
  exact⟨d,by simpa using a,b⟩
def Rps.app:∀{vs ws:List V}{ds es:List D},Rps ok H vs ds->Rps ok H ws es->Rps ok H (vs++ws) (ds++es)
 |_,_,_,_,.nil,s=>s
 |_,_,_,_,.cons h t,s=>.cons h (Rps.app t s)
def Rps.snoc{vs:List V}{ds:List D}{v:V}{d:D}(h:Rps ok H vs ds)(r:Rp ok H v d):Rps ok H (vs++[v]) (ds++[d]):=h.app (.cons r .nil)
def Rps.take:∀{vs:List V}{ds:List D} (n:Nat),Rps ok H vs ds->Rps ok H (vs.take n) (ds.take n)
 |_,_,0,_=>by simp;exact .nil
 |_,_,_+1,.nil=>by simp;exact .nil
 |_,_,n+1,.cons r t=>.cons r (Rps.take n t)
def Rps.drop:∀{vs:List V}{ds:List D} (n:Nat),Rps ok H vs ds->Rps ok H (vs.drop n) (ds.drop n)
 |_,_,0,r=>r
 |_,_,_+1,.nil=>by simp;exact .nil
 |_,_,n+1,.cons _ t=>Rps.drop n t
def Rps.ofMap{α:Type}{f:α->V}{g:α->D}(h:∀x,Rp ok H (f x) (g x)):∀l:List α,Rps ok H (l.map f) (l.map g)
 |[]=>.nil
 |x::l=>.cons (h x) (Rps.ofMap h l)
def Rp.int'{v:V}{i:Int}(r:Rp ok H v (.int i)):v=.int i:=by cases r;rfl
def Rp.bl'{v:V}{i:Bool}(r:Rp ok H v (.bool i)):v=.bl i:=by cases r;rfl
def Rp.str'{v:V}{i:Str}(r:Rp ok H v (.str i)):v=.str i:=by cases r;rfl
def Rp.cJ{v:V}{ds:List D}(r:Rp ok H v (.list ds)):∃a vs,v=.ref a/\ok a/\H a=some (.lst vs)/\Rps ok H vs ds:=by
 cases r with
 |lst o h r=>exact⟨_,_,rfl,o,h,r⟩
def Rp.fW{v:V}{ds:List D}(r:Rp ok H v (.tuple ds)):∃a vs,v=.ref a/\H a=some (.tup vs)/\Rps ok H vs ds:=by
 cases r with
 |tup h r=>exact⟨_,_,rfl,h,r⟩
def Rps.ints:∀{vs:List V}{ns:List Int},Rps ok H vs (ns.map Í)->vs=ns.map V.int
 |[],[],_=>rfl
 |_,n::ns,.cons h t=>by
  have e:=h.int'
  subst e
  rw[Rps.ints t]
  rfl
def Rps.two{vs:List V}{d e:D}(r:Rps ok H vs [d,e]):∃v w,vs=[v,w]/\Rp ok H v d/\Rp ok H w e:=by
 cases r with
 |cons h t =>
  cases t with
  |cons h2 t2 =>
   cases t2
   exact⟨_,_,rfl,h,h2⟩
end
mutual
def cQ:D->Bool
 |.none=>true
 |.bool _=>true
 |.int _=>true
 |.str _=>true
 |.list _=>false
 |.tuple ds=>cM ds
 |.dict _=>false
def cM:List D->Bool
 |[]=>true
 |d::ds=>cQ d&&cM ds
end
section
variable {ok:Addr->Prop}{H:Hp}
mutual
def Rp.imm:∀{v:V}{d:D},Rp ok H v d->cQ d=true->Rp (λ_=>False) H v d
 |_,_,.non,_=>.non
 |_,_,.bl b,_=>.bl b
 |_,_,.int i,_=>.int i
 |_,_,.str x,_=>.str x
 |_,_,.tup h r,e=>.tup h (Rps.imm r e)
def Rps.imm:∀{v:List V}{d:List D},Rps ok H v d->cM d=true->Rps (λ_=>False) H v d
 |_,_,.nil,_=>.nil
 |_,_,.cons h r,e=>.cons (Rp.imm h (by simp only[cM,Ý] at e;exact e.1)) (Rps.imm r (by simp only[cM,Ý] at e;exact e.2))
end
end
def Fxd(o:HO):Prop:=∃x φ,o=.frz x (.ext φ)
structure Pn where
 fp:Addr->Prop
 PI:Hp->Prop
 pv:V
 mono:∀H H',PI H->(∀b o,(fp b\/Fxd o)->H b=some o->H' b=some o)->PI H'
 is:∀H b,PI H->fp b->∃o,H b=some o/\(∀xs,o≠.tup xs)/\¬Fxd o
class Gr where
 G:Pn->Hp->Prop
instance (priority:=low) grT:Gr:=⟨λ_ _=>True⟩
def gG:Pn:=⟨λ_=>False,λ_=>True,.non,λ_ _ _ _=>trivial,λ_ _ _ h=>h.elim⟩
def Kp(p:Pn)(H H':Hp):Prop:=∀b o,H b=some o->¬p.fp b->H' b=some o
def Kp.refl{p:Pn}{H:Hp}:Kp p H H:=λ_ _ h _=>h
def Kp.trans{p:Pn}{H H1 H2:Hp}(a:Kp p H H1)(b:Kp p H1 H2):Kp p H H2:=λc o h n=>b c o (a c o h n) n
def Kp.of{p:Pn}{H H':Hp}(s:Same H H'):Kp p H H':=λb o h _=>s b o h
inductive Sl where
 |any
 |im (d:D)
 |sh (d:D)
 |sn (d:D)
 |dw (r:Nat) (d:D)
 |pen (C:Pn->Prop)
 |rw (r:Nat) (L:List (List D))
 |tw (r:Nat) (L:List (List D))
 |scr (v:V) (b:Bool)
 |sp (r:Nat) (b:Bool) (ds:List D)
inductive Kd where
 |imm|new|reg (r:Nat)|n0|snw|shr|wk
 deriving DecidableEq
def Kd.le:Kd->Kd->Bool
 |.imm,_=>true
 |.new,.new=>true
 |.new,.n0=>true
 |.new,.snw=>true
 |.new,.shr=>true
 |.new,.wk=>true
 |.reg r,.reg q=>r == q
 |.reg _,.n0=>true
 |.reg _,.wk=>true
 |.snw,.snw=>true
 |.snw,.n0=>true
 |.snw,.shr=>true
 |.snw,.wk=>true
 |.n0,.n0=>true
 |.n0,.wk=>true
 |.shr,.shr=>true
 |.shr,.wk=>true
 |.wk,.wk=>true
 |_,_=>false
def Kd.join(a b:Kd):Kd:=if a.le b then b else if b.le a then a else if a.le .n0&&b.le .n0 then .n0 else if a.le .shr&&b.le .shr then .shr else .wk
def norm(k:Kd)(d:D):Kd:=match k with
 |.imm=>.imm
 |k=>if cQ d then .imm else k
def cF{k:Kd}{d:D}(h:cQ d=true):norm k d=.imm:=by
 cases k <;> first
  |rfl
  |exact if_pos h
def bU{k:Kd}{d:D}(h:¬cQ d=true):norm k d=k:=by
 cases k <;> first
  |rfl
  |exact if_neg h
def okK(p:Pn)(H0:Hp)(own:Addr->Option Nat)(Hb:Hp):Kd->Addr->Prop
 |.imm=>λ_=>False
 |.new=>λa=>Hb a=none
 |.reg r=>λa=>own a=some r
 |.n0=>λa=>H0 a=none/\¬p.fp a
 |.snw=>λa=>H0 a=none/\¬p.fp a/\own a=none
 |.shr=>λa=>¬p.fp a/\own a=none
 |.wk=>λa=>¬p.fp a
structure At(p:Pn)(H0:Hp)(own:Addr->Option Nat)(Hb H:Hp):Prop where
 k0:∀b o,H0 b=some o->¬p.fp b->Hb b=some o
 kp:Kp p Hb H
 penb:p.PI Hb
 pen:p.PI H
 ow:∀a r,own a=some r->H0 a=none/\¬p.fp a/\Hb a≠none
section
variable {p:Pn}{H0 Hb H H':Hp}{own:Addr->Option Nat}
def At.nfp(A:At p H0 own Hb H){a:Addr}(h:H a=none):¬p.fp a:=λz=>by
 obtain⟨o,e,_⟩:=p.is H a A.pen z
 rw[h] at e
 cases e
def At.free(A:At p H0 own Hb H){a:Addr}(h:H a=none):Hb a=none:=by
 have hn:=A.nfp h
 cases e:Hb a with
 |none=>rfl
 |some o=>rw[A.kp a o e hn] at h;cases h
def At.nfb(A:At p H0 own Hb H){a:Addr}(h:Hb a=none):¬p.fp a:=λz=>by
 obtain⟨o,e,_⟩:=p.is Hb a A.penb z
 rw[h] at e
 cases e
def At.K7(A:At p H0 own Hb H){a:Addr}(h:Hb a=none):own a=none:=by
 cases e:own a with
 |none=>rfl
 |some r=>exact absurd h (A.ow a r e).2.2
def At.h0(A:At p H0 own Hb H){a:Addr}(h:Hb a=none):H0 a=none:=by
 cases e:H0 a with
 |none=>rfl
 |some o=>rw[A.k0 a o e (A.nfb h)] at h;cases h
def aX(A:At p H0 own Hb H){j k:Kd}(h:j.le k=true){a:Addr}(o:okK p H0 own Hb j a):okK p H0 own Hb k a:=by
 cases j with
 |imm=>exact ė o
 |new =>
  cases k with
  |imm=>cases h
  |new=>exact o
  |reg r=>cases h
  |n0=>exact⟨A.h0 o,A.nfb o⟩
  |snw=>exact⟨A.h0 o,A.nfb o,A.K7 o⟩
  |shr=>exact⟨A.nfb o,A.K7 o⟩
  |wk=>exact A.nfb o
 |reg r =>
  cases k with
  |reg q =>
   have e:r=q:=by simpa[Kd.le] using h
   subst e
   exact o
  |n0=>exact⟨(A.ow a r o).1,(A.ow a r o).2.1⟩
  |wk=>exact(A.ow a r o).2.1
  |_=>cases h
 |n0 =>
  cases k with
  |n0=>exact o
  |wk=>exact o.2
  |_=>cases h
 |snw =>
  cases k with
  |snw=>exact o
  |n0=>exact⟨o.1,o.2.1⟩
  |shr=>exact o.2
  |wk=>exact o.2.1
  |_=>cases h
 |shr =>
  cases k with
  |shr=>exact o
  |wk=>exact o.1
  |_=>cases h
 |wk =>
  cases k with
  |wk=>exact o
  |_=>cases h
def iW(A:At p H0 own Hb H){k:Kd}{a:Addr}(o:okK p H0 own Hb k a):¬p.fp a:=by
 have:k.le .wk=true:=by cases k <;> rfl
 exact aX A this o
def jd(A:At p H0 own Hb H){j k:Kd}(h:j.le k=true){v:V}{d:D}{H2:Hp}(r:Rp (okK p H0 own Hb j) H2 v d):Rp (okK p H0 own Hb k) H2 v d :=
 r.mono (λa o=>aX A h o) (λ_ _ _ e=>e) λ_ _ e=>e
def cH(a b:Kd):a.le (a.join b)=true/\b.le (a.join b)=true:=by
 unfold Kd.join
 by_cases h:a.le b=true
 ·rw[if_pos h];exact⟨h,by cases b <;> simp[Kd.le]⟩
 ·rw[if_neg h]
  by_cases h2:b.le a=true
  ·rw[if_pos h2];exact⟨by cases a <;> simp[Kd.le],h2⟩
  ·rw[if_neg h2]
   by_cases h3:(a.le .n0&&b.le .n0)=true
   ·rw[if_pos h3];exact Ý _ _ ▸ h3
   ·rw[if_neg h3]
    by_cases h4:(a.le .shr&&b.le .shr)=true
    ·rw[if_pos h4];exact Ý _ _ ▸ h4
    ·rw[if_neg h4];exact⟨by cases a <;> rfl,by cases b <;> rfl⟩
def aM{k:Kd}{v:V}{d:D}{H2:Hp}(r:Rp (okK p H0 own Hb k) H2 v d):Rp (okK p H0 own Hb (norm k d)) H2 v d:=by
 by_cases h:cQ d=true
 ·rw[cF h];exact r.imm h
 ·rw[bU h];exact r
def iz(A:At p H0 own Hb H)(k:Kp p H H'):∀a xs,H a=some (.tup xs)->H' a=some (.tup xs):=λa xs h=>k a _ h λz=>by
 obtain⟨o,e,n⟩:=p.is H a A.pen z
 rw[h] at e
 exact n.1 xs (ß e).symm
def gR(A:At p H0 own Hb H)(k:Kp p H H'){j:Kd}{v:V}{d:D}(r:Rp (okK p H0 own Hb j) H v d):Rp (okK p H0 own Hb j) H' v d :=
 r.mono (λ_ o=>o) (λa o h e=>k a o e (iW A h)) (iz A k)
def aR(A:At p H0 own Hb H)(k:Kp p H H'){j:Kd}{v:List V}{d:List D}(r:Rps (okK p H0 own Hb j) H v d):Rps (okK p H0 own Hb j) H' v d :=
 r.mono (λ_ o=>o) (λa o h e=>k a o e (iW A h)) (iz A k)
def At.go(A:At p H0 own Hb H)(k:Kp p H H')(i:p.PI H'):At p H0 own Hb H':=⟨A.k0,A.kp.trans k,A.penb,i,A.ow⟩
def At.base{H1:Hp}(A:At p H0 own Hb H)(B:At p H0 own H H1):At p H0 own Hb H1:=⟨A.k0,A.kp.trans B.kp,A.penb,B.pen,A.ow⟩
def DQ(A:At p H0 own Hb H){k:Kd}{a:Addr}(o:okK p H0 own H k a):okK p H0 own Hb k a:=by
 cases k <;> first
  |exact o
  |exact A.free o
def fX(A:At p H0 own Hb H){k:Kd}{v:V}{d:D}{H2:Hp}(r:Rp (okK p H0 own H k) H2 v d):Rp (okK p H0 own Hb k) H2 v d :=
 r.mono (λa o=>DQ A o) (λ_ _ _ e=>e) λ_ _ e=>e
def At.new(A:At p H0 own Hb H){a:Addr}(h:H a=none)(o:HO):Kp p H (upd H a o)/\p.PI (upd H a o)/\okK p H0 own Hb .new a :=
 have s:Same H (upd H a o):=λb u q=>by rw[ak (aD q h)];exact q
 ⟨Kp.of s,p.mono H _ A.pen λb u _ q=>s b u q,A.free h⟩
end
structure RowsH(own:Addr->Option Nat)(r:Nat)(H:Hp)(st:Addr)(as:List Addr)(L:List (List D)):Prop where
 top:H st=some (.lst (as.map V.ref))
 nd:(st::as).Nodup
 ow:∀a∈st::as,own a=some r
 len:as.length=L.length
 row:∀(j:Nat) (a:Addr) (ds:List D),as[j]?=some a->L[j]?=some ds->∃vs,H a=some (.lst vs)/\Rps (λ_=>False) H vs ds
def RowsH.mono{own own':Addr->Option Nat}{r:Nat}{H H':Hp}{st:Addr}{as:List Addr}{L:List (List D)}(h:RowsH own r H st as L)(g:∀a o,own a=some r->H a=some o->own' a=some r/\H' a=some o)(t:∀a xs,H a=some (.tup xs)->H' a=some (.tup xs)):RowsH own' r H' st as L:=by
 have live:∀a∈st::as,∃o,H a=some o:=λa ha=>by
  rcases Ē.mp ha with rfl|ha
  ·exact⟨_,h.top⟩
  ·obtain⟨j,hj⟩:=List.getElem?_of_mem ha
   have hl:=(Ö.mp hj).1
   obtain⟨vs,e,_⟩:=h.row j a _ hj (Ä (by rw[←h.len];exact hl))
   exact⟨_,e⟩
 refine⟨(g st _ (h.ow st Ú) h.top).2,h.nd,λa ha=>?_,h.len,λj a ds e1 e2=>?_⟩
 ·obtain⟨o,e⟩:=live a ha
  exact(g a o (h.ow a ha) e).1
 ·obtain⟨vs,e,r'⟩:=h.row j a ds e1 e2
  exact⟨vs,(g a _ (h.ow a (Õ _ (Ò e1))) e).2,r'.mono (λ_ o=>o) (λ_ _ o=>o.elim) t⟩
def kh{ok:Addr->Prop}{H:Hp}:∀(as:List Addr) (L:List (List D)),as.length=L.length->(∀a∈as,ok a)->(∀(j:Nat) (a:Addr) (ds:List D),as[j]?=some a->L[j]?=some ds->∃vs,H a=some (.lst vs)/\Rps (λ_=>False) H vs ds)->Rps ok H (as.map V.ref) (L.map ñ)
 |[],[],_,_,_=>.nil
 |a::as,d::L,hl,h,r=>by
  obtain⟨vs,e,rs⟩:=r 0 a d rfl rfl
  exact .cons (.lst (h a Ú) e (rs.mono (λ_ o=>o.elim) (λ_ _ o=>o.elim) λ_ _ e=>e)) (kh as L (by simpa using hl) (λb hb=>h b (Õ _ hb)) λj b ds e1 e2=>r (j+1) b ds e1 e2)
 |[],_::_,hl,_,_=>by cases hl
 |_::_,[],hl,_,_=>by cases hl
def RowsH.rp{own:Addr->Option Nat}{r:Nat}{H:Hp}{st:Addr}{as:List Addr}{L:List (List D)}(h:RowsH own r H st as L):Rp (λa=>own a=some r) H (.ref st) (.list (L.map ñ)) :=
 .lst (h.ow st Ú) h.top (kh as L h.len (λa ha=>h.ow a (Õ _ ha)) h.row)
structure RowsT(own:Addr->Option Nat)(r:Nat)(H:Hp)(st:Addr)(as:List Addr)(L:List (List D)):Prop where
 top:H st=some (.tup (as.map V.ref))
 nd:as.Nodup
 ow:∀a∈as,own a=some r
 len:as.length=L.length
 row:∀(j:Nat) (a:Addr) (ds:List D),as[j]?=some a->L[j]?=some ds->∃vs,H a=some (.lst vs)/\Rps (λ_=>False) H vs ds
def RowsT.mono{own own':Addr->Option Nat}{r:Nat}{H H':Hp}{st:Addr}{as:List Addr}{L:List (List D)}(h:RowsT own r H st as L)(g:∀a o,own a=some r->H a=some o->own' a=some r/\H' a=some o)(t:∀a xs,H a=some (.tup xs)->H' a=some (.tup xs)):RowsT own' r H' st as L:=by
 refine⟨t st _ h.top,h.nd,λa ha=>?_,h.len,λj a ds e1 e2=>?_⟩
 ·obtain⟨j,hj⟩:=List.getElem?_of_mem ha
  have hl:=(Ö.mp hj).1
  obtain⟨vs,e,_⟩:=h.row j a _ hj (Ä (by rw[←h.len];exact hl))
  exact(g a _ (h.ow a ha) e).1
 ·obtain⟨vs,e,r'⟩:=h.row j a ds e1 e2
  exact⟨vs,(g a _ (h.ow a (Ò e1)) e).2,r'.mono (λ_ o=>o) (λ_ _ o=>o.elim) t⟩
def RowsT.rp{own:Addr->Option Nat}{r:Nat}{H:Hp}{st:Addr}{as:List Addr}{L:List (List D)}(h:RowsT own r H st as L):Rp (λa=>own a=some r) H (.ref st) (.tuple (L.map ñ)) :=
 .tup h.top (kh as L h.len h.ow h.row)
def okS(p:Pn)(H0:Hp)(own:Addr->Option Nat)(b:Bool)(a:Addr):Prop:=(b=true->H0 a=none)/\¬p.fp a/\own a=none
def gB(p:Pn)(H0:Hp)(own:Addr->Option Nat)(σ:L2.St)(H:Hp)(i:Nat):Sl->Prop
 |.any=>True
 |.im d=>∃v,σ[i]?=some (some v)/\Rp (λ_=>False) H v d
 |.sh d=>∃v,σ[i]?=some (some v)/\Rp (λa=>¬p.fp a/\own a=none) H v d
 |.sn d=>∃v,σ[i]?=some (some v)/\Rp (λa=>H0 a=none/\¬p.fp a/\own a=none) H v d
 |.dw r d=>∃v,σ[i]?=some (some v)/\Rp (λa=>own a=some r) H v d
 |.pen C=>σ[i]?=some (some p.pv)/\C p
 |.rw r L=>∃st as,σ[i]?=some (some (.ref st))/\RowsH own r H st as L
 |.tw r L=>∃st as,σ[i]?=some (some (.ref st))/\RowsT own r H st as L
 |.scr v b=>σ[i]?=some (some v)/\(b=true->p=gG)
 |.sp r b ds=>∃l vs,σ[i]?=some (some (.ref l))/\own l=some r/\H l=some (.lst vs)/\Rps (okS p H0 own b) H vs ds
structure EnvD[Gr](p:Pn)(H0:Hp)(own:Addr->Option Nat)(σ:L2.St)(H:Hp)(ρ:List Sl):Prop where
 k0:∀b o,H0 b=some o->¬p.fp b->H b=some o
 pen:p.PI H
 ow:∀a r,own a=some r->H0 a=none/\¬p.fp a/\H a≠none
 slot:∀i s,ρ[i]?=some s->gB p H0 own σ H i s
 len:ρ.length=σ.length
 gr:Gr.G p H0
variable [Gr]
section
variable {p:Pn}{H0 H H':Hp}{own:Addr->Option Nat}{σ:L2.St}{ρ:List Sl}
def EnvD.at(E:EnvD p H0 own σ H ρ):At p H0 own H H:=⟨E.k0,Kp.refl,E.pen,E.pen,E.ow⟩
def EnvD.go(E:EnvD p H0 own σ H ρ)(k:Kp p H H')(i:p.PI H'):EnvD p H0 own σ H' ρ:=by
 have A:=E.at
 have tp:=iz A k
 refine⟨λb o e n=>k b o (E.k0 b o e n) n,i,λa r e=>?_,λj s e=>?_,E.len,E.gr⟩
 ·obtain⟨h1,h2,h3⟩:=E.ow a r e
  refine⟨h1,h2,λz=>?_⟩
  cases q:H a with
  |none=>exact h3 q
  |some o=>rw[k a o q h2] at z;cases z
 ·have q:=E.slot j s e
  cases s with
  |any=>trivial
  |im d=>exact let ⟨v,a,b⟩:=q;⟨v,a,b.mono (λ_ o=>o) (λ_ _ o=>o.elim) tp⟩
  |sh d=>exact let ⟨v,a,b⟩:=q;⟨v,a,b.mono (λ_ o=>o) (λc u o e=>k c u e o.1) tp⟩
  |sn d=>exact let ⟨v,a,b⟩:=q;⟨v,a,b.mono (λ_ o=>o) (λc u o e=>k c u e o.2.1) tp⟩
  |dw r d=>exact let ⟨v,a,b⟩:=q;⟨v,a,b.mono (λ_ o=>o) (λc u o e=>k c u e (E.ow c r o).2.1) tp⟩
  |pen C=>exact q
  |rw r L=>exact let ⟨st,as,a,b⟩:=q;⟨st,as,a,b.mono (λc u o e=>⟨o,k c u e (E.ow c r o).2.1⟩) tp⟩
  |tw r L=>exact let ⟨st,as,a,b⟩:=q;⟨st,as,a,b.mono (λc u o e=>⟨o,k c u e (E.ow c r o).2.1⟩) tp⟩
  |scr v b=>exact q
  |sp r b ds=>exact let ⟨l,vs,a,o,h,z⟩:=q;⟨l,vs,a,o,k l _ h (E.ow l r o).2.1,z.mono (λ_ o=>o) (λc u o e=>k c u e o.2.1) tp⟩
end
abbrev DK:=Kd->D->Prop
abbrev DE:=List Sl->DK->Prop
def cL(t:DE):TE:=λσ H Q=>∃p H0 own ρ P,EnvD p H0 own σ H ρ/\t ρ P/\∀k d v H',P k d->At p H0 own H H'->Rp (okK p H0 own H k) H' v d->Q v H'
abbrev PD(X:Cx)(e:Expr)(t:DE):Prop:=PE X e (cL t)
abbrev DA:=List Sl->(List (Kd×D)->Prop)->Prop
inductive RpK(p:Pn)(H0:Hp)(own:Addr->Option Nat)(Hb H:Hp):List V->List (Kd×D)->Prop
 |nil:RpK p H0 own Hb H [] []
 |cons {v:V}{kd:Kd×D}{vs:List V}{ks:List (Kd×D)} (h:Rp (okK p H0 own Hb kd.1) H v kd.2) (t:RpK p H0 own Hb H vs ks):RpK p H0 own Hb H (v::vs) (kd::ks)
def uQ(t:DA):TA:=λσ H Q=>∃p H0 own ρ P,EnvD p H0 own σ H ρ/\t ρ P/\∀ks vs H',P ks->At p H0 own H H'->RpK p H0 own H H' vs ks->Q vs H'
abbrev PDA(X:Cx)(es:List Expr)(t:DA):Prop:=PA X es (uQ t)
abbrev DT:=List Sl->(Bool->Prop)->Prop
def liftT(t:DT):TT:=λσ H Q=>∃p H0 own ρ P,EnvD p H0 own σ H ρ/\t ρ P/\∀b H',P b->At p H0 own H H'->Q b H'
abbrev PDT(X:Cx)(e:Expr)(t:DT):Prop:=PT X e (liftT t)
def PE.wk{X:Cx}{e:Expr}{t t':TE}(h:PE X e t)(w:∀σ H Q,t' σ H Q->t σ H Q):PE X e t':=λpins s σ H Q I q=>h pins s σ H Q I (w σ H Q q)
def PT.wk{X:Cx}{e:Expr}{t t':TT}(h:PT X e t)(w:∀σ H Q,t' σ H Q->t σ H Q):PT X e t':=λpins s σ H Q I q=>h pins s σ H Q I (w σ H Q q)
def PA.wk{X:Cx}{e:List Expr}{t t':TA}(h:PA X e t)(w:∀σ H Q,t' σ H Q->t σ H Q):PA X e t':=λpos pins s σ H Q I q=>h pos pins s σ H Q I (w σ H Q q)
section
variable {X:Cx}{pos:Pos}{a b:Expr}{ta tb:DE}
def RpK.go{p:Pn}{H0 Hb H H':Hp}{own:Addr->Option Nat}(A:At p H0 own Hb H)(k:Kp p H H'):∀{vs:List V}{ks:List (Kd×D)},RpK p H0 own Hb H vs ks->RpK p H0 own Hb H' vs ks
 |_,_,.nil=>.nil
 |_,_,.cons h t=>.cons (gR A k h) (RpK.go A k t)
def RpK.base{p:Pn}{H0 Hb H H':Hp}{own:Addr->Option Nat}(A:At p H0 own Hb H):∀{vs:List V}{ks:List (Kd×D)},RpK p H0 own H H' vs ks->RpK p H0 own Hb H' vs ks
 |_,_,.nil=>.nil
 |_,_,.cons h t=>.cons (fX A h) (RpK.base A t)
def tV(i:Nat):DE:=λρ P=>match ρ[i]? with
 |some (.im d)=>P .imm d
 |some (.sh d)=>P .shr d
 |some (.sn d)=>P .snw d
 |some (.dw r d)=>P (.reg r) d
 |some (.rw r L)=>P (.reg r) (.list (L.map ñ))
 |some (.tw r L)=>P (.reg r) (.tuple (L.map ñ))
 |some (.sp r b ds)=>P (if b=true then .n0 else .wk) (.list ds)
 |_=>False
def KY{i:Nat}{x:Str}{ps:Pos}(h:PE X (.Name x ps) (vJ i)):PD X (.Name x ps) (tV i):=PE.wk h (by
 rintro σ H Q ⟨p,H0,own,ρ,P,E,t,q⟩
 unfold tV at t
 split at t
 ·rename_i d e;obtain⟨v,e1,r⟩:=E.slot i _ e;exact⟨v,e1,q _ _ _ _ t E.at r⟩
 ·rename_i d e;obtain⟨v,e1,r⟩:=E.slot i _ e;exact⟨v,e1,q _ _ _ _ t E.at r⟩
 ·rename_i d e;obtain⟨v,e1,r⟩:=E.slot i _ e;exact⟨v,e1,q _ _ _ _ t E.at r⟩
 ·rename_i d e;obtain⟨v,e1,r⟩:=E.slot i _ e;exact⟨v,e1,q _ _ _ _ t E.at r⟩
 ·rename_i r L e;obtain⟨st,as,e1,h⟩:=E.slot i _ e;exact⟨_,e1,q _ _ _ _ t E.at h.rp⟩
 ·rename_i r L e;obtain⟨st,as,e1,h⟩:=E.slot i _ e;exact⟨_,e1,q _ _ _ _ t E.at h.rp⟩
 ·rename_i r b ds e
  obtain⟨l,vs,e1,o,h,z⟩:=E.slot i _ e
  refine⟨_,e1,q _ _ _ _ t E.at ?_⟩
  cases b with
  |true=>exact .lst ⟨(E.ow l r o).1,(E.ow l r o).2.1⟩ h (z.mono (λc n=>⟨n.1 rfl,n.2.1⟩) (λ_ _ _ e=>e) λ_ _ e=>e)
  |false=>exact .lst (E.ow l r o).2.1 h (z.mono (λc n=>n.2.1) (λ_ _ _ e=>e) λ_ _ e=>e)
 ·exact t.elim)
def tK(d:D):DE:=λ_ P=>P .imm d
def g8{e:Expr}{v:V}{d:D}(h:PE X e (tC v))(r:∀H,Rp (λ_=>False) H v d):PD X e (tK d):=PE.wk h (by
 rintro σ H Q ⟨p,H0,own,ρ,P,E,t,q⟩
 exact q _ _ _ _ t E.at (r H))
def bI{i:Int}{j:Nat}:PD X (.Constant (.int i) j pos) (tK (.int i)):=g8 CW λ_=>.int i
def gF{i:Bool}{j:Nat}:PD X (.Constant (.bool i) j pos) (tK (.bool i)):=g8 Oj λ_=>.bl i
def dU{j:Nat}:PD X (.Constant .none j pos) (tK .none):=g8 KN λ_=>.non
def gY{x:Str}{j:Nat}:PD X (.Constant (.str x) j pos) (tK (.str x)):=g8 KD λ_=>.str x
abbrev G2:=Kd->D->Kd->D->DK->Prop
def t2(g:G2)(ta tb:DE):DE:=λρ P=>ta ρ λk1 d1=>tb ρ λk2 d2=>g k1 d1 k2 d2 P
def Ok2(g:G2)(r:R2):Prop:=∀p H0 own Hb H x y k1 d1 k2 d2 P Q,At p H0 own Hb H->Rp (okK p H0 own Hb k1) H x d1->Rp (okK p H0 own Hb k2) H y d2->g k1 d1 k2 d2 P ->
 (∀k d v H',P k d->Kp p H H'->p.PI H'->Rp (okK p H0 own Hb k) H' v d->Q v H')->r x y H Q
def jN{g:G2}{r:R2}(ok:Ok2 g r):∀σ H Q,cL (t2 g ta tb) σ H Q->tOp r (cL ta) (cL tb) σ H Q:=by
 rintro σ H Q ⟨p,H0,own,ρ,P,E,t,q⟩
 refine⟨p,H0,own,ρ,_,E,t,λk1 d1 v1 H1 t1 A1 r1=>?_⟩
 have E1:=E.go A1.kp A1.pen
 refine⟨p,H0,own,ρ,_,E1,t1,λk2 d2 v2 H2 t2 A2 r2=>?_⟩
 have A:At p H0 own H H2:=A1.base A2
 exact ok p H0 own H H2 v1 v2 k1 d1 k2 d2 P Q A (gR A1 A2.kp r1) (fX A1 r2) t2 λk d v H' h k3 i3 r3=>q k d v H' h (A.go k3 i3) r3
def nO{op:Operator}{r:R2}{g:G2}(ho:OpR X (binaryOp op) r)(ok:Ok2 g r)(ha:PD X a ta)(hb:PD X b tb):PD X (.BinOp a op b pos) (t2 g ta tb):=PE.wk (aO ho ha hb) (jN ok)
def gb{op:CmpOp}{r:R2}{g:G2}(ho:OpR X (compareOp op) r)(ok:Ok2 g r)(ha:PD X a ta)(hb:PD X b tb)(hm:behindInMarks op b=false):PD X (.Compare a [op] [b] pos) (t2 g ta tb):=PE.wk (Hs ho ha hb hm) (jN ok)
def cN(t:DE):DT:=λρ P=>t ρ λ_ d=>match d with
 |.bool b=>P b
 |_=>False
def iw{t:DE}:∀σ H Q,liftT (cN t) σ H Q->(cL t) σ H (λx H'=>∃k,x=.bl k/\Q k H'):=by
 rintro σ H Q ⟨p,H0,own,ρ,P,E,t,q⟩
 refine⟨p,H0,own,ρ,_,E,t,λk d v H' h A r=>?_⟩
 cases d with
 |bool b=>exact⟨b,r.bl',q b H' h A⟩
 |_=>exact h.elim
def eN{op:CmpOp}{r:R2}{g:G2}(ho:OpR X (compareOp op) r)(ok:Ok2 g r)(ha:PD X a ta)(hb:PD X b tb)(hm:behindInMarks op b=false):PDT X (.Compare a [op] [b] pos) (cN (t2 g ta tb)) :=
 PT.wk (iR ho ha hb hm) λσ H Q h=>jN ok σ H _ (iw σ H Q h)
def bV{e:Expr}{t:DE}(h:PD X e t)(he:∀whole,isTrue e X.env whole=(do let v ←whole;standAt e.pos;holding [v] (truthy v)):=by intro _;rfl):PDT X e (cN t) :=
 PT.wk (Cv h he) λσ H Q q=>iw σ H Q q
def Mw(t:DT):DT:=λρ P=>t ρ λb=>P (!b)
def dz{t:DT}(ha:PDT X a t):PDT X (.UnaryOp .Not a pos) (Mw t):=PT.wk (Cw ha) (by
 rintro σ H Q ⟨p,H0,own,ρ,P,E,t,q⟩
 exact⟨p,H0,own,ρ,_,E,t,λb H' h A=>q _ H' h A⟩)
abbrev PDW(X:Cx)(e:Expr)(t:DT):Prop:=PW X e (liftT t)
def PW.wk{X:Cx}{e:Expr}{t t':TT}(h:PW X e t)(w:∀σ H Q,t' σ H Q->t σ H Q):PW X e t':=λwh pins s σ H Q I q=>h wh pins s σ H Q I (w σ H Q q)
def Gm(t u:DT):DT:=λρ P=>t ρ λb=>if b=true then u ρ P else P false
def dOr(t u:DT):DT:=λρ P=>t ρ λb=>if b=true then P true else u ρ P
section
variable {rest:List Expr}{t u:DT}
def dO(ha:PDT X a t):PDW X (.BoolOp .And [a] pos) t:=xZ ha
def eH(ha:PDT X a t):PDW X (.BoolOp .Or [a] pos) t:=Cr ha
def Er:∀σ H Q,liftT (Gm t u) σ H Q->Nv (liftT t) (liftT u) σ H Q:=by
 rintro σ H Q ⟨p,H0,own,ρ,P,E,t,q⟩
 refine⟨p,H0,own,ρ,_,E,t,λb H' h A=>?_⟩
 cases b with
 |true=>exact bf ⟨p,H0,own,ρ,P,E.go A.kp A.pen,by simpa using h,λc H2 h2 A2=>q c H2 h2 (A.base A2)⟩
 |false=>exact bw (q false H' (by simpa using h) A)
def Ie:∀σ H Q,liftT (dOr t u) σ H Q->tOr (liftT t) (liftT u) σ H Q:=by
 rintro σ H Q ⟨p,H0,own,ρ,P,E,t,q⟩
 refine⟨p,H0,own,ρ,_,E,t,λb H' h A=>?_⟩
 cases b with
 |true=>exact bf (q true H' (by simpa using h) A)
 |false=>exact bw ⟨p,H0,own,ρ,P,E.go A.kp A.pen,by simpa using h,λc H2 h2 A2=>q c H2 h2 (A.base A2)⟩
def fY(ha:PDT X a t)(hb:PDW X (.BoolOp .And (b::rest) pos) u):PDW X (.BoolOp .And (a::b::rest) pos) (Gm t u):=PW.wk (Cu ha hb) Er
def eZ(ha:PDT X a t)(hb:PDW X (.BoolOp .Or (b::rest) pos) u):PDW X (.BoolOp .Or (a::b::rest) pos) (dOr t u):=PW.wk (Jv ha hb) Ie
def PDW.pt{e:Expr}{t:DT}(h:PDW X e t):PDT X e t:=PW.pt h
end
end
variable [Gr]
section
variable {X:Cx}{pos:Pos}{a b e:Expr}{es:List Expr}{ta tb te:DE}{t:DA}
def tu:DA:=λ_ P=>P []
def iI(te:DE)(t:DA):DA:=λρ P=>te ρ λk d=>t ρ λks=>P ((k,d)::ks)
def aL:PDA X [] tu:=PA.wk bR (by
 rintro σ H Q ⟨p,H0,own,ρ,P,E,t,q⟩
 exact q [] [] H t E.at .nil)
def au(ha:PD X e te)(hr:PDA X es t)(hs:zS X e es:=by rfl):PDA X (e::es) (iI te t):=PA.wk (cC ha hr hs) (by
 rintro σ H Q ⟨p,H0,own,ρ,P,E,t,q⟩
 refine⟨p,H0,own,ρ,_,E,t,λk d v H1 h A r=>?_⟩
 refine⟨p,H0,own,ρ,_,E.go A.kp A.pen,h,λks vs H2 h2 A2 r2=>?_⟩
 exact q _ _ H2 h2 (A.base A2) (.cons (gR A A2.kp r) (RpK.base A r2)))
def joins:List (Kd×D)->Kd
 |[]=>.imm
 |kd::ks=>kd.1.join (joins ks)
def RpK.all{p:Pn}{H0 Hb H H2:Hp}{own:Addr->Option Nat}(A:At p H0 own Hb H):∀{vs:List V}{ks:List (Kd×D)}{k:Kd},(joins ks).le k=true->RpK p H0 own Hb H2 vs ks->Rps (okK p H0 own Hb (joins ks)) H2 vs (ks.map (·.2))
 |_,_,_,_,.nil=>.nil
 |_,kd::ks,k,e,.cons h t=>by
  have j:=cH kd.1 (joins ks)
  exact .cons (jd A j.1 h) ((RpK.all A (k:=joins ks) (by cases joins ks <;> simp[Kd.le]) t).mono (λa o=>aX A j.2 o) (λ_ _ _ e=>e) λ_ _ e=>e)
def Kd.le_refl(k:Kd):k.le k=true:=by cases k <;> simp[Kd.le]
def RpK.length{p:Pn}{H0 Hb H2:Hp}{own:Addr->Option Nat}:∀{vs:List V}{ks:List (Kd×D)},RpK p H0 own Hb H2 vs ks->vs.length=ks.length
 |_,_,.nil=>rfl
 |_,_,.cons _ t=>by rw[ð,ð,RpK.length t]
def Bx(t:DA):DE:=λρ P=>t ρ λks=>ks.length<=1000/\P ((joins ks).join .new) (.list (ks.map (·.2)))
def vK(t:DA):DE:=λρ P=>t ρ λks=>ks.length<=1000/\P (norm (joins ks) (.tuple (ks.map (·.2)))) (.tuple (ks.map (·.2)))
def iU(h:PDA X es t):PD X (.List es pos) (Bx t):=PE.wk (qO h) (by
 rintro σ H Q ⟨p,H0,own,ρ,P,E,t,q⟩
 refine⟨p,H0,own,ρ,_,E,t,λks vs H1 h A r=>?_⟩
 have h24:=ì
 have hl:=r.length
 refine⟨by have:=h.1;omega,λl hl=>?_⟩
 obtain⟨k2,i2,nw⟩:=A.new hl (.lst vs)
 have j:=cH (joins ks) .new
 refine q _ _ _ _ h.2 (A.go k2 i2) (.lst (aX A j.2 nw) ao ?_)
 exact(aR A k2 (RpK.all A (Kd.le_refl _) r)).mono (λa o=>aX A j.1 o) (λ_ _ _ e=>e) λ_ _ e=>e)
def nJ{x1}(h:PDA X es t):PD X (.Tuple es x1 pos) (vK t):=PE.wk (vU h) (by
 rintro σ H Q ⟨p,H0,own,ρ,P,E,t,q⟩
 refine⟨p,H0,own,ρ,_,E,t,λks vs H1 h A r=>?_⟩
 have h24:=ì
 have hl:=r.length
 refine⟨by have:=h.1;omega,λl hl=>?_⟩
 obtain⟨k2,i2,nw⟩:=A.new hl (.tup vs)
 exact q _ _ _ _ h.2 (A.go k2 i2) (aM (.tup ao (aR A k2 (RpK.all A (Kd.le_refl _) r)))))
abbrev GC:=List (Kd×D)->DK->Prop
def tCl(g:GC)(t:DA):DE:=λρ P=>t ρ λks=>g ks P
def OkC(g:GC)(r:List V->Hp->VK->Prop):Prop:=∀p H0 own Hb H vs ks P Q,At p H0 own Hb H->RpK p H0 own Hb H vs ks->g ks P ->
 (∀k d v H',P k d->Kp p H H'->p.PI H'->Rp (okK p H0 own Hb k) H' v d->Q v H')->r vs H Q
def JN{g:GC}{r:List V->Hp->VK->Prop}(ok:OkC g r):∀σ H Q,cL (tCl g t) σ H Q->tCB r (uQ t) σ H Q:=by
 rintro σ H Q ⟨p,H0,own,ρ,P,E,t,q⟩
 refine⟨p,H0,own,ρ,_,E,t,λks vs H1 h A r=>?_⟩
 exact ok p H0 own H H1 vs ks P Q A r h λk d v H' h2 k2 i2 r2=>q k d v H' h2 (A.go k2 i2) r2
def dW{r:List V->Hp->VK->Prop}{id:String}{x:Str}{ps:Pos}{g:GC}(hc:bH X (.builtin id) r)(ok:OkC g r)(hg:Gl X x)(hm:X.mg x=none)(hv:bootBuiltins x=some (.builtin id))(ha:PDA X (e::es) t)(hn:x≠"__name__":=by decide)(hdb:zB x:=by decide)(he:zS X e es:=by rfl)(hpl:zP X pos es:=by rfl):PD X (.Call (.Name x ps) (e::es) [] pos) (tCl g t):=PE.wk (dN hc hg hm hv ha hn hdb he hpl) (JN ok)
def nR{r:List V->Hp->VK->Prop}{id:String}{x:Str}{ps:Pos}{g:GC}(hc:bH X (.type id) r)(ok:OkC g r)(hg:Gl X x)(hm:X.mg x=none)(hv:bootBuiltins x=some (.type id))(ha:PDA X (e::es) t)(hn:x≠"__name__":=by decide)(hdb:zB x:=by decide)(he:zS X e es:=by rfl)(hpl:zP X pos es:=by rfl):PD X (.Call (.Name x ps) (e::es) [] pos) (tCl g t):=PE.wk (fG hc hg hm hv ha hn hdb he hpl) (JN ok)
def spD(t:List D->(D->Prop)->Prop):Sp:=λvs H Q _=>∃ds P,Rps (λ_=>True) H vs ds/\t ds P/\∀d v H',P d->Same H H'->Rp (λa=>H a=none) H' v d->Q v H'
def tFn(f:List D->(D->Prop)->Prop)(t:DA):DE:=λρ P=>t ρ λks=>f (ks.map (·.2)) λd=>P (norm .new d) d
def RpK.rps{p:Pn}{H0 Hb H H2:Hp}{own:Addr->Option Nat}(A:At p H0 own Hb H):∀{vs:List V}{ks:List (Kd×D)},RpK p H0 own Hb H2 vs ks->Rps (λa=>¬p.fp a) H2 vs (ks.map (·.2))
 |_,_,.nil=>.nil
 |_,_,.cons h t=>.cons (h.mono (λa o=>iW A o) (λ_ _ _ e=>e) λ_ _ e=>e) (RpK.rps A t)
def rN{f:List D->(D->Prop)->Prop}:∀σ H Q,cL (tFn f t) σ H Q->tX (spD f) [] E0 (uQ t) σ H Q:=by
 rintro σ H Q ⟨p,H0,own,ρ,P,E,t,q⟩
 refine⟨p,H0,own,ρ,_,E,t,λks vs H1 h A r=>?_⟩
 show spD f (vs++[]) H1 Q E0
 rw[õ]
 refine⟨ks.map (·.2),_,(RpK.rps A r).mono (λ_ _=>trivial) (λ_ _ _ e=>e) λ_ _ e=>e,h,λd v H' h2 s r2=>?_⟩
 have k2:Kp p H1 H':=Kp.of s
 refine q _ d v H' h2 (A.go k2 (p.mono H1 H' A.pen λb o _ e=>s b o e)) (aM ?_)
 exact r2.mono (λa o=>A.free o) (λ_ _ _ e=>e) λ_ _ e=>e
def Qp(C:Pn->Prop)(f:List D->(D->Prop)->Prop)(i:Nat)(t:DA):DE:=λρ P=>ρ[i]?=some (.pen C)/\tFn f t ρ P
def gI(C:Int->Int->Prop)(f:Int->Int->D):G2:=λ_ d1 _ d2 P=>match d1,d2 with
 |.int i,.int j=>C i j/\P .imm (f i j)
 |_,_=>False
def gI0(f:Int->Int->D):G2:=λ_ d1 _ d2 P=>match d1,d2 with
 |.int i,.int j=>P .imm (f i j)
 |_,_=>False
def okI{C:Int->Int->Prop}{f:Int->Int->D}{g:Int->Int->V}(h:∀i j H,Rp (λ_=>False) H (g i j) (f i j)):Ok2 (gI C f) (rI C g):=by
 intro p H0 own Hb H x y k1 d1 k2 d2 P Q A r1 r2 t q
 unfold gI at t
 split at t
 ·rename_i i j
  exact⟨i,j,r1.int',r2.int',t.1,q _ _ _ _ t.2 Kp.refl A.pen (h i j H)⟩
 ·exact t.elim
def oh{f:Int->Int->D}{g:Int->Int->V}(h:∀i j H,Rp (λ_=>False) H (g i j) (f i j)):Ok2 (gI0 f) (rI0 g):=by
 intro p H0 own Hb H x y k1 d1 k2 d2 P Q A r1 r2 t q
 unfold gI0 at t
 split at t
 ·rename_i i j
  exact⟨i,j,r1.int',r2.int',q _ _ _ _ t Kp.refl A.pen (h i j H)⟩
 ·exact t.elim
def K6(ha:PD X a ta)(hb:PD X b tb):PD X (.BinOp a .Add b pos) (t2 (gI0 λi j=>.int (i+j)) ta tb):=nO cY (oh λi j _=>.int _) ha hb
def fj(ha:PD X a ta)(hb:PD X b tb):PD X (.BinOp a .Sub b pos) (t2 (gI0 λi j=>.int (i - j)) ta tb):=nO Di (oh λi j _=>.int _) ha hb
def v7(ha:PD X a ta)(hb:PD X b tb):PD X (.BinOp a .Mod b pos) (t2 (gI (λ_ j=>0<j) λi j=>.int (i % j)) ta tb):=nO dX (okI λi j _=>.int _) ha hb
def nM(ha:PD X a ta)(hb:PD X b tb):PD X (.BinOp a .Pow b pos) (t2 (gI MP λi j=>.int (i ^ j.toNat)) ta tb):=nO Dk (okI λi j _=>.int _) ha hb
def Om(ha:PD X a ta)(hb:PD X b tb):PD X (.Compare a [.Lt] [b] pos) (t2 (gI0 λi j=>.bool (decide (i<j))) ta tb):=gb yt (oh λi j _=>.bl _) ha hb (aY _)
def Dd(ha:PD X a ta)(hb:PD X b tb):PD X (.Compare a [.LtE] [b] pos) (t2 (gI0 λi j=>.bool (decide (i<=j))) ta tb):=gb Dm (oh λi j _=>.bl _) ha hb (aY _)
def Dg(ha:PD X a ta)(hb:PD X b tb):PD X (.Compare a [.Gt] [b] pos) (t2 (gI0 λi j=>.bool (decide (j<i))) ta tb):=gb uD (oh λi j _=>.bl _) ha hb (aY _)
def yj(ha:PD X a ta)(hb:PD X b tb):PD X (.Compare a [.GtE] [b] pos) (t2 (gI0 λi j=>.bool (decide (j<=i))) ta tb):=gb Jx (oh λi j _=>.bl _) ha hb (aY _)
def vX(ha:PD X a ta)(hb:PD X b tb):PDT X (.Compare a [.Lt] [b] pos) (cN (t2 (gI0 λi j=>.bool (decide (i<j))) ta tb)):=eN yt (oh λi j _=>.bl _) ha hb (aY _)
def qP(ha:PD X a ta)(hb:PD X b tb):PDT X (.Compare a [.LtE] [b] pos) (cN (t2 (gI0 λi j=>.bool (decide (i<=j))) ta tb)):=eN Dm (oh λi j _=>.bl _) ha hb (aY _)
def nH(ha:PD X a ta)(hb:PD X b tb):PDT X (.Compare a [.Gt] [b] pos) (cN (t2 (gI0 λi j=>.bool (decide (j<i))) ta tb)):=eN uD (oh λi j _=>.bl _) ha hb (aY _)
def scD:D->D->Option Bool
 |.int i,.int j=>some (decide (i=j))
 |.bool i,.bool j=>some (decide (i=j))
 |.str i,.str j=>some (decide (i=j))
 |_,_=>none
def gEq(neg:Bool):G2:=λ_ d1 _ d2 P=>match scD d1 d2 with
 |some b=>P .imm (.bool (if neg then !b else b))
 |none=>False
def QC:Ok2 (gEq false) rEq:=by
 intro p H0 own Hb H x y k1 d1 k2 d2 P Q A r1 r2 t q
 unfold gEq scD at t
 split at t
 ·rename_i b e
  split at e <;> first|cases e|skip
  ·rw[r1.int',r2.int']
   refine⟨rfl,?_⟩
   have e2:∀i j:Int,decide (V.int i=V.int j)=decide (i=j):=λi j=>by simp
   rw[e2];exact q _ _ _ _ t Kp.refl A.pen (.bl _)
  ·rw[r1.bl',r2.bl']
   refine⟨rfl,?_⟩
   have e2:∀i j:Bool,decide (V.bl i=V.bl j)=decide (i=j):=λi j=>by simp
   rw[e2];exact q _ _ _ _ t Kp.refl A.pen (.bl _)
  ·rw[r1.str',r2.str']
   refine⟨rfl,?_⟩
   have e2:∀i j:Str,decide (V.str i=V.str j)=decide (i=j):=λi j=>by simp
   rw[e2];exact q _ _ _ _ t Kp.refl A.pen (.bl _)
 ·exact t.elim
def Ow:Ok2 (gEq true) rNe:=by
 intro p H0 own Hb H x y k1 d1 k2 d2 P Q A r1 r2 t q
 unfold gEq scD at t
 split at t
 ·rename_i b e
  split at e <;> first|cases e|skip
  ·rw[r1.int',r2.int']
   refine⟨rfl,?_⟩
   have e2:∀i j:Int,decide (V.int i=V.int j)=decide (i=j):=λi j=>by simp
   rw[e2];exact q _ _ _ _ t Kp.refl A.pen (.bl _)
  ·rw[r1.bl',r2.bl']
   refine⟨rfl,?_⟩
   have e2:∀i j:Bool,decide (V.bl i=V.bl j)=decide (i=j):=λi j=>by simp
   rw[e2];exact q _ _ _ _ t Kp.refl A.pen (.bl _)
  ·rw[r1.str',r2.str']
   refine⟨rfl,?_⟩
   have e2:∀i j:Str,decide (V.str i=V.str j)=decide (i=j):=λi j=>by simp
   rw[e2];exact q _ _ _ _ t Kp.refl A.pen (.bl _)
 ·exact t.elim
def Ol(ha:PD X a ta)(hb:PD X b tb):PD X (.Compare a [.NotEq] [b] pos) (t2 (gEq true) ta tb):=gb yr Ow ha hb (aY _)
def gIx:G2:=λk1 d1 _ d2 P=>match d1,d2 with
 |.list ds,.int i=>∃d,atI ds i=some d/\P (norm k1 d) d
 |.tuple ds,.int i=>∃d,atI ds i=some d/\P (norm k1 d) d
 |_,_=>False
def Rps.atI{ok:Addr->Prop}{H:Hp}{vs:List V}{ds:List D}{i:Int}{d:D}(r:Rps ok H vs ds)(h:L2.atI ds i=some d):∃v,L2.atI vs i=some v/\Rp ok H v d:=by
 unfold L2.atI at h ⊢
 rw[r.length]
 cases e:ixN ds.length i with
 |none=>rw[e] at h;cases h
 |some j =>
  rw[e] at h
  obtain⟨v,h1,h2⟩:=r.getD (i:=j) (d:=d) h
  exact⟨v,h1,h2⟩
def Pb:G2:=λk1 d1 _ d2 P=>match d1,d2 with
 |.tuple ds,.int i=>∃d,atI ds i=some d/\P (norm k1 d) d
 |_,_=>False
def jj(ha:PD X a ta)(hb:PD X b tb)(hs:jZ b):PD X (.Subscript a b pos) (t2 Pb ta tb):=PE.wk (eG wI ha hb hs) (jN (by
 intro p H0 own Hb H x y k1 d1 k2 d2 P Q A r1 r2 t q
 unfold Pb at t
 split at t
 ·rename_i ds i
  obtain⟨d,hd,t⟩:=t
  obtain⟨c,vs,rfl,hc,rs⟩:=r1.fW
  obtain⟨v,hv,rv⟩:=rs.atI hd
  exact⟨c,vs,i,v,rfl,r2.int',SqT.of hc,hv,q _ _ _ _ t Kp.refl A.pen (aM rv)⟩
 ·exact t.elim))
def eY{p:Pn}{H0 Hb H:Hp}{own:Addr->Option Nat}{vs:List V}{kd:Kd×D}(r:RpK p H0 own Hb H vs [kd]):∃v,vs=[v]/\Rp (okK p H0 own Hb kd.1) H v kd.2:=by
 cases r with
 |cons h t=>cases t;exact⟨_,rfl,h⟩
def Ks{p:Pn}{H0 Hb H:Hp}{own:Addr->Option Nat}{vs:List V}{kd ke:Kd×D}(r:RpK p H0 own Hb H vs [kd,ke]):∃v w,vs=[v,w]/\Rp (okK p H0 own Hb kd.1) H v kd.2/\Rp (okK p H0 own Hb ke.1) H w ke.2:=by
 cases r with
 |cons h t =>
  cases t with
  |cons h2 t2=>cases t2;exact⟨_,_,rfl,h,h2⟩
def Ir:GC:=λks P=>match ks with
 |[(_,.list ds)]=>P .imm (.int ds.length)
 |[(_,.tuple ds)]=>P .imm (.int ds.length)
 |_=>False
def Ox{K:Ø}:OkC Ir (λxs H Q=>∃p ys,xs=[.ref p]/\(SqL K H p ys\/SqT K H p ys)/\Q (.int ys.length) H):=by
 intro p H0 own Hb H vs ks P Q A r t q
 unfold Ir at t
 split at t
 ·obtain⟨v,rfl,r'⟩:=eY r
  obtain⟨c,vs,rfl,o,hc,rs⟩:=r'.cJ
  exact⟨c,vs,rfl,.inl (SqL.of hc),by rw[rs.length];exact q _ _ _ _ t Kp.refl A.pen (.int _)⟩
 ·obtain⟨v,rfl,r'⟩:=eY r
  obtain⟨c,vs,rfl,hc,rs⟩:=r'.fW
  exact⟨c,vs,rfl,.inr (SqT.of hc),by rw[rs.length];exact q _ _ _ _ t Kp.refl A.pen (.int _)⟩
 ·exact t.elim
def nP{ps:Pos}(hm:X.mg "len"=none)(ha:PDA X [a] t)(hg:Gl X "len":=by rfl)(he:zS X a []:=by rfl)(hpl:zP X pos []:=by rfl):PD X (.Call (.Name "len" ps) [a] [] pos) (tCl Ir t) :=
 dW cI Ox hg hm PySem.boot_len ha (by decide) (by decide) he hpl
def Mj:GC:=λks P=>match ks with
 |[(_,.int i)]=>P .imm (.int i)
 |[(_,.bool b)]=>P .imm (.int (if b then 1 else 0))
 |_=>False
def q9{ps:Pos}(hm:X.mg "int"=none)(hv:bootBuiltins "int"=some (.type "int"))(ha:PDA X [a] t)(hg:Gl X "int":=by rfl)(he:zS X a []:=by rfl)(hpl:zP X pos []:=by rfl):PD X (.Call (.Name "int" ps) [a] [] pos) (tCl Mj t) :=
 nR Az (by
  intro p H0 own Hb H vs ks P Q A r t q
  unfold Mj at t
  split at t
  ·rename_i k i
   obtain⟨v,rfl,r'⟩:=eY r
   rw[r'.int']
   exact .inl ⟨i,rfl,q _ _ _ _ t Kp.refl A.pen (.int _)⟩
  ·rename_i k i
   obtain⟨v,rfl,r'⟩:=eY r
   rw[r'.bl']
   exact .inr ⟨i,rfl,q _ _ _ _ t Kp.refl A.pen (.int _)⟩
  ·exact t.elim) hg hm hv ha (by decide) (by decide) he hpl
end
variable [Gr]
section
variable {ok ok':Addr->Prop}{H H':Hp}
mutual
def Rp.cG(f:∀a o,ok a->H a=some o->ok' a/\H' a=some o)(t:∀a xs,H a=some (.tup xs)->H' a=some (.tup xs)):∀{v:V}{d:D},Rp ok H v d->Rp ok' H' v d
 |_,_,.non=>.non
 |_,_,.bl b=>.bl b
 |_,_,.int i=>.int i
 |_,_,.str x=>.str x
 |_,_,.lst o h r=>.lst (f _ _ o h).1 (f _ _ o h).2 (Rps.cG f t r)
 |_,_,.tup h r=>.tup (t _ _ h) (Rps.cG f t r)
 |_,_,.dct o h r=>.dct (f _ _ o h).1 (f _ _ o h).2 (Rkv.cG f t r)
def Rps.cG(f:∀a o,ok a->H a=some o->ok' a/\H' a=some o)(t:∀a xs,H a=some (.tup xs)->H' a=some (.tup xs)):∀{v:List V}{d:List D},Rps ok H v d->Rps ok' H' v d
 |_,_,.nil=>.nil
 |_,_,.cons h r=>.cons (Rp.cG f t h) (Rps.cG f t r)
def Rkv.cG(f:∀a o,ok a->H a=some o->ok' a/\H' a=some o)(t:∀a xs,H a=some (.tup xs)->H' a=some (.tup xs)):∀{v:List (Key×V)}{d:List (D×D)},Rkv ok H v d->Rkv ok' H' v d
 |_,_,.nil=>.nil
 |_,_,.cons h r=>.cons (Rp.cG f t h) (Rkv.cG f t r)
end
end
structure DEnds where
 nx:List Sl->Prop
 rt:D->Prop
 bk:List Sl->Prop:=λ_=>False
 ct:List Sl->Prop:=λ_=>False
abbrev DS:=DEnds->List Sl->Prop
structure FrS(p:Pn)(own:Addr->Option Nat)(H:Hp)(own':Addr->Option Nat)(H':Hp):Prop where
 keep:∀b o,H b=some o->¬p.fp b->own b=none->H' b=some o/\own' b=none
 tup:∀a xs,H a=some (.tup xs)->H' a=some (.tup xs)
def FrS.trans{p:Pn}{o1 o2 o3:Addr->Option Nat}{H1 H2 H3:Hp}(a:FrS p o1 H1 o2 H2)(b:FrS p o2 H2 o3 H3):FrS p o1 H1 o3 H3:=⟨λc o h n e=>let ⟨x,y⟩:=a.keep c o h n e;b.keep c o x n y,λc xs e=>b.tup c xs (a.tup c xs e)⟩
def FrS.refl{p:Pn}{o1:Addr->Option Nat}{H1:Hp}:FrS p o1 H1 o1 H1:=⟨λ_ _ h _ e=>⟨h,e⟩,λ_ _ e=>e⟩
def At.tups{p:Pn}{H0 H H':Hp}{own:Addr->Option Nat}(A:At p H0 own H H'):∀a xs,H a=some (.tup xs)->H' a=some (.tup xs):=iz (⟨A.k0,Kp.refl,A.penb,A.penb,A.ow⟩:At p H0 own H H) A.kp
structure RPost(p:Pn)(H0 H':Hp)(v:V)(d:D):Prop where
 k0:∀b o,H0 b=some o->¬p.fp b->H' b=some o
 pen:p.PI H'
 rp:Rp (λa=>H0 a=none/\¬p.fp a) H' v d
structure Wish(p:Pn)(H0:Hp)(own:Addr->Option Nat)(H:Hp)(P:DEnds)(Q:Ends):Prop where
 nx:∀own' σ' H' ρ',EnvD p H0 own' σ' H' ρ'->FrS p own H own' H'->P.nx ρ'->Q.nx σ' H'
 rt:∀d v H',P.rt d->RPost p H0 H' v d->Q.rt v H'
 bk:∀own' σ' H' ρ',EnvD p H0 own' σ' H' ρ'->FrS p own H own' H'->P.bk ρ'->Q.bk σ' H'
 ct:∀own' σ' H' ρ',EnvD p H0 own' σ' H' ρ'->FrS p own H own' H'->P.ct ρ'->Q.ct σ' H'
def Wish.go{p:Pn}{H0 H H':Hp}{own own':Addr->Option Nat}{P:DEnds}{Q:Ends}(w:Wish p H0 own H P Q)(f:FrS p own H own' H'):Wish p H0 own' H' P Q :=
 ⟨λo s h r e g n=>w.nx o s h r e (f.trans g) n,w.rt,λo s h r e g n=>w.bk o s h r e (f.trans g) n,λo s h r e g n=>w.ct o s h r e (f.trans g) n⟩
def pW(t:DS):TS:=λQ σ H=>∃p H0 own ρ P,EnvD p H0 own σ H ρ/\t P ρ/\Wish p H0 own H P Q
abbrev PDS(X:Cx)(st:Stmt)(t:DS):Prop:=PS X st (pW t)
abbrev j4(X:Cx)(st:List Stmt)(t:DS):Prop:=PSs X st (pW t)
def PSs.wk'{X:Cx}{ss:List Stmt}{t t':TS}(h:PSs X ss t)(w:∀D σ H,t' D σ H->t D σ H):PSs X ss t':=λpins s σ H D I q=>h pins s σ H D I (w D σ H q)
def PS.wk'{X:Cx}{ss:Stmt}{t t':TS}(h:PS X ss t)(w:∀D σ H,t' D σ H->t D σ H):PS X ss t':=λpins s σ H D I q=>h pins s σ H D I (w D σ H q)
def At.frs{p:Pn}{H0 H H':Hp}{own:Addr->Option Nat}(A:At p H0 own H H'):FrS p own H own H':=⟨λb o h n e=>⟨A.kp b o h n,e⟩,A.tups⟩
section
variable {X:Cx}{pos:Pos}{st:Stmt}{rest:List Stmt}{e:Expr}{te:DE}{t u:DS}
def Gk:DS:=λP ρ=>P.nx ρ
def Gi(t u:DS):DS:=λP ρ=>t { P with nx:=u P } ρ
def lg:j4 X [] Gk:=PSs.wk' mK (by
 rintro Q σ H ⟨p,H0,own,ρ,P,E,t,w⟩
 exact w.nx own σ H ρ E FrS.refl t)
def dD(h1:PDS X st t)(h2:j4 X rest u):j4 X (st::rest) (Gi t u):=PSs.wk' (jB h1 h2) (by
 rintro Q σ H ⟨p,H0,own,ρ,P,E,t,w⟩
 exact⟨p,H0,own,ρ,_,E,t,⟨λo s h r e g n=>⟨p,H0,o,r,P,e,n,w.go g⟩,w.rt,w.bk,w.ct⟩⟩)
def bA(h1:PDS X st t):j4 X [st] t:=cT h1
def jT:PDS X st (λ_ _=>False):=PS.wk' Cy (by
 rintro Q σ H ⟨p,H0,own,ρ,P,E,t,w⟩
 exact t)
def Gj(te:DE):DS:=λP ρ=>te ρ λk d=>k.le .n0=true/\P.rt d
def bM(he:PD X e te):PDS X (.Return (some e) pos) (Gj te):=PS.wk' (jh he) (by
 rintro Q σ H ⟨p,H0,own,ρ,P,E,t,w⟩
 refine⟨p,H0,own,ρ,_,E,t,λk d v H' h A r=>w.rt d v H' h.2 ⟨λb o e n=>A.kp b o (A.k0 b o e n) n,A.pen,?_⟩⟩
 exact jd A h.1 r)
def dIf(c:DT)(t u:DS):DS:=λP ρ=>c ρ λb=>if b=true then t P ρ else u P ρ
def qb{c:Expr}{a b:List Stmt}{tc:DT}(hc:PDT X c tc)(ha:j4 X a t)(hb:j4 X b u):PDS X (.If c a b pos) (dIf tc t u):=PS.wk' (pO hc ha hb) (by
 rintro Q σ H ⟨p,H0,own,ρ,P,E,t,w⟩
 refine⟨p,H0,own,ρ,_,E,t,λb H' h A=>?_⟩
 cases b with
 |true=>exact bf ⟨p,H0,own,ρ,P,E.go A.kp A.pen,by simpa using h,w.go A.frs⟩
 |false=>exact bw ⟨p,H0,own,ρ,P,E.go A.kp A.pen,by simpa using h,w.go A.frs⟩)
def J0(te:DE):DS:=λP ρ=>te ρ λ_ _=>P.nx ρ
def jU(he:PD X e te)(hs:swapsWith e none pos.line X.env=pure false:=by rfl):PDS X (.Expr e pos) (J0 te):=PS.wk' (mL he hs) (by
 rintro Q σ H ⟨p,H0,own,ρ,P,E,t,w⟩
 exact⟨p,H0,own,ρ,_,E,t,λk d v H' h A r=>w.nx own σ H' ρ (E.go A.kp A.pen) A.frs h⟩)
def Sl.region:Sl->Option Nat
 |.dw r _=>some r
 |.rw r _=>some r
 |.tw r _=>some r
 |.sp r _ _=>some r
 |_=>none
def Ft(r:Nat)(ρ:List Sl)(i:Nat):Bool:=(ρ.set i .any).all λs=>s.region != some r
def stK(rg:Option Nat)(ρ:List Sl)(i:Nat)(k:Kd)(d:D):Option Sl:=match k with
 |.imm=>some (.im d)
 |.new=>match rg with
  |some r=>if Ft r ρ i=true then some (.dw r d) else none
  |none=>some (.sn d)
 |.reg r=>some (.dw r d)
 |.snw=>some (.sn d)
 |.shr=>some (.sh d)
 |_=>none
def wW(i:Nat)(rg:Option Nat)(te:DE):DS:=λP ρ=>te ρ λk d=>match stK rg ρ i (norm k d) d with
 |some s=>P.nx (ρ.set i s)
 |none=>False
section
variable {p:Pn}{H0 H H1:Hp}{own:Addr->Option Nat}{σ:L2.St}{ρ:List Sl}{i:Nat}
def EnvD.set{v:V}{s:Sl}(E:EnvD p H0 own σ H ρ)(hs:i<σ.length->gB p H0 own (σ.set i (some v)) H i s):EnvD p H0 own (σ.set i (some v)) H (ρ.set i s):=by
 refine⟨E.k0,E.pen,E.ow,λj s' e=>?_,by simpa using E.len,E.gr⟩
 by_cases hj:j=i
 ·subst hj
  have hl:j<ρ.length:=by
   have:=(Ö.mp e).1
   simpa using this
  rw[ý hl] at e
  cases e
  exact hs (by rw[←E.len];exact hl)
 ·rw[Ğ (ę hj)] at e
  have q:=E.slot j s' e
  have eq:(σ.set i (some v))[j]?=σ[j]?:=Ğ (ę hj)
  cases s' <;> simp only[gB,eq] at q ⊢ <;> exact q
def bT(r:Nat)(H H1:Hp)(own:Addr->Option Nat):Addr->Option Nat:=λa=>match H a,H1 a with
 |none,some _=>some r
 |_,_=>own a
def bF{r:Nat}{a:Addr}{o:HO}(h:H a=some o):bT r H H1 own a=own a:=by unfold bT;rw[h]
def qz{r:Nat}{a:Addr}{o:HO}(h:H a=none)(h1:H1 a=some o):bT r H H1 own a=some r:=by unfold bT;rw[h,h1]
def EnvD.adopt(r:Nat)(E:EnvD p H0 own σ H ρ)(A:At p H0 own H H1):EnvD p H0 (bT r H H1 own) σ H1 ρ:=by
 have tp:=iz E.at A.kp
 refine⟨λb o e n=>A.kp b o (E.k0 b o e n) n,A.pen,λa q e=>?_,λj s e=>?_,E.len,E.gr⟩
 ·cases h:H a with
  |some o =>
   rw[bF h] at e
   obtain⟨x,y,z⟩:=E.ow a q e
   refine⟨x,y,by rw[A.kp a o h y];exact λz=>nomatch z⟩
  |none =>
   cases h1:H1 a with
   |none =>
    have e':own a=some q:=by rw[←e];unfold bT;rw[h,h1]
    exact absurd h (E.ow a q e').2.2
   |some o=>exact⟨E.at.h0 h,E.at.nfb h,λz=>nomatch z⟩
 ·have q:=E.slot j s e
  cases s with
  |any=>trivial
  |im d=>exact let ⟨v,a,b⟩:=q;⟨v,a,b.mono (λ_ o=>o) (λ_ _ o=>o.elim) tp⟩
  |sh d=>exact let ⟨v,a,b⟩:=q;⟨v,a,b.cG (λc o n h=>⟨⟨n.1,by rw[bF h];exact n.2⟩,A.kp c o h n.1⟩) tp⟩
  |sn d=>exact let ⟨v,a,b⟩:=q;⟨v,a,b.cG (λc o n h=>⟨⟨n.1,n.2.1,by rw[bF h];exact n.2.2⟩,A.kp c o h n.2.1⟩) tp⟩
  |dw r' d=>exact let ⟨v,a,b⟩:=q;⟨v,a,b.cG (λc o n h=>⟨by rw[bF h];exact n,A.kp c o h (E.ow c r' n).2.1⟩) tp⟩
  |pen C=>exact q
  |rw r' L=>exact let ⟨st,as,a,b⟩:=q;⟨st,as,a,b.mono (λc o n h=>⟨by rw[bF h];exact n,A.kp c o h (E.ow c r' n).2.1⟩) tp⟩
  |tw r' L=>exact let ⟨st,as,a,b⟩:=q;⟨st,as,a,b.mono (λc o n h=>⟨by rw[bF h];exact n,A.kp c o h (E.ow c r' n).2.1⟩) tp⟩
  |scr v b=>exact q
  |sp r' b ds=>exact let ⟨l,vs,a,o,h,z⟩:=q;⟨l,vs,a,by rw[bF h];exact o,A.kp l _ h (E.ow l r' o).2.1,z.cG (λc u n e=>⟨⟨n.1,n.2.1,by rw[bF e];exact n.2.2⟩,A.kp c u e n.2.1⟩) tp⟩
def vA{r:Nat}{k:Kd}{v:V}{d:D}(h:k.le .new=true)(A:At p H0 own H H1)(x:Rp (okK p H0 own H k) H1 v d):Rp (λa=>bT r H H1 own a=some r) H1 v d :=
 (jd A h x).cG (λa o n e=>⟨qz n e,e⟩) λ_ _ e=>e
def lE{r:Nat}(A:At p H0 own H H1):FrS p own H (bT r H H1 own) H1:=⟨λb o h n e=>⟨A.kp b o h n,by rw[bF h];exact e⟩,A.tups⟩
def EnvD.drop(E:EnvD p H0 own σ H ρ):EnvD p H0 own σ H (ρ.set i .any):=by
 refine⟨E.k0,E.pen,E.ow,λj s' e=>?_,by simpa using E.len,E.gr⟩
 by_cases hj:j=i
 ·subst hj
  have hl:j<ρ.length:=by
   have:=(Ö.mp e).1
   simpa using this
  rw[ý hl] at e
  cases e
  trivial
 ·rw[Ğ (ę hj)] at e
  exact E.slot j s' e
def bK(r:Nat)(own:Addr->Option Nat):Addr->Option Nat:=λa=>if own a=some r then none else own a
def EnvD.clear{r:Nat}(E:EnvD p H0 own σ H ρ)(h:ρ.all (λs=>s.region != some r)=true):EnvD p H0 (bK r own) σ H ρ:=by
 refine⟨E.k0,E.pen,λa q e=>?_,λj s e=>?_,E.len,E.gr⟩
 ·unfold bK at e
  split at e
  ·cases e
  ·exact E.ow a q e
 ·have q:=E.slot j s e
  have z:=List.all_eq_true.mp h s (Ò e)
  have c0:∀a,own a=none->bK r own a=none:=λa n=>by unfold bK;rw[n];simp
  cases s with
  |any=>trivial
  |im d=>exact q
  |sh d=>exact let ⟨v,a,b⟩:=q;⟨v,a,b.mono (λc n=>⟨n.1,c0 c n.2⟩) (λ_ _ _ e=>e) λ_ _ e=>e⟩
  |sn d=>exact let ⟨v,a,b⟩:=q;⟨v,a,b.mono (λc n=>⟨n.1,n.2.1,c0 c n.2.2⟩) (λ_ _ _ e=>e) λ_ _ e=>e⟩
  |dw r' d =>
   have hne:r'≠r:=by simpa[Sl.region] using z
   exact let ⟨v,a,b⟩:=q;⟨v,a,b.mono (λc n=>by unfold bK;rw[n,if_neg (by simpa using hne)]) (λ_ _ _ e=>e) λ_ _ e=>e⟩
  |pen C=>exact q
  |rw r' L =>
   have hne:r'≠r:=by simpa[Sl.region] using z
   exact let ⟨st,as,a,b⟩:=q;⟨st,as,a,b.mono (λc o n e=>⟨by unfold bK;rw[n,if_neg (by simpa using hne)],e⟩) λ_ _ e=>e⟩
  |tw r' L =>
   have hne:r'≠r:=by simpa[Sl.region] using z
   exact let ⟨st,as,a,b⟩:=q;⟨st,as,a,b.mono (λc o n e=>⟨by unfold bK;rw[n,if_neg (by simpa using hne)],e⟩) λ_ _ e=>e⟩
  |scr v b=>exact q
  |sp r' b ds =>
   have hne:r'≠r:=by simpa[Sl.region] using z
   exact let ⟨l,vs,a,o,h,y⟩:=q;⟨l,vs,a,by unfold bK;rw[o,if_neg (by simpa using hne)],h,y.mono (λc n=>⟨n.1,n.2.1,c0 c n.2.2⟩) (λ_ _ _ e=>e) λ_ _ e=>e⟩
def ql{r:Nat}:FrS p own H (bK r own) H:=⟨λb o h n e=>⟨h,by unfold bK;rw[e];simp⟩,λ_ _ e=>e⟩
end
def kZ{i:Nat}(rg:Option Nat)(h:PS X st (tY (cL te) (jf i))):PDS X st (wW i rg te):=PS.wk' h (by
 rintro Q σ H ⟨p,H0,own,ρ,P,E,t,w⟩
 refine⟨p,H0,own,ρ,_,E,t,λk d v H1 h A r=>?_⟩
 have r:=aM r
 generalize norm k d=k' at h r
 show Q.nx (σ.set i (some v)) H1
 have E1:=E.go A.kp A.pen
 have fin:∀s,gB p H0 own (σ.set i (some v)) H1 i s\/¬i<σ.length->P.nx (ρ.set i s)->Q.nx (σ.set i (some v)) H1:=λs hs hn =>
  w.nx own _ H1 _ (E1.set λhl=>hs.elim id λz=>absurd hl z) A.frs hn
 have here:i<σ.length->(σ.set i (some v))[i]?=some (some v):=λhl=>ý hl
 by_cases hl:i<σ.length
 ·cases k' with
  |imm=>exact fin (.im d) (.inl ⟨v,here hl,r⟩) h
  |new =>
   cases rg with
   |none=>exact fin (.sn d) (.inl ⟨v,here hl,jd A (k:=.snw) rfl r⟩) h
   |some q =>
    simp only[stK] at h
    by_cases hf:Ft q ρ i=true
    ·rw[if_pos hf] at h
     have E2:EnvD p H0 (bK q own) σ H (ρ.set i .any):=(E.drop (i:=i)).clear hf
     have A2:At p H0 (bK q own) H H1:=⟨A.k0,A.kp,A.penb,A.pen,E2.ow⟩
     have E3:=E2.adopt q A2
     have r2:Rp (okK p H0 (bK q own) H .new) H1 v d:=r
     have E4:EnvD p H0 (bT q H H1 (bK q own)) (σ.set i (some v)) H1 ((ρ.set i .any).set i (.dw q d)):=E3.set λ_=>⟨v,here hl,vA (k:=.new) rfl A2 r2⟩
     rw[List.set_set] at E4
     exact w.nx _ _ H1 _ E4 (ql.trans (lE A2)) h
    ·rw[if_neg hf] at h
     exact h.elim
  |reg q=>exact fin (.dw q d) (.inl ⟨v,here hl,r⟩) h
  |n0=>exact h.elim
  |snw=>exact fin (.sn d) (.inl ⟨v,here hl,r⟩) h
  |shr=>exact fin (.sh d) (.inl ⟨v,here hl,r⟩) h
  |wk=>exact h.elim
 ·cases hs:stK rg ρ i k' d with
  |none=>rw[hs] at h;exact h.elim
  |some s=>rw[hs] at h;exact fin s (.inr hl) h)
end
variable [Gr]
section
variable {ok ok':Addr->Prop}{H:Hp}
mutual
def Rp.inj:∀{v:V}{d d':D},Rp ok H v d->Rp ok' H v d'->d=d'
 |_,_,_,.non,.non=>rfl
 |_,_,_,.bl b,.bl _=>rfl
 |_,_,_,.int i,.int _=>rfl
 |_,_,_,.str x,.str _=>rfl
 |_,_,_,.lst o h r,.lst o' h' r'=>by
  rw[h] at h';cases h'
  rw[Rps.inj r r']
 |_,_,_,.lst o h r,.tup h' r'=>by rw[h] at h';cases h'
 |_,_,_,.lst o h r,.dct o' h' r'=>by rw[h] at h';cases h'
 |_,_,_,.tup h r,.lst o' h' r'=>by rw[h] at h';cases h'
 |_,_,_,.tup h r,.tup h' r'=>by
  rw[h] at h';cases h'
  rw[Rps.inj r r']
 |_,_,_,.tup h r,.dct o' h' r'=>by rw[h] at h';cases h'
 |_,_,_,.dct o h r,.lst o' h' r'=>by rw[h] at h';cases h'
 |_,_,_,.dct o h r,.tup h' r'=>by rw[h] at h';cases h'
 |_,_,_,.dct o h r,.dct o' h' r'=>by
  rw[h] at h';cases h'
  rw[Rkv.inj r r']
def Rps.inj:∀{v:List V}{d d':List D},Rps ok H v d->Rps ok' H v d'->d=d'
 |_,_,_,.nil,.nil=>rfl
 |_,_,_,.cons h t,.cons h' t'=>by rw[Rp.inj h h',Rps.inj t t']
def Rkv.inj:∀{v:List (Key×V)}{d d':List (D×D)},Rkv ok H v d->Rkv ok' H v d'->d=d'
 |_,_,_,.nil,.nil=>rfl
 |_,_,_,.cons h t,.cons h' t'=>by rw[Rp.inj h h',Rkv.inj t t']
end
variable {l:Addr}{T:D}
mutual
def Rp.avoid(h0:Rp ok' H (.ref l) T):∀{v:V}{d:D},Rp ok H v d->sizeOf d<sizeOf T->Rp (λa=>ok a/\a≠l) H v d
 |_,_,.non,_=>.non
 |_,_,.bl b,_=>.bl b
 |_,_,.int i,_=>.int i
 |_,_,.str x,_=>.str x
 |_,_,.lst (ds:=ds) o h r,s=>.lst ⟨o,λz=>by
   subst z
   have e:=Rp.inj (Rp.lst o h r) h0
   rw[e] at s
   exact absurd s (ó _)⟩ h (Rps.avoid h0 r (by simp only[PyData.list.sizeOf_spec] at s;omega))
 |_,_,.tup (ds:=ds) h r,s=>.tup h (Rps.avoid h0 r (by simp only[PyData.tuple.sizeOf_spec] at s;omega))
 |_,_,.dct (ds:=ds) o h r,s=>.dct ⟨o,λz=>by
   subst z
   have e:=Rp.inj (Rp.dct o h r) h0
   rw[e] at s
   exact absurd s (ó _)⟩ h (Rkv.avoid h0 r (by simp only[PyData.dict.sizeOf_spec] at s;omega))
def Rps.avoid(h0:Rp ok' H (.ref l) T):∀{v:List V}{d:List D},Rps ok H v d->sizeOf d<sizeOf T->Rps (λa=>ok a/\a≠l) H v d
 |_,_,.nil,_=>.nil
 |_,_,.cons h t,s=>.cons (Rp.avoid h0 h (by simp only[ű] at s;omega)) (Rps.avoid h0 t (by simp only[ű] at s;omega))
def Rkv.avoid(h0:Rp ok' H (.ref l) T):∀{v:List (Key×V)}{d:List (D×D)},Rkv ok H v d->sizeOf d<sizeOf T->Rkv (λa=>ok a/\a≠l) H v d
 |_,_,.nil,_=>.nil
 |_,_,.cons h t,s=>.cons (Rp.avoid h0 h (by simp only[ű,Prod.mk.sizeOf_spec] at s;omega)) (Rkv.avoid h0 t (by simp only[ű] at s;omega))
end
end
def forget(r:Nat)(ρ:List Sl):List Sl:=ρ.map λs=>if s.region=some r then .any else s
section
variable {p:Pn}{H0 H H1:Hp}{own:Addr->Option Nat}{σ:L2.St}{ρ:List Sl}{i:Nat}
def EnvD.write{r:Nat}{l:Addr}{u o':HO}(E:EnvD p H0 own σ H ρ)(hl:own l=some r)(ho:H l=some u)(hu:∀xs,u≠.tup xs)(hc:¬Fxd u:=by rintro⟨_,_,z⟩;cases z):EnvD p H0 own σ (upd H l o') (forget r ρ):=by
 have h0:=E.ow l r hl
 have tp:∀a xs,H a=some (.tup xs)->upd H l o' a=some (.tup xs):=λa xs e=>by
  rw[ak];exact e
  intro z;subst z;rw[ho] at e;exact hu xs (ß e)
 refine⟨λb o e n=>?_,p.mono H _ E.pen λb o f e=>?_,λa q e=>?_,λj s e=>?_,by unfold forget;rw[Á];exact E.len,E.gr⟩
 ·rw[ak];exact E.k0 b o e n
  intro z;subst z;rw[h0.1] at e;cases e
 ·rw[ak];exact e
  intro z;subst z;exact f.elim h0.2.1 λc=>hc (by rw[ho] at e;cases e;exact c)
 ·obtain⟨x,y,z⟩:=E.ow a q e
  refine⟨x,y,?_⟩
  by_cases hh:a=l
  ·subst hh;rw[ao];exact λz=>nomatch z
  ·rw[ak hh];exact z
 ·unfold forget at e
  rw[Þ] at e
  cases hr:ρ[j]? with
  |none=>rw[hr] at e;cases e
  |some s0 =>
   rw[hr] at e
   have e:=ß e
   have q:=E.slot j s0 hr
   have ne:∀c,own c≠some r->c≠l:=λc n z=>by subst z;exact n hl
   cases s0 with
   |any=>simp only[Sl.region] at e;subst e;trivial
   |im d =>
    have e:Sl.im d=s:=e
    subst e
    exact let ⟨v,a,b⟩:=q;⟨v,a,b.mono (λ_ o=>o) (λ_ _ o=>o.elim) tp⟩
   |sh d =>
    have e:Sl.sh d=s:=e
    subst e
    exact let ⟨v,a,b⟩:=q;⟨v,a,b.mono (λ_ o=>o) (λc o n e=>by rw[ak (ne c (by rw[n.2];exact λz=>nomatch z))];exact e) tp⟩
   |sn d =>
    have e:Sl.sn d=s:=e
    subst e
    exact let ⟨v,a,b⟩:=q;⟨v,a,b.mono (λ_ o=>o) (λc o n e=>by rw[ak (ne c (by rw[n.2.2];exact λz=>nomatch z))];exact e) tp⟩
   |dw r' d =>
    by_cases hrr:r'=r
    ·subst hrr
     have e:(if (some r':Option Nat)=some r' then Sl.any else Sl.dw r' d)=s:=e
     rw[if_pos rfl] at e
     subst e
     trivial
    ·have e:(if (some r':Option Nat)=some r then Sl.any else Sl.dw r' d)=s:=e
     rw[if_neg (by simpa using hrr)] at e
     subst e
     exact let ⟨v,a,b⟩:=q;⟨v,a,b.mono (λ_ o=>o) (λc o n e=>by rw[ak (ne c (by rw[n];simpa using hrr))];exact e) tp⟩
   |pen C =>
    have e:Sl.pen C=s:=e
    subst e
    exact q
   |scr v b =>
    have e:Sl.scr v b=s:=e
    subst e
    exact q
   |sp r' b ds =>
    by_cases hrr:r'=r
    ·subst hrr
     have e:(if (some r':Option Nat)=some r' then Sl.any else Sl.sp r' b ds)=s:=e
     rw[if_pos rfl] at e
     subst e
     trivial
    ·have e:(if (some r':Option Nat)=some r then Sl.any else Sl.sp r' b ds)=s:=e
     rw[if_neg (by simpa using hrr)] at e
     subst e
     exact let ⟨l',vs,a,o,h,y⟩:=q;⟨l',vs,a,o,by rw[ak (ne l' (by rw[o];simpa using hrr))];exact h,y.mono (λ_ o=>o) (λc o n e=>by rw[ak (ne c (by rw[n.2.2];exact λz=>nomatch z))];exact e) tp⟩
   |rw r' L =>
    by_cases hrr:r'=r
    ·subst hrr
     have e:(if (some r':Option Nat)=some r' then Sl.any else Sl.rw r' L)=s:=e
     rw[if_pos rfl] at e
     subst e
     trivial
    ·have e:(if (some r':Option Nat)=some r then Sl.any else Sl.rw r' L)=s:=e
     rw[if_neg (by simpa using hrr)] at e
     subst e
     exact let ⟨st,as,a,b⟩:=q;⟨st,as,a,b.mono (λc o n e=>⟨n,by rw[ak (ne c (by rw[n];simpa using hrr))];exact e⟩) tp⟩
   |tw r' L =>
    by_cases hrr:r'=r
    ·subst hrr
     have e:(if (some r':Option Nat)=some r' then Sl.any else Sl.tw r' L)=s:=e
     rw[if_pos rfl] at e
     subst e
     trivial
    ·have e:(if (some r':Option Nat)=some r then Sl.any else Sl.tw r' L)=s:=e
     rw[if_neg (by simpa using hrr)] at e
     subst e
     exact let ⟨st,as,a,b⟩:=q;⟨st,as,a,b.mono (λc o n e=>⟨n,by rw[ak (ne c (by rw[n];simpa using hrr))];exact e⟩) tp⟩
def zm{r:Nat}{l:Addr}{u o':HO}(hl:own l=some r)(ho:H l=some u)(hu:∀xs,u≠.tup xs):FrS p own H own (upd H l o'):=by
 refine⟨λb o h n e=>⟨?_,e⟩,λa xs e=>?_⟩
 ·rw[ak];exact h
  intro z;subst z;rw[hl] at e;cases e
 ·rw[ak];exact e
  intro z;subst z;rw[ho] at e;exact hu xs (ß e)
def EnvD.put{v:V}{s:Sl}(E:EnvD p H0 own σ H ρ)(hs:gB p H0 own σ H i s):EnvD p H0 own σ H (ρ.set i s):=by
 refine⟨E.k0,E.pen,E.ow,λj s' e=>?_,by simpa using E.len,E.gr⟩
 by_cases hj:j=i
 ·subst hj
  have hl:j<ρ.length:=by
   have:=(Ö.mp e).1
   simpa using this
  rw[ý hl] at e
  cases e
  exact hs
 ·rw[Ğ (ę hj)] at e
  exact E.slot j s' e
def EnvD.vP{r:Nat}{l:Addr}{vs vs':List V}{ds ds':List D}(E:EnvD p H0 own σ H ρ)(A:At p H0 own H H1)(hv:σ[i]?=some (some (.ref l)))(hl:own l=some r)(ho:H l=some (.lst vs))(rs:Rps (λa=>own a=some r) H vs ds)(hs:∀H2,(∀{w:V}{d:D},Rp (λa=>own a=some r) H w d->sizeOf d<sizeOf (ñ ds)->Rp (λa=>bT r H H1 own a=some r) H2 w d)->(∀{w:V}{d:D},Rp (okK p H0 own H .new) H1 w d->Rp (λa=>bT r H H1 own a=some r) H2 w d)->Rps (λa=>bT r H H1 own a=some r) H2 vs' ds') :
  EnvD p H0 (bT r H H1 own) σ (upd H1 l (.lst vs')) ((forget r ρ).set i (.dw r (.list ds')))/\FrS p own H (bT r H H1 own) (upd H1 l (.lst vs')):=by
 have h1:H1 l=some (.lst vs):=A.kp l _ ho (E.ow l r hl).2.1
 have hl':bT r H H1 own l=some r:=by rw[bF ho];exact hl
 have E1:=(E.adopt r A).write (o':=.lst vs') hl' h1 (λxs z=>nomatch z)
 have tp:∀a xs,H1 a=some (.tup xs)->upd H1 l (.lst vs') a=some (.tup xs):=λa xs e=>by
  rw[ak];exact e
  intro z;subst z;rw[h1] at e;cases e
 refine⟨E1.put (v:=.ref l) ⟨.ref l,hv,.lst hl' ao (hs _ ?_ ?_)⟩,(lE A).trans (zm hl' h1 λxs z=>nomatch z)⟩
 ·intro w d x sz
  have x1:=Rp.avoid (Rp.lst (ok:=λa=>own a=some r) hl ho rs) x sz
  exact x1.cG (λa o n e=>⟨by rw[bF e];exact n.1,by rw[ak n.2];exact A.kp a o e (E.ow a r n.1).2.1⟩) λa xs e=>tp a xs (iz E.at A.kp a xs e)
 ·intro w d x
  exact x.cG (λa o n e=>⟨qz n e,by rw[ak (λz=>by subst z;rw[ho] at n;cases n)];exact e⟩) tp
end
section
variable {X:Cx}{pos:Pos}{st:Stmt}{e:Expr}{te:DE}{i:Nat}{ta:DA}
def j6{d:D}{ds:List D}(h:d∈ds):sizeOf d<sizeOf (ñ ds):=by
 have:=List.sizeOf_lt_of_mem h
 simp only[PyData.list.sizeOf_spec]
 omega
def mJ{ok ok':Addr->Prop}{H H2:Hp}{T:D}(f:∀{w:V}{d:D},Rp ok H w d->sizeOf d<sizeOf T->Rp ok' H2 w d):∀{vs:List V}{ds:List D},Rps ok H vs ds->(∀d∈ds,sizeOf d<sizeOf T)->Rps ok' H2 vs ds
 |_,_,.nil,_=>.nil
 |_,_,.cons h t,s=>.cons (f h (s _ Ú)) (mJ f t λd hd=>s d (Õ _ hd))
def wY(i:Nat)(te:DE):DS:=λP ρ=>match ρ[i]? with
 |some (.dw r (.list ds))=>te ρ λk d=>(norm k d).le .new=true/\ds.length<1000/\P.nx ((forget r ρ).set i (.dw r (.list (ds++[d]))))
 |_=>False
def fO(h:PS X st (xK (tBM X.K "list" qM (vJ i) (uQ (iI te tu))))):PDS X st (wY i te):=PS.wk' h (by
 rintro Q σ H ⟨p,H0,own,ρ,P,E,t,w⟩
 unfold wY at t
 split at t
 ·rename_i r ds hr
  obtain⟨v,hv,x⟩:=E.slot i _ hr
  obtain⟨l,vs,rfl,hl,ho,rs⟩:=x.cJ
  refine⟨.ref l,hv,.inl ⟨rfl,vs,SqL.of ho⟩,p,H0,own,ρ,λks=>∃k d,ks=[(k,d)]/\(norm k d).le .new=true/\ds.length<1000/\P.nx ((forget r ρ).set i (.dw r (.list (ds++[d])))),E,?_,?_⟩
  ·show te ρ λk d=>∃k' d',[(k,d)]=[(k',d')]/\_
   have e:(λk d=>∃k' d',[((k,d):Kd×D)]=[(k',d')]/\(norm k' d').le .new=true/\ds.length<1000/\P.nx ((forget r ρ).set i (.dw r (.list (ds++[d'])))))=λk d=>(norm k d).le .new=true/\ds.length<1000/\P.nx ((forget r ρ).set i (.dw r (.list (ds++[d])))):=by
    funext k d
    apply propext
    constructor
    ·rintro⟨k',d',e,h⟩
     cases e
     exact h
    ·exact λh=>⟨k,d,rfl,h⟩
   rw[e]
   exact t
  ·rintro ks ws H1 ⟨k,d,rfl,hk,hlen,hn⟩ A rk
   obtain⟨y,rfl,ry⟩:=eY rk
   have ry:=jd A hk (aM ry)
   have h1:H1 l=some (.lst vs):=A.kp l _ ho (E.ow l r hl).2.1
   have h24:=ì
   have hln:=rs.length
   refine⟨l,vs,y,rfl,rfl,h1,by omega,?_⟩
   obtain⟨E2,F2⟩:=E.vP (vs':=vs++[y]) (ds':=ds++[d]) A hv hl ho rs λH2 f g=>(mJ f rs λd hd=>j6 hd).snoc (g ry)
   exact w.nx _ σ _ _ E2 F2 hn
 ·exact t.elim)
end
variable [Gr]
abbrev DG:=Kd->D->List Sl->(List Sl->Prop)->Prop
abbrev DGs:=Kd->List D->List Sl->(List Sl->Prop)->Prop
def Jq(k:Kd)(d:D):Sl:=match k with
 |.imm=>.im d
 |.new=>.sn d
 |.reg r=>.dw r d
 |.snw=>.sn d
 |.shr=>.sh d
 |_=>.any
def okB(p:Pn)(H0:Hp)(own:Addr->Option Nat):Kd->Addr->Prop
 |.imm=>λ_=>False
 |.new=>λa=>H0 a=none/\¬p.fp a/\own a=none
 |.reg r=>λa=>own a=some r
 |.snw=>λa=>H0 a=none/\¬p.fp a/\own a=none
 |.shr=>λa=>¬p.fp a/\own a=none
 |.n0=>λ_=>True
 |.wk=>λ_=>True
def Et(g:DG):TG:=λv σ H Q=>∃p H0 own ρ k d P,EnvD p H0 own σ H ρ/\Rp (okB p H0 own k) H v d/\g k d ρ P/\∀σ' ρ',EnvD p H0 own σ' H ρ'->P ρ'->Q σ' H
def oM(g:DGs):TGs:=λvs σ H Q=>∃p H0 own ρ k ds P,EnvD p H0 own σ H ρ/\Rps (okB p H0 own k) H vs ds/\g k ds ρ P/\∀σ' ρ',EnvD p H0 own σ' H ρ'->P ρ'->Q σ' H
abbrev PDG(X:Cx)(e:Expr)(g:DG):Prop:=PG X e (Et g)
def PG.wk{X:Cx}{e:Expr}{t t':TG}(h:PG X e t)(w:∀v σ H Q,t' v σ H Q->t v σ H Q):PG X e t':=λpins s σ H v u Q I r q=>h pins s σ H v u Q I r (w v σ H Q q)
def PGs.wk{X:Cx}{e:List Expr}{t t':TGs}(h:PGs X e t)(w:∀v σ H Q,t' v σ H Q->t v σ H Q):PGs X e t':=λpins s σ H v u Q I r q=>h pins s σ H v u Q I r (w v σ H Q q)
def fB{p:Pn}{H0 H:Hp}{own:Addr->Option Nat}{k:Kd}{v:V}{d:D}(r:Rp (okB p H0 own k) H v d):Rp (okB p H0 own (norm k d)) H v d:=by
 by_cases h:cQ d=true
 ·rw[cF h];exact r.imm h
 ·rw[bU h];exact r
section
variable {X:Cx}{pos:Pos}{e:Expr}{es:List Expr}
def gNm(i:Nat):DG:=λk d ρ P=>P (ρ.set i (Jq (norm k d) d))
def BP{p:Pn}{H0 H:Hp}{own:Addr->Option Nat}{σ:L2.St}{i:Nat}{k:Kd}{v:V}{d:D}(r:Rp (okB p H0 own k) H v d)(h:σ[i]?=some (some v)):gB p H0 own σ H i (Jq k d):=by
 cases k with
 |imm=>exact⟨v,h,r⟩
 |new=>exact⟨v,h,r⟩
 |reg q=>exact⟨v,h,r⟩
 |n0=>trivial
 |snw=>exact⟨v,h,r⟩
 |shr=>exact⟨v,h,r⟩
 |wk=>trivial
def dF{i:Nat}{x:Str}(h:PG X (.Name x pos) (jf i)):PDG X (.Name x pos) (gNm i):=PG.wk h (by
 rintro v σ H Q ⟨p,H0,own,ρ,k,d,P,E,r,t,q⟩
 exact q _ _ (E.set λhl=>BP (fB r) (ý hl)) t)
def JT:DGs:=λ_ ds ρ P=>match ds with
 |[]=>P ρ
 |_=>False
def Fi(g:DG)(gs:DGs):DGs:=λk ds ρ P=>match ds with
 |d::r=>g (norm k d) d ρ λρ'=>gs k r ρ' P
 |[]=>False
def jW:PGs X [] (oM JT):=PGs.wk Hi (by
 rintro v σ H Q ⟨p,H0,own,ρ,k,ds,P,E,r,t,q⟩
 cases ds with
 |nil=>cases r;exact⟨rfl,q _ _ E t⟩
 |cons d ds=>exact t.elim)
def oW{g:DG}{gs:DGs}(h1:PDG X e g)(h2:PGs X es (oM gs))(hs:(assignEach (e::es) X.env).map (·.2)=assign e X.env::(assignEach es X.env).map (·.2):=by rfl):PGs X (e::es) (oM (Fi g gs)):=PGs.wk (CP h1 h2 hs) (by
 rintro v σ H Q ⟨p,H0,own,ρ,k,ds,P,E,r,t,q⟩
 cases r with
 |nil=>exact t.elim
 |cons r rs =>
  exact⟨_,_,rfl,p,H0,own,ρ,_,_,_,E,fB r,t,λσ' ρ' E' t'=>⟨p,H0,own,ρ',k,_,P,E',rs,t',q⟩⟩)
def gTp(n:Nat)(gs:DGs):DG:=λk d ρ P=>match d with
 |.tuple ds=>ds.length=n/\gs k ds ρ P
 |_=>False
def oX{gs:DGs}{k n:Nat}(hc:X.calm=true)(h:PGs X es (oM gs))(hn:(assignEach es X.env).length=n:=by rfl)(hst:(assignEach es X.env).findIdx? (·.1)=none:=by rfl):PDG X (.Tuple es k pos) (gTp n gs):=PG.wk (Kz hc h hn hst) (by
 rintro v σ H Q ⟨p,H0,own,ρ,k,d,P,E,r,t,q⟩
 cases d with
 |tuple ds =>
  obtain⟨a,vs,rfl,ha,rs⟩:=r.fW
  exact⟨a,vs,rfl,SqT.of ha,by rw[rs.length];exact t.1,p,H0,own,ρ,k,ds,P,E,rs,t.2,q⟩
 |_=>exact t.elim)
end
structure Wlk(Ok:Hp->Prop)(J:It)(ds:List D)(ok:Addr->Prop):Prop where
 go:∀i H,Ok H->i<ds.length->J.go i H
 stop:∀H,Ok H->J.stop ds.length H
 yld:∀i H x H',Ok H->J.yld i H x H'->Same H H'/\∀d,ds[i]?=some d->Rp ok H' x d
 stab:∀H H',Ok H->(∀b o,ok b->H b=some o->H' b=some o)->(∀a xs,H a=some (.tup xs)->H' a=some (.tup xs))->Ok H'
abbrev DI:=List Sl->(Kd->List D->Prop)->Prop
def okA(p:Pn)(H0:Hp)(own:Addr->Option Nat)(Hb:Hp)(k:Kd)(H:Hp)(a:Addr):Prop:=okK p H0 own Hb k a/\∃o,H a=some o
def JM(t:DI):TI:=λσ H R=>∃p H0 own ρ P,EnvD p H0 own σ H ρ/\t ρ P/\∀k ds J H1 Ok,P k ds->At p H0 own H H1->Wlk Ok J ds (okA p H0 own H k H1)->Ok H1->R J H1
abbrev PDI(X:Cx)(tg e:Expr)(t:DI):Prop:=PI X tg e (JM t)
def PI.wk{X:Cx}{tg e:Expr}{t t':TI}(h:PI X tg e t)(w:∀σ H R,t' σ H R->t σ H R):PI X tg e t':=λpins s σ H R I q=>h pins s σ H R I (w σ H R q)
section
variable {X:Cx}{tg l:Expr}{tl:DE}{pos:Pos}{ta:DA}
def Br{K:Ø}{ok:Addr->Prop}{a:Addr}{ds:List D}:Wlk (λH=>Rp ok H (.ref a) (.list ds)) (Itl K a) ds ok where
 go:=λi H r hi=>by
  obtain⟨b,vs,e,o,h,rs⟩:=r.cJ
  cases e
  have:i<vs.length:=by rw[rs.length];exact hi
  exact⟨vs,vs[i],SqL.of h,by simp[this]⟩
 stop:=λH r=>by
  obtain⟨b,vs,e,o,h,rs⟩:=r.cJ
  cases e
  exact⟨vs,SqL.of h,by rw[rs.length];exact Å _⟩
 yld:=λi H x H' r y=>by
  obtain⟨rfl,y⟩:=y
  obtain⟨b,vs,e,o,h,rs⟩:=r.cJ
  cases e
  refine⟨Same.refl _,λd hd=>?_⟩
  obtain⟨v,hv,rv⟩:=rs.getD hd
  have:=y vs (SqL.of h)
  rw[hv] at this
  cases this
  exact rv
 stab:=λH H' r f t=>r.cG (λa o n e=>⟨n,f a o n e⟩) t
def Bp{K:Ø}{ok:Addr->Prop}{a:Addr}{ds:List D}:Wlk (λH=>Rp ok H (.ref a) (.tuple ds)) (Itt K a) ds ok where
 go:=λi H r hi=>by
  obtain⟨b,vs,e,h,rs⟩:=r.fW
  cases e
  have:i<vs.length:=by rw[rs.length];exact hi
  exact⟨vs,vs[i],SqT.of h,by simp[this]⟩
 stop:=λH r=>by
  obtain⟨b,vs,e,h,rs⟩:=r.fW
  cases e
  exact⟨vs,SqT.of h,by rw[rs.length];exact Å _⟩
 yld:=λi H x H' r y=>by
  obtain⟨rfl,y⟩:=y
  obtain⟨b,vs,e,h,rs⟩:=r.fW
  cases e
  refine⟨Same.refl _,λd hd=>?_⟩
  obtain⟨v,hv,rv⟩:=rs.getD hd
  have:=y vs (SqT.of h)
  rw[hv] at this
  cases this
  exact rv
 stab:=λH H' r f t=>r.cG (λa o n e=>⟨n,f a o n e⟩) t
def nj{ok:Addr->Prop}{lo:Int}{n:Nat}:Wlk (λ_=>True) (Itr lo n) ((ä n).map λi=>Í (lo+((i:Nat):Int))) ok where
 go:=λi H r hi=>by
  have h:i<n:=by simpa using hi
  exact h
 stop:=λH r=>by show n<=_;simp
 yld:=λi H x H' r y=>by
  obtain⟨rfl,rfl⟩:=y
  refine⟨Same.refl _,λd hd=>?_⟩
  rw[Þ] at hd
  cases h:(ä n)[i]? with
  |none=>rw[h] at hd;cases hd
  |some j =>
   rw[h] at hd
   have e:=ß hd
   have hj:j=i:=by
    have:=Ö.mp h
    obtain⟨h1,h2⟩:=this
    simpa using h2.symm
   subst e hj
   exact .int _
 stab:=λ_ _ _ _ _=>trivial
def rpA{p:Pn}{H0 Hb H:Hp}{own:Addr->Option Nat}{k:Kd}{v:V}{d:D}(r:Rp (okK p H0 own Hb k) H v d):Rp (okA p H0 own Hb k H) H v d:=r.cG (λa o n e=>⟨⟨n,o,e⟩,e⟩) λ_ _ e=>e
def iSq(tl:DE):DI:=λρ P=>tl ρ λk d=>match d with
 |.list ds=>P k ds
 |.tuple ds=>P k ds
 |_=>False
def iC(hl:PD X l tl):PDI X tg l (iSq tl):=PI.wk (Ky hl) (by
 rintro σ H R ⟨p,H0,own,ρ,P,E,t,q⟩
 refine⟨p,H0,own,ρ,_,E,t,λk d v H1 h A r=>?_⟩
 cases d with
 |list ds =>
  obtain⟨a,vs,rfl,o,ha,rs⟩:=r.cJ
  exact⟨a,rfl,.inl ⟨⟨vs,SqL.of ha⟩,q k ds _ H1 _ h A Br (rpA r)⟩⟩
 |tuple ds =>
  obtain⟨a,vs,rfl,ha,rs⟩:=r.fW
  exact⟨a,rfl,.inr ⟨⟨vs,SqT.of ha⟩,q k ds _ H1 _ h A Bp (rpA r)⟩⟩
 |_=>exact h.elim)
def cV(lo:Int)(n:Nat):List D:=(ä n).map λi=>Í (lo+((i:Nat):Int))
def iR1(ta:DA):DI:=λρ P=>ta ρ λks=>match ks with
 |[(_,.int j)]=>(-(2 ^ 62)<=j/\j<2 ^ 62)/\P .imm (cV 0 j.toNat)
 |_=>False
def fQ{a:Expr}{ps:Pos}(hm:X.mg "range"=none)(ha:PDA X [a] ta)(hg:Gl X "range":=by rfl)(hs:starEach [a] X.env=[(false,eval a X.env)]:=by rfl):PDI X tg (.Call (.Name "range" ps) [a] [] pos) (iR1 ta):=PI.wk (kE hg hm ha hs) (by
 rintro σ H R ⟨p,H0,own,ρ,P,E,t,q⟩
 refine⟨p,H0,own,ρ,_,E,t,λks vs H1 h A r=>?_⟩
 split at h
 ·rename_i k j
  obtain⟨v,rfl,r'⟩:=eY r
  exact⟨j,by rw[r'.int'],h.1.1,h.1.2,q _ _ _ H1 _ h.2 A nj trivial⟩
 ·exact h.elim)
def iR2(ta:DA):DI:=λρ P=>ta ρ λks=>match ks with
 |[(_,.int i),(_,.int j)]=>(-(2 ^ 62)<=i/\i<2 ^ 62/\-(2 ^ 62)<=j/\j<2 ^ 62)/\P .imm (cV i (j - i).toNat)
 |_=>False
def lB{a b:Expr}{ps:Pos}(hm:X.mg "range"=none)(ha:PDA X [a,b] ta)(hg:Gl X "range":=by rfl)(hs:starEach [a,b] X.env=[(false,eval a X.env),(false,eval b X.env)]:=by rfl)(hs2:starEach [b] X.env=[(false,eval b X.env)]:=by rfl):PDI X tg (.Call (.Name "range" ps) [a,b] [] pos) (iR2 ta):=PI.wk (zR hg hm ha hs hs2) (by
 rintro σ H R ⟨p,H0,own,ρ,P,E,t,q⟩
 refine⟨p,H0,own,ρ,_,E,t,λks vs H1 h A r=>?_⟩
 split at h
 ·rename_i k i k' j
  obtain⟨v,w,rfl,r',r2⟩:=Ks r
  exact⟨i,j,by rw[r'.int',r2.int'],h.1,q _ _ _ H1 _ h.2 A nj trivial⟩
 ·exact h.elim)
end
variable [Gr]
def elK:Kd->Kd
 |.new=>.snw
 |k=>k
section
variable {X:Cx}{tg iter:Expr}{pos:Pos}{body:List Stmt}{ti:DI}{g:DG}{tb:DS}
def Jj(ti:DI)(g:DG)(tb:DS):DS:=λP ρ=>ti ρ λk ds=>k.le .shr=true/\∃Iv:Nat->List Sl->Prop,Iv 0 ρ /\
 (∀i d ρ',ds[i]?=some d->Iv i ρ'->g (norm (elK k) d) d ρ' λρ2=>tb { nx:=Iv (i+1),ct:=Iv (i+1),bk:=P.nx,rt:=P.rt } ρ2)/\∀ρ',Iv ds.length ρ'->P.nx ρ'
def JG{p:Pn}{H0 Hb H1 H':Hp}{own own':Addr->Option Nat}{k:Kd}(hk:k.le .shr=true)(A:At p H0 own Hb H1)(F:FrS p own H1 own' H'){v:V}{d:D}{H2:Hp}(r:Rp (okA p H0 own Hb k H1) H2 v d):Rp (okB p H0 own' (elK k)) H2 v d:=by
 refine r.mono (λa n=>?_) (λ_ _ _ e=>e) λ_ _ e=>e
 obtain⟨o,u,hu⟩:=n
 have o2:¬p.fp a/\own a=none:=aX A (k:=.shr) hk o
 have f:=(F.keep a u hu o2.1 o2.2).2
 cases k with
 |imm=>exact o
 |new=>exact⟨A.h0 o,o2.1,f⟩
 |reg q=>cases hk
 |n0=>cases hk
 |snw=>exact⟨o.1,o2.1,f⟩
 |shr=>exact⟨o2.1,f⟩
 |wk=>cases hk
def lA(hp:PassesOwn (model X.prog X.w) X.A X.env X.xe)(hc:X.calm=true)(hi:PDI X tg iter ti)(hg:PDG X tg g)(hb:j4 X body tb)(hs:zF X iter:=by intro _;rfl):PDS X (.For tg iter body [] pos) (Jj ti g tb):=PS.wk' (Cz hp hc hi hg hb hs) (by
 rintro Q σ H ⟨p,H0,own,ρ,P,E,t,w⟩
 refine⟨p,H0,own,ρ,_,E,t,λk ds J H1 Ok h A W o1=>?_⟩
 obtain⟨hk,Iv,i0,step,done⟩:=h
 have w1:=w.go A.frs
 have okS:∀own' H',FrS p own H1 own' H'->Ok H':=λown' H' F=>W.stab H1 H' o1 (λb o n e=>by
  have o2:¬p.fp b/\own b=none:=aX A (k:=.shr) hk n.1
  exact(F.keep b o e o2.1 o2.2).1) F.tup
 refine⟨λi m σ' H'=>m=ds.length - i/\i<=ds.length/\∃own' ρ',EnvD p H0 own' σ' H' ρ'/\FrS p own H1 own' H'/\Iv i ρ',⟨_,rfl,û _,own,ρ,E.go A.kp A.pen,FrS.refl,i0⟩,?_⟩
 rintro i m σ' H' ⟨rfl,hi,own',ρ',E',F',iv⟩
 have oH:=okS own' H' F'
 by_cases hlt:i<ds.length
 ·refine .inr ⟨W.go i H' oH hlt,λσ2 H2=>∃own' ρ',EnvD p H0 own' σ2 H2 ρ'/\FrS p own H1 own' H2/\Iv (i+1) ρ',λσ2 H2 h=>⟨_,by omega,rfl,hlt,h⟩,λx H2 y=>?_⟩
  obtain⟨sm,rx⟩:=W.yld i H' x H2 oH y
  have rx:=rx ds[i] (Ä hlt)
  have E2:EnvD p H0 own' σ' H2 ρ':=E'.go (Kp.of sm) (p.mono H' H2 E'.pen λb o _ e=>sm b o e)
  have F2:FrS p own H1 own' H2:=⟨λb o e n z=>let ⟨x,y⟩:=F'.keep b o e n z;⟨sm b o x,y⟩,λa xs e=>sm a _ (F'.tup a xs e)⟩
  refine⟨p,H0,own',ρ',_,_,_,E2,fB (JG hk A F2 rx),step i ds[i] ρ' (Ä hlt) iv,λσ3 ρ3 E3 t3=>?_⟩
  have nxt:∀own4 σ4 H4 ρ4,EnvD p H0 own4 σ4 H4 ρ4->FrS p own' H2 own4 H4->Iv (i+1) ρ4->∃own' ρ',EnvD p H0 own' σ4 H4 ρ'/\FrS p own H1 own' H4/\Iv (i+1) ρ':=λown4 σ4 H4 ρ4 E4 F4 v4=>⟨own4,ρ4,E4,F2.trans F4,v4⟩
  exact⟨p,H0,own',ρ3,_,E3,t3,⟨nxt,w.rt,λo s h r e f n=>w1.nx o s h r e (F2.trans f) n,nxt⟩⟩
 ·have e:i=ds.length:=by omega
  subst e
  exact .inl ⟨W.stop H' oH,w1.nx own' σ' H' ρ' E' F' (done ρ' iv)⟩)
end
def EnvD.comp{p:Pn}{H0 H:Hp}{own:Addr->Option Nat}{σ:L2.St}{ρ:List Sl}(n:Nat)(E:EnvD p H0 own σ H ρ):EnvD p H0 own (Ï n none++σ) H (Ï n .any++ρ):=by
 refine⟨E.k0,E.pen,E.ow,λj s e=>?_,by simp[E.len],E.gr⟩
 by_cases hj:j<n
 ·rw[é (by simpa using hj)] at e
  have:s=.any:=by
   rw[Į] at e
   rw[if_pos hj] at e
   exact(ß e).symm
  subst this
  trivial
 ·have e1:(Ï n Sl.any++ρ)[j]?=ρ[j - n]?:=by rw[ç (by simpa using hj)];simp
  have e2:(Ï n (none:Option V)++σ)[j]?=σ[j - n]?:=by rw[ç (by simpa using hj)];simp
  rw[e1] at e
  have q:=E.slot _ s e
  cases s <;> simp only[gB,e2] at q ⊢ <;> exact q
abbrev Gz(X:Cx)(es:List Expr)(t:DT):Prop:=PTs X es (liftT t)
def bW{X:Cx}:Gz X [] (λ_ P=>P true):=λpins s σ H Q I h=>by
 obtain⟨p,H0,own,ρ,P,E,t,q⟩:=h
 exact yd pins s σ H Q I (q true H t E.at)
def iZ{X:Cx}{c:Expr}{t:DT}(hc:PDT X c t):Gz X [c] t:=yc hc
def elC(k:Kd):Kd:=elK k
def dLC(n:Nat)(ti:DI)(g:DG)(tt:DT)(te:DE):DE:=λρ P=>ti ρ λk ds=>ds.length<=1000/\∃(ke:Kd) (Iv:Nat->List D->Prop),Iv 0 [] /\
 (∀i d ys,ds[i]?=some d->Iv i ys->g (norm (elC k) d) d (Ï n .any++ρ) λρ'=>tt ρ' λb=>if b=true then te ρ' λk' d'=>(norm k' d').le ke=true/\Iv (i+1) (ys++[d']) else Iv (i+1) ys) /\
 ∀ys,Iv ds.length ys->P (ke.join .new) (.list ys)
def JF{p:Pn}{H0 Hb H1:Hp}{own:Addr->Option Nat}{k:Kd}(A:At p H0 own Hb H1){v:V}{d:D}{H2:Hp}(r:Rp (okA p H0 own Hb k H1) H2 v d):Rp (okB p H0 own (elC k)) H2 v d:=by
 refine r.mono (λa n=>?_) (λ_ _ _ e=>e) λ_ _ e=>e
 obtain⟨o,u,hu⟩:=n
 cases k with
 |imm=>exact o
 |new=>exact⟨A.h0 o,A.nfb o,A.K7 o⟩
 |reg q=>exact o
 |n0=>trivial
 |snw=>exact o
 |shr=>exact o
 |wk=>trivial
section
variable {X:Cx}{own:List Str}{scope:Scope}{tg iter elt:Expr}{ifs:List Expr}{pos:Pos}{ti:DI}{g:DG}{tt:DT}{te:DE}
def mU{n:Nat}:∀σ H Q,cL (dLC n ti g tt te) σ H Q->tLC n (JM ti) (λ_=>Et g) (λ_=>liftT tt) (λ_=>cL te) σ H Q:=by
 rintro σ H Q ⟨p,H0,own,ρ,P,E,t,q⟩
 refine⟨p,H0,own,ρ,_,E,t,λk ds J H1 Ok h A W o1=>?_⟩
 obtain⟨hlen,ke,Iv,i0,step,done⟩:=h
 have okS:∀H',Kp p H1 H'->p.PI H'->Ok H':=λH' K i=>W.stab H1 H' o1 (λb o n e=>K b o e (iW A n.1)) (iz A K)
 refine⟨λi m ys H'=>m=ds.length - i/\i<=ds.length/\Kp p H1 H'/\p.PI H'/\∃es,Rps (okK p H0 own H ke) H' ys es/\es.length<=i/\Iv i es,⟨_,rfl,û _,Kp.refl,A.pen,[],.nil,Å _,i0⟩,?_⟩
 rintro c i m ys H' ⟨rfl,hi,K',I',es,rs,hl,iv⟩
 have oH:=okS H' K' I'
 have A':=A.go K' I'
 have h24:=ì
 by_cases hlt:i<ds.length
 ·refine .inr ⟨W.go i H' oH hlt,by have:=rs.length;omega,λys' H2=>Kp p H1 H2/\p.PI H2/\∃es,Rps (okK p H0 own H ke) H2 ys' es/\es.length<=i+1/\Iv (i+1) es,λys' H2 h=>⟨_,by omega,rfl,hlt,h⟩,λx H2 y=>?_⟩
  obtain⟨sm,rx⟩:=W.yld i H' x H2 oH y
  have rx:=rx ds[i] (Ä hlt)
  have I2:p.PI H2:=p.mono H' H2 I' λb o _ e=>sm b o e
  have K2:Kp p H1 H2:=K'.trans (Kp.of sm)
  have A2:=A.go K2 I2
  have E2:EnvD p H0 own σ H2 ρ:=E.go A2.kp A2.pen
  have rs2:=aR A' (Kp.of sm) rs
  refine⟨p,H0,own,_,_,_,_,E2.comp n,fB (JF A rx),step i ds[i] es (Ä hlt) iv,λσ3 ρ3 E3 t3=>?_⟩
  refine⟨p,H0,own,ρ3,_,E3,t3,λb H4 h4 A4=>?_⟩
  have A5:At p H0 own H H4:=A2.base A4
  have rs4:=aR A2 A4.kp rs2
  cases b with
  |true =>
   refine bf ⟨p,H0,own,ρ3,_,E3.go A4.kp A4.pen,by simpa using h4,λk' d' v H6 h6 A6 r6=>?_⟩
   refine⟨(K2.trans A4.kp).trans A6.kp,A6.pen,es++[d'],(aR A5 A6.kp rs4).snoc (jd (A5.base A6) h6.1 (aM (fX A5 r6))),by simp;omega,h6.2⟩
  |false=>exact bw ⟨K2.trans A4.kp,A4.pen,es,rs4,by omega,by simpa using h4⟩
 ·have e:i=ds.length:=by omega
  subst e
  refine .inl ⟨W.stop H' oH,λl hl'=>?_⟩
  obtain⟨k7,i7,nw⟩:=A'.new hl' (.lst ys)
  have j:=cH ke .new
  refine q _ _ _ _ (done es iv) (A'.go k7 i7) (.lst (aX A' j.2 nw) ao ?_)
  exact(aR A' k7 rs).mono (λa o=>aX A' j.1 o) (λ_ _ _ e=>e) λ_ _ e=>e
def gD(own:List Str)(hc:X.calm=true)(hi:PDI X tg iter ti)(hg:∀c,PDG (X.comp own scope c) tg g)(ht:∀c,Gz (X.comp own scope c) ifs tt)(he:∀c,PD (X.comp own scope c) elt te)(hk:d8 X.env scope X.N=true:=by rfl)(hs:zF X iter:=by intro _;rfl) :
  PD X (.ListComp elt [⟨tg,iter,ifs,0⟩] scope pos) (dLC own.length ti g tt te):=PE.wk (CV own hc hi hg ht he hk hs) mU
end
def aG(d:D):Sl:=if cQ d then .im d else .sh d
def kY{p:Pn}{H:Hp}{N:List Str}{vs:List V}{ds:List D}(g:Gr.G p H)(hp:p.PI H)(r:Rps (λa=>¬p.fp a) H vs ds):EnvD p H (λ_=>none) (L2.start N vs) H (ds.map aG++Ï (N.length - vs.length) .any):=by
 refine⟨λ_ _ e _=>e,hp,(λ_ _ e=>nomatch e),λj s e=>?_,by unfold L2.start;simp[r.length],g⟩
 by_cases hj:j<ds.length
 ·rw[é (by simpa using hj),Þ] at e
  obtain⟨v,hv,rv⟩:=r.getD (Ä hj)
  rw[Ä hj] at e
  have e:=ß e
  have hs:(L2.start N vs)[j]?=some (some v):=by
   unfold L2.start
   rw[é (by rw[Á,r.length];exact hj),Þ,hv]
   rfl
  subst e
  unfold aG
  by_cases hi:cQ ds[j]=true
  ·rw[if_pos hi];exact⟨v,hs,rv.imm hi⟩
  ·rw[if_neg hi];exact⟨v,hs,rv.mono (λ_ o=>⟨o,rfl⟩) (λ_ _ _ e=>e) λ_ _ e=>e⟩
 ·rw[ç (by simpa using hj),Į] at e
  split at e
  ·cases e;trivial
  ·cases e
def sH{f:List D->(D->Prop)->Prop}{T:DS}{N:List Str}{vs:List V}{H:Hp}{Q:VK}{E:XK}(h:spD f vs H Q E)(body:∀ds P,f ds P->T { nx:=λ_=>P .none,rt:=P } (ds.map aG++Ï (N.length - ds.length) .any))(g:Gr.G gG H:=by trivial):pW T { nx:=λ_ H'=>Q .non H',rt:=Q } (L2.start N vs) H:=by
 obtain⟨ds,P,r,t,q⟩:=h
 have E:=kY (p:=gG) (N:=N) g trivial (r.mono (ok':=λa=>¬gG.fp a) (λ_ _ z=>z) (λ_ _ _ e=>e) λ_ _ e=>e)
 rw[r.length] at E
 have sm:∀H',(∀b o,H b=some o->¬gG.fp b->H' b=some o)->Same H H':=λH' k b o e=>k b o e λz=>z
 refine⟨gG,H,λ_=>none,_,_,E,body ds P t,⟨λo s h' r' e' _ n=>q _ _ h' n (sm h' e'.k0) .non,λd v h' n w=>q d v h' n (sm h' w.k0) (w.rp.mono (λ_ o=>o.1) (λ_ _ _ e=>e) λ_ _ e=>e),λ_ _ _ _ _ _ n=>n.elim,λ_ _ _ _ _ _ n=>n.elim⟩⟩
end Dl
namespace PySem
open PyProof.Rows
abbrev j5(f0:Value)(q:Bool)(TI TO:Addr):Obj:={ cls:=.type "zip",data:=.fields #[f0,.bool q,.bool false,.ref TI,.ref TO] }
section
variable {prog:Program}{w:World}{A:Around}{E:Value->Shared->Prop}{s:Shared}
def qC{z TI TO i1 i2 l1 l2 T:Addr}{q:Bool}{k:Nat}{xs ys:Array Value}{x y:Value}{oT:Obj}{Q:Value->Shared->Prop}(n1:i1≠z)(n2:i2≠z)(n12:i1≠i2)(m1:l1≠z)(m2:l2≠z)(m3:l2≠i1)(hZ:s.heap.get? z=some (j5 (rawInt T) q TI TO))(hI:s.heap.get? TI=some { cls:=.type "tuple",data:=.seq #[.ref i1,.ref i2] })(hT:s.heap.get? T=some oT)(j1:s.heap.IsListIter i1 l1 k)(j2:s.heap.IsListIter i2 l2 k)(e1:s.heap.IsList l1 xs)(e2:s.heap.IsList l2 ys)(hx:xs[k]?=some x)(hy:ys[k]?=some y)(hQ:∀h',h'.get? z=some (j5 (rawInt T) true TI TO)->h'.IsListIter i1 l1 (k+1)->h'.IsListIter i2 l2 (k+1)->h'.get? s.heap.objs.size=some { cls:=.type "tuple",data:=.seq #[x,y] } ->
   (∀c o,c≠z->c≠i1->c≠i2->s.heap.get? c=some o->h'.get? c=some o)->Q (.ref s.heap.objs.size) { s with heap:=h' }) :
  wpAny (model prog w) A (Builtin.«zip.__next__» ⟨[.ref z],[]⟩) (λfin s'=>∃v,fin=.done (.ret v)/\Q v s') E s:=by
 have fld:∀{i:Nat}{v:Value}{R:Value->Shared->Prop},(#[rawInt T,Ũ q,.bool false,.ref TI,.ref TO]:Array Value)[i]?=some v->R v s->wpAny (model prog w) A (field (.ref z) i) R E s:=λh r=>wpAny_field hZ rfl h r
 show wpAny _ _ (field (.ref z) 2 >>= _) _ _ _
 refine Ã (fld (v:=.bool false) rfl ?_)
 show wpAny _ _ (field (.ref z) 3 >>= _) _ _ _
 refine Ã (fld (v:=.ref TI) rfl ?_)
 refine Ã (wpAny_seqItems hI rfl ?_)
 show wpAny _ _ (ĥ (.ref z) >>= _) _ _ _
 refine Ã ?_
 unfold ĥ
 refine Ã (fld (v:=rawInt T) rfl ?_)
 show wpAny _ _ (loadIfAlive ((T:Int).toNat) >>= _) _ _ _
 rw[ľ]
 refine Ã (W.kdx_alive hT ?_)
 simp only[Option.isNone_some,ħ,if_false]
 refine Ã (fld (v:=.bool q) rfl ?_)
 refine L2.thn (Q:=λa s'=>a=false/\∃h1,s'={ s with heap:=h1 }/\h1.get? z=some (j5 (rawInt T) true TI TO)/\h1.objs.size=s.heap.objs.size/\∀c o,c≠z->s.heap.get? c=some o->h1.get? c=some o) ?_ ?_
 ·cases q with
  |true=>exact Ñ ⟨rfl,s.heap,rfl,hZ,rfl,λc o _ e=>e⟩
  |false =>
   rw[if_pos (by decide)]
   refine Ã (wpAny_setField_rec hZ (by simp) λh1 z1 b1=>Ñ ⟨rfl,h1,rfl,z1,b1.1,λc o n e=>b1.extBut _ _ n e⟩)
 rintro a s' ⟨rfl,h1,rfl,z1,sz1,k1⟩
 simp only[ħ,if_false]
 refine Ã ?_
 simp only[←Array.forIn_toList,List.forIn_cons,List.forIn_nil]
 have at1:h1.IsListIter i1 l1 k:=j1.at λo e=>k1 i1 o n1 e
 have at2:h1.IsListIter i2 l2 k:=j2.at λo e=>k1 i2 o n2 e
 have f1:h1.IsList l1 xs:=e1.at λo e=>k1 l1 o m1 e
 have f2:h1.IsList l2 ys:=e2.at λo e=>k1 l2 o m2 e
 refine Ã (Ã (Ě ?_))
 show wpAny _ _ (Ņ (.ref i1) >>= _) _ _ _
 refine Ã (wpAny_nextOf_list_item at1 f1 hx λh2 c1 b2=>Ñ (Ñ ?_))
 refine Ã (Ã (Ě ?_))
 show wpAny _ _ (Ņ (.ref i2) >>= _) _ _ _
 refine Ã (wpAny_nextOf_list_item (at2.extBut b2.extBut n12.symm) (f2.extBut b2.extBut m3) hy λh3 c2 b3=>Ñ (Ñ (Ñ ?_)))
 have sz3:h3.objs.size=s.heap.objs.size:=by rw[b3.1,b2.1,sz1]
 show wpAny _ _ (newTuple [x,y] >>= _) _ _ _
 refine Ã (wpAny_newTuple (Ñ ⟨_,rfl,?_⟩))
 show Q (.ref h3.objs.size) _
 rw[sz3]
 have up:∀c o,c≠i1->c≠i2->h1.get? c=some o->(h3.push { cls:=.type "tuple",data:=.seq #[x,y] }).get? c=some o:=λc o a b e=>Ç _ (b3.extBut _ _ b (b2.extBut _ _ a e))
 refine hQ _ (up z _ n1.symm n2.symm z1) ((c1.extBut b3.extBut n12).at λo e=>Ç _ e) (c2.at λo e=>Ç _ e) ?_ λc o a b d e=>up c o b d (k1 c o a e)
 rw[←sz3]
 exact Û _ rfl
def tH{z TI TO i1 i2 l1 l2 T:Addr}{q:Bool}{k:Nat}{xs ys:Array Value}{oT:Obj}{Q:Fin->Shared->Prop}(hh:A.handled=none)(n1:i1≠z)(n2:i2≠z)(n12:i1≠i2)(m1:l1≠z)(m2:l2≠z)(m3:l2≠i1)(hZ:s.heap.get? z=some (j5 (rawInt T) q TI TO))(hI:s.heap.get? TI=some { cls:=.type "tuple",data:=.seq #[.ref i1,.ref i2] })(hT:s.heap.get? T=some oT)(j1:s.heap.IsListIter i1 l1 k)(j2:s.heap.IsListIter i2 l2 k)(e1:s.heap.IsList l1 xs)(e2:s.heap.IsList l2 ys)(hend:xs[k]?=none\/ys[k]?=none)(hE:∀h' e,(∀c o,c≠z->c≠i1->c≠i2->s.heap.get? c=some o->h'.get? c=some o)->(∃o,h'.get? e=some o/\o.cls=.type "StopIteration")->E (.ref e) { s with heap:=h' }) :
  wpAny (model prog w) A (Builtin.«zip.__next__» ⟨[.ref z],[]⟩) Q E s:=by
 have fld:∀{i:Nat}{v:Value}{R:Value->Shared->Prop},(#[rawInt T,Ũ q,.bool false,.ref TI,.ref TO]:Array Value)[i]?=some v->R v s->wpAny (model prog w) A (field (.ref z) i) R E s:=λh r=>wpAny_field hZ rfl h r
 show wpAny _ _ (field (.ref z) 2 >>= _) _ _ _
 refine Ã (fld (v:=.bool false) rfl ?_)
 show wpAny _ _ (field (.ref z) 3 >>= _) _ _ _
 refine Ã (fld (v:=.ref TI) rfl ?_)
 refine Ã (wpAny_seqItems hI rfl ?_)
 show wpAny _ _ (ĥ (.ref z) >>= _) _ _ _
 refine Ã ?_
 unfold ĥ
 refine Ã (fld (v:=rawInt T) rfl ?_)
 show wpAny _ _ (loadIfAlive ((T:Int).toNat) >>= _) _ _ _
 rw[ľ]
 refine Ã (W.kdx_alive hT ?_)
 simp only[Option.isNone_some,ħ,if_false]
 refine Ã (fld (v:=.bool q) rfl ?_)
 refine L2.thn (Q:=λa s'=>a=false/\∃h1,s'={ s with heap:=h1 }/\h1.get? z=some (j5 (rawInt T) true TI TO)/\h1.objs.size=s.heap.objs.size/\∀c o,c≠z->s.heap.get? c=some o->h1.get? c=some o) ?_ ?_
 ·cases q with
  |true=>exact Ñ ⟨rfl,s.heap,rfl,hZ,rfl,λc o _ e=>e⟩
  |false =>
   rw[if_pos (by decide)]
   refine Ã (wpAny_setField_rec hZ (by simp) λh1 z1 b1=>Ñ ⟨rfl,h1,rfl,z1,b1.1,λc o n e=>b1.extBut _ _ n e⟩)
 rintro a s' ⟨rfl,h1,rfl,z1,sz1,k1⟩
 simp only[ħ,if_false]
 refine Ã ?_
 simp only[←Array.forIn_toList,List.forIn_cons,List.forIn_nil]
 have at1:h1.IsListIter i1 l1 k:=j1.at λo e=>k1 i1 o n1 e
 have at2:h1.IsListIter i2 l2 k:=j2.at λo e=>k1 i2 o n2 e
 have f1:h1.IsList l1 xs:=e1.at λo e=>k1 l1 o m1 e
 have f2:h1.IsList l2 ys:=e2.at λo e=>k1 l2 o m2 e
 refine Ã (Ã (Ě ?_))
 show wpAny _ _ (Ņ (.ref i1) >>= _) _ _ _
 cases hx:xs[k]? with
 |none=>exact Ã (wpAny_nextOf_list_end hh at1 f1 hx λh2 e b2 he=>hE h2 e (λc o a b _ x=>b2 c o b (k1 c o a x)) he)
 |some x =>
  have hy:ys[k]?=none:=hend.elim (λz=>by rw[hx] at z;cases z) id
  refine Ã (wpAny_nextOf_list_item at1 f1 hx λh2 c1 b2=>Ñ (Ñ ?_))
  refine Ã (Ã (Ě ?_))
  show wpAny _ _ (Ņ (.ref i2) >>= _) _ _ _
  exact Ã (wpAny_nextOf_list_end hh (at2.extBut b2.extBut n12.symm) (f2.extBut b2.extBut m3) hy λh3 e b3 he=>hE h3 e (λc o a b d x=>b3 c o d (b2.extBut _ _ b (k1 c o a x))) he)
structure ZSt(z TI TO i1 i2 l1 l2:Addr)(xs ys:Array Value)(i:Nat)(h:Heap):Prop where
 zip:(i=0/\h.get? z=some (j5 .none false TI TO))\/∃(T:Addr) (q:Bool) (oT:Obj),h.get? z=some (j5 (rawInt T) q TI TO)/\h.get? T=some oT/\T≠z/\T≠i1/\T≠i2
 ti:h.get? TI=some { cls:=.type "tuple",data:=.seq #[.ref i1,.ref i2] }
 to:∃a b,h.get? TO=some { cls:=.type "tuple",data:=.seq #[a,b] }
 j1:h.IsListIter i1 l1 i
 j2:h.IsListIter i2 l2 i
 e1:h.IsList l1 xs
 e2:h.IsList l2 ys
variable {z TI TO i1 i2 l1 l2:Addr}{xs ys:Array Value}
def ZSt.keeps{i:Nat}{h h':Heap}(Z:ZSt z TI TO i1 i2 l1 l2 xs ys i h){S:Addr}{oS:Obj}(hS:h.get? S=some oS)(hc:oS.cls=.type "list")(n1:S≠l1)(n2:S≠l2)(nT:∀(T:Addr) (q:Bool),h.get? z=some (j5 (rawInt T) q TI TO)->S≠T)(k:∀b o,b≠S->h.get? b=some o->h'.get? b=some o):ZSt z TI TO i1 i2 l1 l2 xs ys i h':=by
 have ne:∀{b:Addr}{o:Obj},h.get? b=some o->o.cls≠.type "list"->b≠S:=λe n z=>by subst z;rw[hS] at e;cases e;exact n hc
 obtain⟨o1,a1,c1,d1⟩:=Z.j1
 obtain⟨o2,a2,c2,d2⟩:=Z.j2
 obtain⟨a,b,ab⟩:=Z.to
 have k1:=k i1 o1 (ne a1 (by rw[c1];decide)) a1
 have k2:=k i2 o2 (ne a2 (by rw[c2];decide)) a2
 refine⟨?_,k _ _ (ne Z.ti (show ā "tuple"≠_ by decide)) Z.ti,⟨a,b,k _ _ (ne ab (show ā "tuple"≠_ by decide)) ab⟩,⟨o1,k1,c1,d1⟩,⟨o2,k2,c2,d2⟩,Z.e1.at λo e=>k _ o n1.symm e,Z.e2.at λo e=>k _ o n2.symm e⟩
 rcases Z.zip with ⟨h0,hz⟩|⟨T,q,oT,hz,hT,r⟩
 ·exact .inl ⟨h0,k _ _ (ne hz (show ā "zip"≠_ by decide)) hz⟩
 ·exact .inr ⟨T,q,oT,k _ _ (ne hz (show ā "zip"≠_ by decide)) hz,k _ _ (nT T q hz).symm hT,r⟩
def Bk{i:Nat}{x y:Value}{Q:Option Value->Shared->Prop}(D:ZipApart z TI TO i1 i2 l1 l2)(Z:ZSt z TI TO i1 i2 l1 l2 xs ys i s.heap)(hx:xs[i]?=some x)(hy:ys[i]?=some y)(hQ:∀h',ZSt z TI TO i1 i2 l1 l2 xs ys (i+1) h'->h'.get? s.heap.objs.size=some { cls:=.type "tuple",data:=.seq #[x,y] }->(∀(T:Addr) (q:Bool),h'.get? z=some (j5 (rawInt T) q TI TO)->T=s.heap.objs.size\/∃q',s.heap.get? z=some (j5 (rawInt T) q' TI TO)) ->
   (∀c o,c≠z->c≠TO->c≠i1->c≠i2->s.heap.get? c=some o->h'.get? c=some o)->Q (some (.ref s.heap.objs.size)) { s with heap:=h' }):wpAny (model prog w) A (pyNext (.ref z)) Q E s:=by
 obtain⟨a,b,ab⟩:=Z.to
 have lt:∀{c:Addr}{o:Obj},s.heap.get? c=some o->s.heap.objs.size≠c:=λe=>ŋ (É e)
 obtain⟨o1,a1,_⟩:=id Z.j1
 obtain⟨o2,a2,_⟩:=id Z.j2
 rcases Z.zip with ⟨rfl,hz⟩|⟨T,q,oT,hz,hT,t1,t2,t3⟩
 ·refine wpAny_pyNext_zip_item D hz Z.ti ab Z.j1 Z.j2 Z.e1 Z.e2 hx hy λh' b1 b2 b3 b4 b5 b6 b7=>hQ h' ⟨.inr ⟨_,false,_,b1,b5,lt hz,lt a1,lt a2⟩,b7 _ _ D.TIz D.TITO D.TIi1 D.TIi2 Z.ti,⟨_,_,b2⟩,b3,b4,Z.e1.at λo e=>b7 _ o D.l1z D.l1TO D.l1i1 D.l1i2 e,Z.e2.at λo e=>b7 _ o D.l2z D.l2TO D.l2i1 D.l2i2 e⟩ b5 (λT q e=>?_) b7
  rw[b1] at e
  cases e
  exact .inl rfl
 ·have hTy:s.TypeIs (.ref z) "zip":=⟨_,hz,rfl⟩
  unfold pyNext
  refine Ã (wpAny_attempt (wpAny_callSpecial?_slot (name:=ù "__next__") hTy F.slot_zip_next (wpAny_call_entry F.slot_zip_next hTy F.entry_zip_next ?_ (F.args_zip_next_1 _))))
  refine qC D.i1z D.i2z D.i12 D.l1z D.l2z D.l2i1 hz Z.ti hT Z.j1 Z.j2 Z.e1 Z.e2 hx hy λh' b1 b3 b4 b5 b7=>Ñ (hQ h' ⟨.inr ⟨T,true,oT,b1,b7 _ _ t1 t2 t3 hT,t1,t2,t3⟩,b7 _ _ D.TIz D.TIi1 D.TIi2 Z.ti,⟨a,b,b7 _ _ D.TOz D.TOi1 D.TOi2 ab⟩,b3,b4,Z.e1.at λo e=>b7 _ o D.l1z D.l1i1 D.l1i2 e,Z.e2.at λo e=>b7 _ o D.l2z D.l2i1 D.l2i2 e⟩ b5 (λT' q' e=>?_) λc o n1 _ n3 n4 e=>b7 c o n1 n3 n4 e)
  rw[b1] at e
  cases e
  exact .inr ⟨_,hz⟩
def GJ{i:Nat}{Q:Option Value->Shared->Prop}(hh:A.handled=none)(D:ZipApart z TI TO i1 i2 l1 l2)(Z:ZSt z TI TO i1 i2 l1 l2 xs ys i s.heap)(hend:xs[i]?=none\/ys[i]?=none)(hQ:∀h',(∀c o,c≠z->c≠TO->c≠i1->c≠i2->s.heap.get? c=some o->h'.get? c=some o)->Q none { s with heap:=h' }):wpAny (model prog w) A (pyNext (.ref z)) Q E s:=by
 obtain⟨a,b,ab⟩:=Z.to
 rcases Z.zip with ⟨rfl,hz⟩|⟨T,q,oT,hz,hT,t1,t2,t3⟩
 ·exact wpAny_pyNext_zip_end hh D hz Z.ti ab Z.j1 Z.j2 Z.e1 Z.e2 hend hQ
 ·have hTy:s.TypeIs (.ref z) "zip":=⟨_,hz,rfl⟩
  unfold pyNext
  refine Ã (wpAny_attempt (wpAny_callSpecial?_slot (name:=ù "__next__") hTy F.slot_zip_next (wpAny_call_entry F.slot_zip_next hTy F.entry_zip_next ?_ (F.args_zip_next_1 _))))
  refine tH hh D.i1z D.i2z D.i12 D.l1z D.l2z D.l2i1 hz Z.ti hT Z.j1 Z.j2 Z.e1 Z.e2 hend λh' e k2 he=>?_
  obtain⟨o,ho,hc⟩:=he
  refine Ã (wpAny_isInstance (T:="StopIteration") (b:=true) ⟨o,ho,hc⟩ isSubtype_stop ?_)
  exact Ñ (hQ _ λc o n1 _ n3 n4 e=>k2 c o n1 n3 n4 e)
def ItP(h:Heap):List Value->List (Value×Value)->Prop:=Paired λv p=>∃T,v=.ref T/\h.get? T=some { cls:=.type "tuple",data:=.seq #[p.1,p.2] }
def ItP.snoc{h:Heap}:∀{vs:List Value}{ps:List (Value×Value)}{v:Value}{p:Value×Value},ItP h vs ps->(∃T,v=.ref T/\h.get? T=some { cls:=.type "tuple",data:=.seq #[p.1,p.2] })->ItP h (vs++[v]) (ps++[p])
 |_,_,_,_,.nil,r=>.cons r .nil
 |_,_,_,_,.cons a t,r=>.cons a (ItP.snoc t r)
def ItP.keeps{h h':Heap}{vs:List Value}{ps:List (Value×Value)}(H:ItP h vs ps)(k:∀T o,h.get? T=some o->o.cls=.type "tuple"->(∃v∈vs,v=.ref T)->h'.get? T=some o):ItP h' vs ps:=by
 induction H with
 |nil=>exact .nil
 |cons a t ih =>
  obtain⟨T,e,hT⟩:=a
  exact .cons ⟨T,e,k T _ hT rfl ⟨_,Ú,e⟩⟩ (ih λT o h c ⟨v,hv,e⟩=>k T o h c ⟨v,Õ _ hv,e⟩)
end
section
variable {prog:Program}{w:World}{A:Around}{z TI TO i1 i2 l1 l2:Addr}{xs ys:Array Value}{R:Result->Shared->Prop}
abbrev H9(acc:Array Value)(c:Nat):Obj:={ cls:=.type "list",dict:=none,data:=.seq acc c,slots:=#[] }
def Bh(hh:A.in1.handled=none)(D:ZipApart z TI TO i1 i2 l1 l2)(hn:min xs.size ys.size<=1000)(S:Addr)(nS:S≠z/\S≠TO/\S≠i1/\S≠i2/\S≠l1/\S≠l2)(res:Value):∀(m i:Nat) (s:Shared) (acc:Array Value) (c:Nat),min xs.size ys.size - i=m->i<=min xs.size ys.size ->
  ZSt z TI TO i1 i2 l1 l2 xs ys i s.heap->(∀(T:Addr) (q:Bool),s.heap.get? z=some (j5 (rawInt T) q TI TO)->S≠T)->s.heap.get? S=some (H9 acc c)->ItP s.heap acc.toList ((xs.toList.zip ys.toList).take i)->(∀v∈acc.toList,∀T,v=.ref T->T≠z/\T≠TO/\T≠i1/\T≠i2/\T≠S) ->
  (∀h' acc' c',(∀b o,b≠S->b≠z->b≠TO->b≠i1->b≠i2->s.heap.get? b=some o->h'.get? b=some o)->h'.get? S=some (H9 acc' c')->ItP h' acc'.toList (xs.toList.zip ys.toList)->(∀v∈acc'.toList,v∈acc.toList\/∃T,v=.ref T/\s.heap.objs.size<=T)->R (.ok (.ret res)) { s with heap:=h' }) ->
  codeAny (model prog w) A (.builtin "list.extend.loop" ⟨[.ref S,.ref z,res],[]⟩) R s:=by
 obtain⟨s1,s2,s3,s4,s5,s6⟩:=nS
 intro m
 induction m with
 |zero =>
  intro i s acc c hm hi Z nT hS hP hv hR
  have e:i=min xs.size ys.size:=by omega
  refine codeAny_builtin F.entry_extend_loop ?_
  rw[Around.under_plainId F.plain_extend_loop _]
  show wpAny _ A.in1 (pyNext (.ref z) >>= _) _ _ s
  refine Ã (GJ hh D Z ?_ λh' k=>?_)
  ·rcases Nat.le_total xs.size ys.size with h|h
   ·exact .inl (Array.getElem?_eq_none (by omega))
   ·exact .inr (Array.getElem?_eq_none (by omega))
  ·have el:(xs.toList.zip ys.toList).take i=xs.toList.zip ys.toList:=Ģ (by simp;omega)
   rw[el] at hP
   exact Ñ (hR h' acc c (λb o n1 n2 n3 n4 n5 e=>k b o n2 n3 n4 n5 e) (k S _ s1 s2 s3 s4 hS) (hP.keeps λT o h _ ⟨v,hv',e⟩=>let ⟨a1,a2,a3,a4,_⟩:=hv v hv' T e;k T o a1 a2 a3 a4 h) λv hv=>.inl hv)
 |succ m ih =>
  intro i s acc c hm hi Z nT hS hP hv hR
  have hx:i<xs.size:=by omega
  have hy:i<ys.size:=by omega
  refine codeAny_builtin F.entry_extend_loop ?_
  rw[Around.under_plainId F.plain_extend_loop _]
  show wpAny _ A.in1 (pyNext (.ref z) >>= _) _ _ s
  refine Ã (Bk D Z (Array.getElem?_eq_getElem hx) (Array.getElem?_eq_getElem hy) λh1 Z1 hT hz1 k1=>?_)
  have hS1:=k1 S _ s1 s2 s3 s4 hS
  have lt:∀{b:Addr}{o:Obj},s.heap.get? b=some o->s.heap.objs.size≠b:=λe=>ŋ (É e)
  have hsz:=hP.length
  have hsz2:acc.size=i:=by
   have:acc.toList.length=i:=by rw[hsz,Ċ,ũ];simp;omega
   simpa using this
  show wpAny _ A.in1 (updateSeq S (·.push (.ref s.heap.objs.size)) >>= _) _ _ _
  refine Ã ?_
  have h24:=ì
  have nT1:∀(T:Addr) (q:Bool),h1.get? z=some (j5 (rawInt T) q TI TO)->S≠T:=λT q e=>by
   rcases hz1 T q e with z'|⟨q',e'⟩
   ·rw[z'];exact(lt hS).symm
   ·exact nT T q' e'
  have oth:∀b o,b≠S->h1.get? b=some o->(h1.update S (Ô (·.push (ĕ s.heap.objs.size)))).get? b=some o:=λb o n e=>(ġ _ _ (ę n)).trans e
  obtain⟨o1,a1,_⟩:=Z.j1
  obtain⟨o2,a2,_⟩:=Z.j2
  have az:∃o,s.heap.get? z=some o:=by
   rcases Z.zip with ⟨_,hz⟩|⟨_,_,_,hz,_⟩
   ·exact⟨_,hz⟩
   ·exact⟨_,hz⟩
  obtain⟨oz,az⟩:=az
  obtain⟨ta,tb,at'⟩:=Z.to
  have newT:s.heap.objs.size≠z/\s.heap.objs.size≠TO/\s.heap.objs.size≠i1/\s.heap.objs.size≠i2/\s.heap.objs.size≠S:=⟨lt az,lt at',lt a1,lt a2,lt hS⟩
  obtain⟨c2,hS2⟩:∃c2,(h1.update S (Ô (·.push (ĕ s.heap.objs.size)))).get? S=some (H9 (acc.push (.ref s.heap.objs.size)) c2):=⟨_,Ŏ _ hS1 rfl⟩
  have tk:(xs.toList.zip ys.toList).take (i+1)=(xs.toList.zip ys.toList).take i++[(xs[i],ys[i])]:=by
   rw[Ĕ]
   congr 1
   have:(xs.toList.zip ys.toList)[i]?=some (xs[i],ys[i]):=by
    rw[List.getElem?_zip_eq_some]
    simp[hx,hy]
   rw[this]
   rfl
  refine wpAny_updateSeq hS1 rfl (Ñ ⟨plainId_quiet F.plain_extend_loop _,ih (i+1) { s with heap:=h1.update S (Ô (·.push (ĕ s.heap.objs.size))) } (acc.push (.ref s.heap.objs.size)) c2 (by omega) (by omega) (Z1.keeps hS1 rfl s5 s6 nT1 oth) (λT q e=>nT1 T q ?_) hS2 ?_ ?_ ?_⟩) (by rw[hsz2];omega) (by show(acc.push _).size<=sizeLine+1;rw[Array.size_push,hsz2];omega)
  ·have zz:z≠S:=ę s1
   rw[show(h1.update S (Ô (·.push (ĕ s.heap.objs.size)))).get? z=h1.get? z from ġ _ _ (ę zz)] at e
   exact e
  ·rw[tk,Ĭ]
   refine ItP.snoc (hP.keeps λT o h _ ⟨v,hv',e⟩=>?_) ⟨_,rfl,oth _ _ newT.2.2.2.2 hT⟩
   obtain⟨b1,b2,b3,b4,b5⟩:=hv v hv' T e
   exact oth _ _ b5 (k1 T o b1 b2 b3 b4 h)
  ·intro v hv' T e
   rw[Ĭ] at hv'
   rcases Ù.mp hv' with q|q
   ·exact hv v q T e
   ·have q':v=.ref s.heap.objs.size:=by simpa using q
    rw[q'] at e
    cases e
    exact newT
  ·intro h' acc' c' kk hS' hP' hn'
   refine hR h' acc' c' (λb o n1 n2 n3 n4 n5 e=>kk b o n1 n2 n3 n4 n5 (oth b o n1 (k1 b o n2 n3 n4 n5 e))) hS' hP' λv hv'=>?_
   rcases hn' v hv' with q|⟨T,e,hT'⟩
   ·rw[Ĭ] at q
    rcases Ù.mp q with q|q
    ·exact .inl q
    ·have q':v=.ref s.heap.objs.size:=by simpa using q
     exact .inr ⟨_,q',Å _⟩
   ·exact .inr ⟨T,e,ï (Nat.le_of_lt (É (oth _ _ newT.2.2.2.2 hT))) hT'⟩
def vC:typeLookup (.type "zip") "__len__"=pure none:=by rw[typeLookup_type,builtinLookup_eq_fast];kernel_rfl
def tE:typeLookup (.type "zip") "__length_hint__"=pure none:=by rw[typeLookup_type,builtinLookup_eq_fast];kernel_rfl
def Bj{s:Shared}{E:Value->Shared->Prop}{Q:Value->Shared->Prop}(hh:A.handled=none)(D:ZipApart z TI TO i1 i2 l1 l2)(hn:min xs.size ys.size<=1000)(hz:s.heap.get? z=some (j5 .none false TI TO))(Z:ZSt z TI TO i1 i2 l1 l2 xs ys 0 s.heap)(hQ:∀h' acc' c',(∀b o,b≠z->b≠TO->b≠i1->b≠i2->s.heap.get? b=some o->h'.get? b=some o)->h'.get? s.heap.objs.size=some (H9 acc' c')->ItP h' acc'.toList (xs.toList.zip ys.toList)->(∀v∈acc'.toList,∃T,v=.ref T/\s.heap.objs.size<T)->Q (.ref s.heap.objs.size) { s with heap:=h' }) :
  wpAny (model prog w) A (call (.type "list") [.ref z]) Q E s:=by
 have lt:∀{b:Addr}{o:Obj},s.heap.get? b=some o->s.heap.objs.size≠b:=λe=>ŋ (É e)
 obtain⟨o1,a1,_⟩:=id Z.j1
 obtain⟨o2,a2,_⟩:=id Z.j2
 obtain⟨p1,b1,_⟩:=id Z.e1
 obtain⟨p2,b2,_⟩:=id Z.e2
 obtain⟨ta,tb,at'⟩:=id Z.to
 refine callType_codes (Q₁:=λobj s₁=>obj=.ref s.heap.objs.size/\s₁={ s with heap:=s.heap.push { cls:=.type "list",data:=.seq #[] } }) F.called_list (F.typeCall_list_1 _) F.entry_list_init (code_list_new _ ⟨rfl,rfl⟩) λobj sx hx=>?_
 obtain⟨rfl,rfl⟩:=hx
 have hS:(s.heap.push { cls:=.type "list",data:=.seq #[] }).get? s.heap.objs.size=some { cls:=.type "list",data:=.seq #[] }:=Û _ rfl
 refine⟨⟨_,hS,rfl⟩,F.args_list_init_2 _ _,?_⟩
 show wpAny _ _ (Builtin.List.listItems (.ref s.heap.objs.size) >>= λold=>Builtin.List.listUpdate (.ref s.heap.objs.size) (λ_=>#[]) >>= λ_=>letGo old.toList.reverse >>= λ_=>ņ (.ref s.heap.objs.size) (.ref z) .none) _ _ _
 have old:∀b o,s.heap.get? b=some o->(s.heap.push { cls:=.type "list",data:=.seq #[] }).get? b=some o:=λb o e=>Ç _ e
 refine Ã ?_
 unfold Builtin.List.listItems
 refine Ã (wpAny_seqItems hS rfl (Ñ ?_))
 refine Ã (m:=updateSeq s.heap.objs.size (λ_=>#[])) (wpAny_updateSeq hS rfl ?_)
 have hS2:=Ŏ (Ô (λ_=>(#[]:Array Value))) hS rfl
 refine Ã (wpAny_letGo ?_)
 generalize hg:(s.heap.push { cls:=.type "list",data:=.seq #[] }).update s.heap.objs.size (Ô λ_=>(#[]:Array Value))=g at hS2
 have kg:∀b o,s.heap.get? b=some o->g.get? b=some o:=λb o e=>by rw[←hg];exact(ġ _ _ (lt e)).trans (old b o e)
 have sg:g.objs.size=s.heap.objs.size+1:=by rw[←hg,Ĝ,Ń]
 have Zg:∀{h:Heap},(∀b o,s.heap.get? b=some o->h.get? b=some o)->ZSt z TI TO i1 i2 l1 l2 xs ys 0 h:=λ{h} k=>⟨.inl ⟨rfl,k _ _ hz⟩,k _ _ Z.ti,⟨ta,tb,k _ _ at'⟩,Z.j1.at λo e=>k _ o e,Z.j2.at λo e=>k _ o e,Z.e1.at λo e=>k _ o e,Z.e2.at λo e=>k _ o e⟩
 have hT:∀{h:Heap},(∀b o,s.heap.get? b=some o->h.get? b=some o)->({ s with heap:=h }:Shared).TypeIs (.ref z) "zip":=λk=>⟨_,k _ _ hz,rfl⟩
 unfold ņ
 refine Ã (wpAny_typeOf (hT kg) ?_)
 have q1:Builtin.List.listSameRef (.ref s.heap.objs.size) (.ref z)=false:=by simp[Builtin.List.listSameRef,lt hz]
 have q2:(ā "zip" == ā "list")=false:=by decide
 have q3:(ā "zip" == ā "tuple")=false:=by decide
 simp only[q1,q2,q3,Bool.or_false,ħ,if_false]
 refine Ã (wpAny_pyIter_zip (kg _ _ hz) ?_)
 refine Ã (Ě ?_)
 unfold Builtin.List.listLengthHint
 refine Ã (wpAny_specialOf (hT kg) vC ?_)
 show wpAny _ _ (specialOf (ĕ z) (ù "__length_hint__") >>= _) _ _ _
 refine Ã (wpAny_specialOf (hT kg) tE ?_)
 refine Ñ ?_
 show wpAny _ _ (rule "list.extend.makes-room" >>= λ_=>Builtin.List.listTouch (.ref s.heap.objs.size) >>= λ_=>again (.builtin "list.extend.loop" ⟨[.ref s.heap.objs.size,.ref z,.none],[]⟩)) _ _ _
 refine Ã (wpAny_rule (Ã ?_))
 show wpAny _ _ (updateSeq s.heap.objs.size (·.push .none) >>= λ_=>updateSeq s.heap.objs.size (·.pop)) _ _ _
 refine Ã (wpAny_updateSeq hS2 rfl ?_)
 have hS3:=Ŏ (Ô (·.push ĭ)) hS2 rfl
 refine wpAny_updateSeq hS3 rfl ?_
 have hS4:=Ŏ (Ô (·.pop)) hS3 rfl
 generalize hk:(g.update s.heap.objs.size (Ô (·.push ĭ))).update s.heap.objs.size (Ô (·.pop))=g' at hS4
 have kk:∀b o,b≠s.heap.objs.size->g.get? b=some o->g'.get? b=some o:=λb o n e=>by rw[←hk];exact(ġ _ _ (ę n)).trans ((ġ _ _ (ę n)).trans e)
 have kk2:∀b o,s.heap.get? b=some o->g'.get? b=some o:=λb o e=>kk b o (ę (lt e)) (kg b o e)
 have sk:g'.objs.size=s.heap.objs.size+1:=by rw[←hk,Ĝ,Ĝ,sg]
 refine Ñ ⟨plainId_quiet F.plain_extend_loop _,Bh (A:=A.in1) (xs:=xs) (ys:=ys) hh D hn s.heap.objs.size ⟨lt hz,lt at',lt a1,lt a2,lt b1,lt b2⟩ _ _ 0 { s with heap:=g' } #[] _ rfl (û _) (Zg kk2) (λT q e=>?_) hS4 .nil (λv hv=>nomatch hv) λh' acc' c' k' hS' hP' hn'=>?_⟩
 ·have e':=kk2 _ _ hz
  rw[e] at e'
  cases e'
 ·refine⟨rfl,hQ h' acc' c' (λb o n1 n2 n3 n4 e=>k' b o (ę (lt e)) n1 n2 n3 n4 (kk2 b o e)) hS' hP' λv hv=>?_⟩
  rcases hn' v hv with q|⟨T,e,hT'⟩
  ·exact nomatch q
  ·refine⟨T,e,?_⟩
   have:g'.objs.size<=T:=hT'
   omega
end
end PySem
namespace L2
open PySem PySem.Spec PyProof.Rows
section
variable {X:Cx}{pins:List (Addr×Obj)}{σ:L2.St}{H:Hp}{s:Shared}
def Inv.Bu{a:Addr}{o:HO}{H0:Hp}{s0:Shared}{σ0:L2.St}(I:Inv X pins σ H s)(I0:Inv X pins σ0 H0 s0)(hle:s0.heap.objs.size<=a)(hn:H a=none)(new:bx X.prog X.w (upd H a o) s.heap a o):Inv X pins σ (upd H a o) s:=by
 have lt:∀{b:Addr}{u:Obj},s0.heap.get? b=some u->b≠a:=λe z=>absurd (à (É e) hle) (by rw[z];exact ó _)
 refine I.track hn (λob e=>?_) (ę (ã (à I0.lt hle))) (λx c e=>?_) (λp hp=>lt (I0.pin p hp).1) new
 ·exact absurd (à (É e) (ï I0.sz hle)) (ó _)
 ·obtain⟨v,u,hu,_⟩:=I0.cell x c e
  exact lt hu
def Inv.tuples{H0:Hp}{s0:Shared}{σ0:L2.St}(I0:Inv X pins σ0 H0 s0):∀(vs:List Value) (ps:List (Value×Value)) (qs:List (V×V)) (H:Hp),Inv X pins σ H s->ItP s.heap vs ps->Paired (λ(q:V×V) (p:Value×Value)=>RelV q.1 p.1/\RelV q.2 p.2) qs ps->(∀v∈vs,∃T,v=.ref T/\s0.heap.objs.size<=T)->(∀T,s0.heap.objs.size<=T->H T=none\/∃xs,H T=some (.tup xs)) ->
  ∃(H':Hp) (ws:List V),Inv X pins σ H' s/\Same H H'/\Vals ws vs/\Paired (λw (q:V×V)=>∃t,w=.ref t/\H' t=some (.tup [q.1,q.2])) ws qs/\(∀T,s0.heap.objs.size<=T->H' T=none\/∃xs,H' T=some (.tup xs))/\(∀T,(∀v∈vs,v≠.ref T)->H' T=H T)
 |_,_,_,H,I,.nil,.nil,_,hN=>⟨H,[],I,Same.refl _,.nil,.nil,hN,λ_ _=>rfl⟩
 |_,_,_,H,I,.cons (a:=v) (l₁:=vs) (b:=p) (l₂:=ps) r t,.cons (a:=q) (l₁:=qs) rq tq,hv,hN=>by
  obtain⟨T,e,hT⟩:=r
  subst e
  obtain⟨T',e',hle⟩:=hv _ Ú
  cases e'
  have vq:Vals [q.1,q.2] [p.1,p.2]:=.cons rq.1 (.cons rq.2 .nil)
  have okT:∀H2:Hp,bx X.prog X.w H2 s.heap T (.tup [q.1,q.2]):=λH2=>⟨by show 2<=sizeLine;decide,[p.1,p.2],vq,⟨_,hT,rfl,0,rfl⟩⟩
  have key:∃H1,Inv X pins σ H1 s/\Same H H1/\H1 T=some (.tup [q.1,q.2])/\(∀U,s0.heap.objs.size<=U->H1 U=none\/∃xs,H1 U=some (.tup xs))/\∀U,U≠T->H1 U=H U:=by
   rcases hN T hle with hn|⟨xs,hx⟩
   ·refine⟨upd H T (.tup [q.1,q.2]),I.Bu I0 hle hn (okT _),λb u e=>by rw[ak (aD e hn)];exact e,ao,λU hU=>?_,λU hU=>ak hU⟩
    by_cases z:U=T
    ·subst z;exact .inr ⟨_,ao⟩
    ·rw[ak z];exact hN U hU
   ·refine⟨H,I,Same.refl _,?_,hN,λ_ _=>rfl⟩
    obtain⟨_,its,rv,o,ho,hc,n,hd⟩:=I.hok T _ hx
    rw[hT] at ho
    cases ho
    cases hd
    have:xs=[q.1,q.2]:=Vals.inj (by simpa using rv) vq
    rw[hx,this]
  obtain⟨H1,I1,s1,h1,N1,u1⟩:=key
  obtain⟨H2,ws,I2,s2,v2,p2,N2,u2⟩:=Inv.tuples I0 vs ps qs H1 I1 t tq (λv hv'=>hv v (Õ _ hv')) N1
  refine⟨H2,.ref T::ws,I2,s1.trans s2,.cons rfl v2,.cons ⟨T,rfl,s2 _ _ h1⟩ p2,N2,λU hU=>?_⟩
  rw[u2 U λv hv'=>hU v (Õ _ hv'),u1 U λz=>hU _ Ú (by rw[z])]
def tLZ(K:Ø)(ta:TA):TE:=λσ H Q=>ta σ H λvs H1=>∃p q xs ys,vs=[.ref p,.ref q]/\SqL K H1 p xs/\SqL K H1 q ys/\xs.length<=1000 /\
 ∀l ws H',Same H1 H'->H1 l=none->H' l=some (.lst ws)->Paired (λw (q:V×V)=>∃t,w=.ref t/\H' t=some (.tup [q.1,q.2])) ws (xs.zip ys)->Q (.ref l) H'
def tR:∀{xs ys:List V}{us vs:List Value},Vals xs us->Vals ys vs->Paired (λ(q:V×V) (p:Value×Value)=>RelV q.1 p.1/\RelV q.2 p.2) (xs.zip ys) (us.zip vs)
 |_,_,_,_,.nil,_=>.nil
 |_,_,_,_,.cons _ _,.nil=>.nil
 |_,_,_,_,.cons a b,.cons c d=>.cons ⟨a,c⟩ (tR b d)
def vW{a b:Expr}{ta:TA}{p1 p2 pos1 pos2:Pos}(hc:X.calm=true)(hgl:Gl X "list")(hml:X.mg "list"=none)(hgz:Gl X "zip")(hmz:X.mg "zip"=none)(ha:PA X [a,b] ta)(e1:starEach [.Call (.Name "zip" p2) [a,b] [] pos2] X.env=[(false,eval (.Call (.Name "zip" p2) [a,b] [] pos2) X.env)]:=by rfl)(e2:starEach [a,b] X.env=(false,eval a X.env)::starEach [b] X.env:=by rfl)(e3:(backTo pos2 (starEach [b] X.env)).any (·.1)=false:=by rfl) :
  PE X (.Call (.Name "list" p1) [.Call (.Name "zip" p2) [a,b] [] pos2] [] pos1) (tLZ X.K ta):=by
 intro pins s σ H Q I h
 refine Ő (iy I hgl hml boot_list ?_)
 refine Ī ?_ e1 rfl
 rw[e1]
 refine Calls.spliced_cons ?_
 refine Ő (iy I hgz hmz PyProof.Rows.boot_zip ?_)
 refine Ī (thn (ha pos2 pins s σ H _ I h) λus s1 ⟨vs,H1,I1,r1,q1⟩=>?_) e2 e3
 obtain⟨p,q,xs,ys,rfl,hp,hq,hlen,k⟩:=q1
 obtain⟨u,u2,rfl,rx,ry⟩:=vals2 r1
 cases rx
 cases ry
 obtain⟨its,rv,pl,_⟩:=I1.list hp
 obtain⟨its2,rv2,pl2,_⟩:=I1.list hq
 refine call_zip_2 pl.isList pl2.isList λh' hz hTI hTO hi1 hi2 hsz hk=>?_
 refine Calls.spliced_nil ?_
 have lp:p<s1.heap.objs.size:=by obtain⟨o,e,_⟩:=pl.isList;exact É e
 have lq:q<s1.heap.objs.size:=by obtain⟨o,e,_⟩:=pl2.isList;exact É e
 have D:=zipApart_new lp lq
 have Z:ZSt (s1.heap.objs.size+4) (s1.heap.objs.size+2) (s1.heap.objs.size+3) s1.heap.objs.size (s1.heap.objs.size+1) p q its.toArray its2.toArray 0 h' :=
  ⟨.inl ⟨rfl,hz⟩,hTI,⟨_,_,hTO⟩,hi1,hi2,pl.isList.at λo e=>hk _ o e,pl2.isList.at λo e=>hk _ o e⟩
 have hl1:=rv.length
 refine Bj (s:={ s1 with heap:=h' }) (I1.ok.hd hc) D (by simp;omega) hz Z λh2 acc c2 k2 hS hP hT=>?_
 have lt:∀{b:Addr}{o:Obj},s1.heap.get? b=some o->b<s1.heap.objs.size:=λe=>É e
 have kept:∀b o,s1.heap.get? b=some o->h2.get? b=some o:=λb o e=>by
  have l0:=lt e
  have l1:∀j,b≠s1.heap.objs.size+j:=λj=>ã (à l0 (Nat.le_add_right _ _))
  exact k2 b o (l1 4) (l1 3) (l1 0) (l1 1) (hk b o e)
 have I2:Inv X pins σ H1 { s1 with heap:=h2 }:=I1.kept (t':=s1.toks) kept
 have hsz':h'.objs.size=s1.heap.objs.size+5:=hsz
 obtain⟨H3,ws,I3,s3,v3,p3,N3,u3⟩:=Inv.tuples I1 acc.toList _ _ H1 I2 hP (tR rv rv2) (λv hv=>by
  obtain⟨T,e,hT'⟩:=hT v hv
  have hT'':h'.objs.size<T:=hT'
  exact⟨T,e,by omega⟩) λT hT=>.inl (I1.hok.fresh hT)
 have hSn:H3 h'.objs.size=none:=by
  rw[u3 _ λv hv z=>?_]
  ·exact I1.hok.fresh (by omega)
  ·obtain⟨T,e,hT'⟩:=hT v hv
   rw[z] at e
   cases e
   exact absurd hT' (ó _)
 have hwl:ws.length<=sizeLine:=by
  have:=v3.length
  have h24:=ì
  have l3:=p3.length
  rw[l3,ũ]
  omega
 have I4:Inv X pins σ (upd H3 h'.objs.size (.lst ws)) { s1 with heap:=h2 }:=I3.Bu I1 (by omega) hSn ⟨hwl,acc.toList,c2,v3,hS⟩
 refine⟨.ref h'.objs.size,_,I4,rfl,k h'.objs.size ws _ (s3.trans λb u e=>by rw[ak (aD e hSn)];exact e) (I1.hok.fresh (by omega)) ao (Paired.Ek p3 λw q ⟨t,e,ht⟩=>⟨t,e,by rw[ak (aD ht hSn)];exact ht⟩)⟩
end
end L2
namespace Dl
open PySem L2 PyProof.Rows
variable [Gr]
section
variable {X:Cx}{pos:Pos}{a b c e:Expr}{es:List Expr}{ta tb tc te:DE}{t:DA}
def newP(k:Kd)(ds:List D)(P:Kd->Prop):Prop:=(cM ds=true/\P .new)\/P (k.join .new)
def gj{p:Pn}{H0 Hb H H2:Hp}{own:Addr->Option Nat}(A:At p H0 own Hb H){k:Kd}{vs:List V}{ds:List D}{P:Kd->Prop}{l:Addr}(r:Rps (okK p H0 own Hb k) H2 vs ds)(nw:okK p H0 own Hb .new l)(hl:H2 l=some (.lst vs))(h:newP k ds P):∃k',P k'/\Rp (okK p H0 own Hb k') H2 (.ref l) (.list ds):=by
 rcases h with ⟨i,h⟩|h
 ·exact⟨_,h,.lst nw hl ((Rps.imm r i).mono (λ_ o=>o.elim) (λ_ _ _ e=>e) λ_ _ e=>e)⟩
 ·exact⟨_,h,.lst (aX A (cH k .new).2 nw) hl (r.mono (λa o=>aX A (cH k .new).1 o) (λ_ _ _ e=>e) λ_ _ e=>e)⟩
def jO:∀l:List Int,cM (l.map Í)=true
 |[]=>rfl
 |x::l=>by
  show(cQ (.int x)&&cM (l.map Í))=true
  rw[jO l]
  rfl
def kO:∀l:List Tie,cM (l.map pD)=true
 |[]=>rfl
 |x::l=>by
  show(cQ (pD x)&&cM (l.map pD))=true
  rw[kO l]
  rfl
def prD(p:D×D):D:=.tuple [p.1,p.2]
def Pa:GC:=λks P=>match ks with
 |[(k1,.list ds),(k2,.list es)]=>ds.length<=1000/\newP (k1.join k2) ((ds.zip es).map prD) λk=>P k (.list ((ds.zip es).map prD))
 |_=>False
def Rps.zip{ok:Addr->Prop}{H H':Hp}(m:∀{v:V}{d:D},Rp ok H v d->Rp ok H' v d):∀{xs ys:List V}{ds es:List D}{ws:List V},Rps ok H xs ds->Rps ok H ys es->Paired (λw (q:V×V)=>∃t,w=.ref t/\H' t=some (.tup [q.1,q.2])) ws (xs.zip ys)->Rps ok H' ws ((ds.zip es).map prD)
 |_,_,_,_,_,.nil,_,p=>by cases p;exact .nil
 |_,_,_,_,_,.cons _ _,.nil,p=>by cases p;exact .nil
 |_,_,_,_,_,.cons h t,.cons h2 t2,p=>by
  cases p with
  |cons r q =>
   obtain⟨t',rfl,ht⟩:=r
   exact .cons (.tup ht (.cons (m h) (.cons (m h2) .nil))) (Rps.zip m t t2 q)
def wg{p1 p2 pos1 pos2:Pos}(hc:X.calm=true)(hml:X.mg "list"=none)(hmz:X.mg "zip"=none)(ha:PDA X [a,b] t)(hgl:Gl X "list":=by rfl)(hgz:Gl X "zip":=by rfl)(e1:starEach [.Call (.Name "zip" p2) [a,b] [] pos2] X.env=[(false,eval (.Call (.Name "zip" p2) [a,b] [] pos2) X.env)]:=by rfl)(e2:starEach [a,b] X.env=(false,eval a X.env)::starEach [b] X.env:=by rfl)(e3:(backTo pos2 (starEach [b] X.env)).any (·.1)=false:=by rfl) :
  PD X (.Call (.Name "list" p1) [.Call (.Name "zip" p2) [a,b] [] pos2] [] pos1) (tCl Pa t):=PE.wk (vW hc hgl hml hgz hmz ha e1 e2 e3) (by
 rintro σ H Q ⟨p,H0,own,ρ,P,E,t,q⟩
 refine⟨p,H0,own,ρ,_,E,t,λks vs H1 h A r=>?_⟩
 unfold Pa at h
 split at h
 ·rename_i k1 ds k2 es'
  obtain⟨v,w,rfl,r1,r2⟩:=Ks r
  obtain⟨x,xs,e1,o1,h1,rs1⟩:=Rp.cJ r1
  obtain⟨y,ys,e2,o2,h2,rs2⟩:=Rp.cJ r2
  subst e1 e2
  refine⟨x,y,xs,ys,rfl,SqL.of h1,SqL.of h2,by rw[rs1.length];exact h.1,λl ws H' sm hl hl' hp=>?_⟩
  have K:Kp p H1 H':=Kp.of sm
  have i2:p.PI H':=p.mono H1 H' A.pen λb o _ e=>sm b o e
  have j2:=cH k1 k2
  have m1:∀{k:Kd},k.le (k1.join k2)=true->∀{vs ds},Rps (okK p H0 own H k) H1 vs ds->Rps (okK p H0 own H (k1.join k2)) H1 vs ds:=λhk _ _ z=>z.mono (λa o=>aX A hk o) (λ_ _ _ e=>e) λ_ _ e=>e
  obtain⟨k',hk',rk'⟩:=gj A (Rps.zip (λz=>gR A K z) (m1 j2.1 rs1) (m1 j2.2 rs2) hp) (A.free hl) hl' h.2
  exact q _ _ _ _ hk' (A.go K i2) rk'
 ·exact h.elim)
def tCh(f g:Int->Int->Bool)(ta tb tc:DE):DE:=λρ P=>ta ρ λ_ d1=>tb ρ λ_ d2=>match d1,d2 with
 |.int i,.int j=>if f i j=true then tc ρ λ_ d3=>(match d3 with
   |.int l=>P .imm (.bool (g j l))
   |_=>False) else P .imm (.bool false)
 |_,_=>False
def Ig{f g:Int->Int->Bool}:∀σ H Q,cL (tCh f g ta tb tc) σ H Q->BJ (rI0 λi j=>.bl (f i j)) (rI0 λi j=>.bl (g i j)) (cL ta) (cL tb) (cL tc) σ H Q:=by
 rintro σ H Q ⟨p,H0,own,ρ,P,E,t,q⟩
 refine⟨p,H0,own,ρ,_,E,t,λk1 d1 v1 H1 t1 A1 r1=>?_⟩
 refine⟨p,H0,own,ρ,_,E.go A1.kp A1.pen,t1,λk2 d2 v2 H2 t2 A2 r2=>?_⟩
 have A:=A1.base A2
 split at t2
 ·rename_i i j
  refine⟨i,j,r1.int',r2.int',_,rfl,?_⟩
  cases hf:f i j with
  |true =>
   rw[hf,if_pos rfl] at t2
   refine bf ⟨p,H0,own,ρ,_,(E.go A1.kp A1.pen).go A2.kp A2.pen,t2,λk3 d3 v3 H3 t3 A3 r3=>?_⟩
   cases d3 with
   |int l=>exact⟨j,l,r2.int',r3.int',q _ _ _ _ t3 (A.base A3) (.bl _)⟩
   |_=>exact t3.elim
  |false =>
   rw[hf,if_neg Ð] at t2
   exact bw (q _ _ _ _ t2 A (.bl _))
 ·exact t2.elim
def yp(ha:PD X a ta)(hb:PD X b tb)(hc:PD X c tc)(hm:lastMarks [.LtE,.Lt] [b,c]=false:=by with_unfolding_all rfl):PD X (.Compare a [.LtE,.Lt] [b,c] pos) (tCh (λi j=>decide (i<=j)) (λi j=>decide (i<j)) ta tb tc):=PE.wk (CZ Dm yt ha hb hc hm) Ig
def Np(ta:DE):DE:=λρ P=>ta ρ λ_ d=>match d with
 |.bool b=>P .imm (.bool (!b))
 |_=>False
def KZ(ha:PD X a ta):PD X (.UnaryOp .Not a pos) (Np ta):=PE.wk (KJ ha) (by
 rintro σ H Q ⟨p,H0,own,ρ,P,E,t,q⟩
 refine⟨p,H0,own,ρ,_,E,t,λk d v H' h A r=>?_⟩
 cases d with
 |bool b=>exact⟨b,r.bl',q _ _ _ _ h A (.bl _)⟩
 |_=>exact h.elim)
def lF(ta tb:DE):DE:=λρ P=>ta ρ λ_ d=>match d with
 |.bool b=>if b=true then tb ρ P else P .imm (.bool false)
 |_=>False
def Nk(ta tb:DE):DE:=λρ P=>ta ρ λ_ d=>match d with
 |.bool b=>if b=true then P .imm (.bool true) else tb ρ P
 |_=>False
def dR{op}(h:PD X a ta):PD X (.BoolOp op [a] pos) ta:=KH h
def cX{rest:List Expr}(ha:PD X a ta)(hb:PD X (.BoolOp .And (b::rest) pos) tb):PD X (.BoolOp .And (a::b::rest) pos) (lF ta tb):=PE.wk (KR ha hb) (by
 rintro σ H Q ⟨p,H0,own,ρ,P,E,t,q⟩
 refine⟨p,H0,own,ρ,_,E,t,λk d v H' h A r=>?_⟩
 cases d with
 |bool b =>
  refine⟨b,r.bl',?_⟩
  cases b with
  |true=>exact bf ⟨p,H0,own,ρ,P,E.go A.kp A.pen,by simpa using h,λk d v H2 h2 A2 r2=>q k d v H2 h2 (A.base A2) (fX A r2)⟩
  |false=>exact bw (q _ _ _ _ (by simpa using h) A (.bl _))
 |_=>exact h.elim)
def Dc{rest:List Expr}(ha:PD X a ta)(hb:PD X (.BoolOp .Or (b::rest) pos) tb):PD X (.BoolOp .Or (a::b::rest) pos) (Nk ta tb):=PE.wk (Oi ha hb) (by
 rintro σ H Q ⟨p,H0,own,ρ,P,E,t,q⟩
 refine⟨p,H0,own,ρ,_,E,t,λk d v H' h A r=>?_⟩
 cases d with
 |bool b =>
  refine⟨b,r.bl',?_⟩
  cases b with
  |true=>exact bf (q _ _ _ _ (by simpa using h) A (.bl _))
  |false=>exact bw ⟨p,H0,own,ρ,P,E.go A.kp A.pen,by simpa using h,λk d v H2 h2 A2 r2=>q k d v H2 h2 (A.base A2) (fX A r2)⟩
 |_=>exact h.elim)
def tyD:D->String
 |.none=>"NoneType"
 |.bool _=>"bool"
 |.int _=>"int"
 |.str _=>"str"
 |.list _=>"list"
 |.tuple _=>"tuple"
 |.dict _=>"dict"
def isT(c:String)(d:D):Bool:=tyD d == c || (c == "int"&&tyD d == "bool")
def tIs(c:String)(te:DE):DE:=λρ P=>te ρ λ_ d=>P .imm (.bool (isT c d))
def cO{T:String}{x:Str}{ps pt:Pos}(hk:∀t:Value,(t=.type "NoneType"\/t=.type "bool"\/t=.type "int"\/t=.type "str"\/t=.type "list"\/t=.type "tuple"\/t=.type "dict")->∃n,t=.type n/\ŭ X.K t (.type T)=some (n == T || (T == "int"&&n == "bool")))(hm:X.mg "isinstance"=none)(he:PD X e te)(hT:PE X (.Name x pt) (tC (.ty T)))(hg:Gl X "isinstance":=by rfl)(h1:starEach [e,.Name x pt] X.env=(false,eval e X.env)::starEach [.Name x pt] X.env:=by rfl)(h2:starEach [.Name x pt] X.env=(false,eval (.Name x pt) X.env)::starEach [] X.env:=by rfl)(hpl:(backTo pos (starEach [.Name x pt] X.env)).any (·.1)=false:=by rfl) :
  PD X (.Call (.Name "isinstance" ps) [e,.Name x pt] [] pos) (tIs T te):=PE.wk (dN sX hg hm boot_isinstance (cC he (cC hT bR h2) h1) (by decide) (by decide) h1 hpl) (by
 rintro σ H Q ⟨p,H0,own,ρ,P,E,t,q⟩
 refine⟨p,H0,own,ρ,_,E,t,λk d v H' h A r=>?_⟩
 have fin:∀n,TyOf X.K H' v (.type n)->n=tyD d->∃x' c' t' b,[v,V.ty T]=[x',.ty c']/\TyOf X.K H' x' t'/\ŭ X.K t' (.type c')=some b/\Q (.bl b) H':=λn ty en=>by
  obtain⟨n',e,hk'⟩:=hk (.type n) (by rw[en];cases d <;> simp[tyD])
  cases e
  refine⟨v,T,.type n,_,rfl,ty,hk',?_⟩
  rw[en]
  exact q _ _ _ _ h A (.bl _)
 show ∃x' c' t' b,_/\_
 cases r with
 |non=>exact fin _ .non rfl
 |bl b=>exact fin _ (.bl b) rfl
 |int i=>exact fin _ (.int i) rfl
 |str x=>exact fin _ (.str x) rfl
 |lst o hh rr=>exact fin _ (.lst hh) rfl
 |tup hh rr=>exact fin _ (.tup hh) rfl
 |dct o hh rr=>exact fin _ (.dK hh) rfl)
def Io{K:Ø}:∀t:Value,(t=.type "NoneType"\/t=.type "bool"\/t=.type "int"\/t=.type "str"\/t=.type "list"\/t=.type "tuple"\/t=.type "dict")->∃n,t=.type n/\ŭ K t (.type "int")=some (n == "int" || ("int" == "int"&&n == "bool")):=by
 rintro t (rfl|rfl|rfl|rfl|rfl|rfl|rfl) <;> exact⟨_,rfl,rfl⟩
def Fd{K:Ø}:∀t:Value,(t=.type "NoneType"\/t=.type "bool"\/t=.type "int"\/t=.type "str"\/t=.type "list"\/t=.type "tuple"\/t=.type "dict")->∃n,t=.type n/\ŭ K t (.type "bool")=some (n == "bool" || ("bool" == "int"&&n == "bool")):=by
 rintro t (rfl|rfl|rfl|rfl|rfl|rfl|rfl) <;> exact⟨_,rfl,rfl⟩
def Fb{K:Ø}:∀t:Value,(t=.type "NoneType"\/t=.type "bool"\/t=.type "int"\/t=.type "str"\/t=.type "list"\/t=.type "tuple"\/t=.type "dict")->∃n,t=.type n/\ŭ K t (.type "list")=some (n == "list" || ("list" == "int"&&n == "bool")):=by
 rintro t (rfl|rfl|rfl|rfl|rfl|rfl|rfl) <;> exact⟨_,rfl,rfl⟩
def kit_tuple{K:Ø}:∀t:Value,(t=.type "NoneType"\/t=.type "bool"\/t=.type "int"\/t=.type "str"\/t=.type "list"\/t=.type "tuple"\/t=.type "dict")->∃n,t=.type n/\ŭ K t (.type "tuple")=some (n == "tuple" || ("tuple" == "int"&&n == "bool")):=by
 rintro t (rfl|rfl|rfl|rfl|rfl|rfl|rfl) <;> exact⟨_,rfl,rfl⟩
def Ml:GC:=λks P=>match ks with
 |[(_,.list ds)]=>∃bs:List Bool,ds=bs.map PyData.bool/\P .imm (.bool (bs.all id))
 |_=>False
def Rps.bools{ok:Addr->Prop}{H:Hp}:∀{vs:List V}{bs:List Bool},Rps ok H vs (bs.map PyData.bool)->vs=bs.map V.bl
 |[],[],_=>rfl
 |_,b::bs,.cons h t=>by
  have e:=h.bl'
  subst e
  rw[Rps.bools t]
  rfl
def nU{ps:Pos}(hc:X.calm=true)(hm:X.mg "all"=none)(hv:bootBuiltins "all"=some (.builtin "all"))(ha:PDA X [a] t)(hg:Gl X "all":=by rfl)(he:zS X a []:=by rfl)(hpl:zP X pos []:=by rfl):PD X (.Call (.Name "all" ps) [a] [] pos) (tCl Ml t) :=
 dW (Ba hc) (by
  intro p H0 own Hb H vs ks P Q A r t q
  unfold Ml at t
  split at t
  ·obtain⟨bs,rfl,t⟩:=t
   obtain⟨v,rfl,r'⟩:=eY r
   obtain⟨x,xs,e1,o1,h1,rs1⟩:=Rp.cJ r'
   subst e1
   have e2:=Rps.bools rs1
   subst e2
   exact⟨x,bs,rfl,SqL.of h1,q _ _ _ _ t Kp.refl A.pen (.bl _)⟩
  ·exact t.elim) hg hm hv ha (by decide) (by decide) he hpl
def gMM(f:Int->Int->Int):GC:=λks P=>match ks with
 |[(_,.int i),(_,.int j)]=>P .imm (.int (f i j))
 |_=>False
def Hu{ps:Pos}(hc:X.calm=true)(hm:X.mg "max"=none)(ha:PDA X [a,b] t)(hg:Gl X "max":=by rfl)(he:starEach [a,b] X.env=(false,eval a X.env)::starEach [b] X.env:=by rfl)(hpl:(backTo pos (starEach [b] X.env)).any (·.1)=false:=by rfl):PD X (.Call (.Name "max" ps) [a,b] [] pos) (tCl (gMM λi j=>if j > i then j else i) t) :=
 dW (Ay hc) (by
  intro p H0 own Hb H vs ks P Q A r t q
  unfold gMM at t
  split at t
  ·rename_i k i k' j
   obtain⟨v,w,rfl,r1,r2⟩:=Ks r
   rw[Rp.int' r1,Rp.int' r2]
   exact⟨i,j,rfl,q _ _ _ _ t Kp.refl A.pen (.int _)⟩
  ·exact t.elim) hg hm boot_max ha (by decide) (by decide) he hpl
def Ip:GC:=λks P=>match ks with
 |[(k,.list ds)]=>newP k ds λk'=>P k' (.list ds)
 |[(k,.tuple ds)]=>newP k ds λk'=>P k' (.list ds)
 |_=>False
def qX{ps:Pos}(hm:X.mg "list"=none)(ha:PDA X [a] t)(hg:Gl X "list":=by rfl)(he:zS X a []:=by rfl)(hpl:zP X pos []:=by rfl):PD X (.Call (.Name "list" ps) [a] [] pos) (tCl Ip t) :=
 nR sV (by
  intro p H0 own Hb H vs ks P Q A r t q
  have fin:∀{k ds xs},Rps (okK p H0 own Hb k) H xs ds->newP k ds (λk'=>P k' (.list ds))->∀l,H l=none->Q (.ref l) (upd H l (.lst xs)):=λ{k ds xs} rs t l hl=>by
   obtain⟨k2,i2,nw⟩:=A.new hl (.lst xs)
   obtain⟨k',hk',rk'⟩:=gj A (aR A k2 rs) nw ao t
   exact q _ _ _ _ hk' k2 i2 rk'
  unfold Ip at t
  split at t
  ·obtain⟨v,rfl,r'⟩:=eY r
   obtain⟨x,xs,e1,o1,h1,rs1⟩:=Rp.cJ r'
   subst e1
   exact⟨x,xs,rfl,.inl (SqL.of h1),fin rs1 t⟩
  ·obtain⟨v,rfl,r'⟩:=eY r
   obtain⟨x,xs,e1,h1,rs1⟩:=Rp.fW r'
   subst e1
   exact⟨x,xs,rfl,.inr (SqT.of h1),fin rs1 t⟩
  ·exact t.elim) hg hm boot_list ha (by decide) (by decide) he hpl
def Fl:GC:=λks P=>match ks with
 |[(k,.list ds)]=>P (norm k (.tuple ds)) (.tuple ds)
 |[(k,.tuple ds)]=>P (norm k (.tuple ds)) (.tuple ds)
 |_=>False
def iT{ps:Pos}(hm:X.mg "tuple"=none)(ha:PDA X [a] t)(hg:Gl X "tuple":=by rfl)(he:zS X a []:=by rfl)(hpl:zP X pos []:=by rfl):PD X (.Call (.Name "tuple" ps) [a] [] pos) (tCl Fl t) :=
 nR pG (by
  intro p H0 own Hb H vs ks P Q A r t q
  unfold Fl at t
  split at t
  ·rename_i k ds
   obtain⟨v,rfl,r'⟩:=eY r
   obtain⟨x,xs,e1,o1,h1,rs1⟩:=Rp.cJ r'
   subst e1
   refine⟨x,xs,rfl,.inl ⟨SqL.of h1,λl hl=>?_⟩⟩
   obtain⟨k2,i2,nw⟩:=A.new hl (.tup xs)
   exact q _ _ _ _ t k2 i2 (aM (.tup ao (aR A k2 rs1)))
  ·rename_i k ds
   obtain⟨v,rfl,r'⟩:=eY r
   obtain⟨x,xs,e1,h1,rs1⟩:=Rp.fW r'
   subst e1
   exact⟨x,xs,rfl,.inr ⟨SqT.of h1,q _ _ _ _ t Kp.refl A.pen (aM r')⟩⟩
  ·exact t.elim) hg hm boot_tuple ha (by decide) (by decide) he hpl
def wQ:GC:=λks P=>match ks with
 |[(_,d)]=>∃ts:List Tie,(d=.list (ts.map pD)\/d=.tuple (ts.map pD))/\ts.length<64/\(∀t∈ts,vB t)/\∀us:List Tie,us.Perm ts->us.Pairwise (λa b=>aN a<=aN b)->P .new (.list (us.map pD))
 |_=>False
def Rps.prs{ok:Addr->Prop}{H:Hp}:∀{vs:List V}{ts:List Tie},Rps ok H vs (ts.map pD)->Prs H vs ts
 |[],[],_=>.nil
 |_,t::ts,.cons h r=>by
  obtain⟨x,xs,e,hx,rs⟩:=Rp.fW h
  obtain⟨v1,v2,e2,q1,q2⟩:=Rps.two rs
  subst e e2
  rw[q1.int',q2.int'] at hx
  exact .cons ⟨x,rfl,hx⟩ (Rps.prs r)
def Prs.rps{ok:Addr->Prop}{H:Hp}:∀{vs:List V}{ts:List Tie},Prs H vs ts->Rps ok H vs (ts.map pD)
 |_,_,.nil=>.nil
 |_,_,.cons r t=>by
  obtain⟨x,e,hx⟩:=r
  subst e
  exact .cons (.tup hx (.cons (.int _) (.cons (.int _) .nil))) (Prs.rps t)
def gZ{ps:Pos}(hm:X.mg "sorted"=none)(ha:PDA X [a] t)(hg:Gl X "sorted":=by rfl)(he:zS X a []:=by rfl)(hpl:zP X pos []:=by rfl):PD X (.Call (.Name "sorted" ps) [a] [] pos) (tCl wQ t) :=
 dW sU (by
  intro p H0 own Hb H vs ks P Q A r t q
  unfold wQ at t
  split at t
  ·obtain⟨ts,hd,hl,hn,t⟩:=t
   obtain⟨v,rfl,r'⟩:=eY r
   have fin:∀l ws us,H l=none->Prs H ws us->us.Perm ts->us.Pairwise (λa b=>aN a<=aN b)->Q (.ref l) (upd H l (.lst ws)):=λl ws us hl' pr hp hs=>by
    obtain⟨k2,i2,nw⟩:=A.new hl' (.lst ws)
    exact q _ _ _ _ (t us hp hs) k2 i2 (.lst nw ao (aR A k2 (Prs.rps pr)))
   rcases hd with rfl|rfl
   ·obtain⟨x,xs,e1,o1,h1,rs1⟩:=Rp.cJ r'
    subst e1
    exact⟨x,xs,ts,rfl,.inl (SqL.of h1),Rps.prs rs1,hn,.inl hl,fin⟩
   ·obtain⟨x,xs,e1,h1,rs1⟩:=Rp.fW r'
    subst e1
    exact⟨x,xs,ts,rfl,.inr (SqT.of h1),Rps.prs rs1,hn,.inl hl,fin⟩
  ·exact t.elim) hg hm boot_sorted ha (by decide) (by decide) he hpl
end
variable [Gr]
section
variable {X:Cx}{pins:List (Addr×Obj)}{σ:L2.St}{H:Hp}{s:Shared}{ok:Addr->Prop}
mutual
def Rp.reads(I:Inv X pins σ H s):∀{v:V}{d:D}{u:Value},Rp ok H v d->RelV v u->d.canLay0=true->∃as,Reads s.heap u d as
 |_,_,_,.non,r,_=>by cases r;exact⟨_,.none⟩
 |_,_,_,.bl b,r,_=>by cases r;exact⟨_,.bool b⟩
 |_,_,_,.int i,r,_=>by obtain⟨t,rfl⟩:=r;exact⟨_,.int i t⟩
 |_,_,_,.str x,r,_=>by obtain⟨t,rfl⟩:=r;exact⟨_,.str x t⟩
 |_,_,_,.lst o h rs,r,c=>by
  cases r
  obtain⟨its,rv,pl,_⟩:=I.list (SqL.of h)
  obtain⟨as,ra⟩:=Rps.reads I rs rv (by simpa[PyData.canLay0] using c)
  obtain⟨ob,ho,hc,n,hd⟩:=pl.isList
  exact⟨_,.list ho hc hd (by simpa using ra)⟩
 |_,_,_,.tup h rs,r,c=>by
  cases r
  obtain⟨its,rv,pl,_⟩:=I.tuple (SqT.of h)
  obtain⟨as,ra⟩:=Rps.reads I rs rv (by simpa[PyData.canLay0] using c)
  obtain⟨ob,ho,hc,n,hd⟩:=pl
  exact⟨_,.tuple ho hc hd (by simpa using ra)⟩
 |_,_,_,.dct o h rs,r,c=>by simp[PyData.canLay0] at c
def Rps.reads(I:Inv X pins σ H s):∀{v:List V}{d:List D}{u:List Value},Rps ok H v d->Vals v u->Ġ d=true->∃as,ReadsAll s.heap u d as
 |_,_,_,.nil,r,_=>by cases r;exact⟨[],.nil⟩
 |_,_,_,.cons h t,r,c=>by
  cases r with
  |cons a b =>
   simp only[Ġ,Ý] at c
   obtain⟨as,ra⟩:=Rp.reads I h a c.1
   obtain⟨bs,rb⟩:=Rps.reads I t b c.2
   exact⟨_,.cons ra rb⟩
end
end
def okD(d:D):Bool:=d.canLay0&&decide (d.depth<=60)
section
variable {X:Cx}{pos:Pos}{a b e:Expr}{ta tb te:DE}
def Cq(K:Ø)(neg:Bool):R2:=λx y H Q=>∃ok ok' d e,Rp ok H x d/\Rp ok' H y e/\okD d=true/\okD e=true/\Q (.bl (if neg then !(Ė d e) else Ė d e)) H
def Dt(hu:X.A.units+64<cLine):OpR X (compareOp .Eq) (Cq X.K false):=by
 intro pins s σ H x y v u Q I rx ry h
 obtain⟨ok,ok',d,e,hd,he,cd,ce,q⟩:=h
 simp only[okD,Ý,decide_eq_true_eq] at cd ce
 obtain⟨as,ra⟩:=hd.reads I rx cd.1
 obtain⟨bs,rb⟩:=he.reads I ry ce.1
 exact SeqAt.compareEq_reads ra rb cd.1 ce.1 (by omega) ⟨.bl _,H,I,rfl,q⟩
def wj(hu:X.A.units+64<cLine):OpR X (compareOp .NotEq) (Cq X.K true):=by
 intro pins s σ H x y v u Q I rx ry h
 obtain⟨ok,ok',d,e,hd,he,cd,ce,q⟩:=h
 simp only[okD,Ý,decide_eq_true_eq] at cd ce
 obtain⟨as,ra⟩:=hd.reads I rx cd.1
 obtain⟨bs,rb⟩:=he.reads I ry ce.1
 exact SeqAt.compareNe_reads ra rb cd.1 ce.1 (by omega) ⟨.bl _,H,I,rfl,q⟩
def Pg(neg:Bool):G2:=λ_ d1 _ d2 P=>okD d1=true/\okD d2=true/\P .imm (.bool (if neg then !(Ė d1 d2) else Ė d1 d2))
def JC{K:Ø}(neg:Bool):Ok2 (Pg neg) (Cq K neg):=by
 intro p H0 own Hb H x y k1 d1 k2 d2 P Q A r1 r2 t q
 exact⟨_,_,d1,d2,r1,r2,t.1,t.2.1,q _ _ _ _ t.2.2 Kp.refl A.pen (.bl _)⟩
def eqP(x:D)(h:Heap)(u:Value):Bool:=by
 classical
 exact decide (∃d as,Reads h u d as/\Ė d x=true)
def Oa(neg:Bool):R2:=λx y H Q=>∃ok ok' d es,Rp ok H x d/\(Rp ok' H y (.list es)\/Rp ok' H y (.tuple es))/\okD d=true/\(es.all okD)=true/\Q (.bl (if neg then !(es.any λe=>Ė e d) else es.any λe=>Ė e d)) H
def FT{x:D}{h:Heap}{u:Value}{d:D}{as:List Addr}(r:Reads h u d as):eqP x h u=Ė d x:=by
 classical
 unfold eqP
 rw[į,decide_eq_true_eq]
 constructor
 ·rintro⟨d',as',r',e⟩
  rw[(r.unique d' as' r').1]
  exact e
 ·exact λe=>⟨d,as,r,e⟩
def sY{x:D}{h:Heap}:∀{us:List Value}{ds:List D}{as:List Addr},ReadsAll h us ds as->us.any (eqP x h)=ds.any λe=>Ė e x
 |_,_,_,.nil=>rfl
 |_,_,_,.cons a b=>by
  rw[List.any_cons,List.any_cons,FT a,sY b]
def rJ{A:Around}{s:Shared}{x:D}{v:Value}{bs:List Addr}(rx:Reads s.heap v x bs)(cx:okD x=true)(hu:A.units+60<cLine):∀{us:List Value}{ds:List D}{as:List Addr},ReadsAll s.heap us ds as->ds.all okD=true->∀u∈us,SeqAt.EqAt A s u v (eqP x s.heap u)
 |_,_,_,.nil,_,u,hu'=>nomatch hu'
 |_,d::ds,_,.cons a b,c,u,hu'=>by
  simp only[List.all_cons,Ý] at c
  rcases Ē.mp hu' with rfl|hu'
  ·rw[FT a]
   have c1:=c.1
   simp only[okD,Ý,decide_eq_true_eq] at c1 cx
   exact SeqAt.eqAt_reads _ _ A s _ _ _ _ a rx c1.1 cx.1 (by omega)
  ·exact rJ rx cx hu b c.2 u hu'
def uR{A:Around}(hu:A.units+64<cLine):A.in1.units+60<cLine:=by
 have:A.in1.units<=A.units+1:=by first|exact Å _|exact Ĥ _|(unfold Around.in1;simp)
 omega
def rQ:∀{es:List D},es.all okD=true->Ġ es=true
 |[],_=>rfl
 |e::es,h=>by
  simp only[List.all_cons,Ý,okD] at h
  simp only[Ġ,Ý]
  exact⟨h.1.1,rQ h.2⟩
def Dq(hu:X.A.units+64<cLine):OpR X (compareOp .In) (Oa false):=by
 intro pins s σ H x y v u Q I rx ry h
 obtain⟨ok,ok',d,es,hd,hs,cd,ce,q⟩:=h
 have cd':=cd
 simp only[okD,Ý,decide_eq_true_eq] at cd'
 obtain⟨bs,rb⟩:=hd.reads I rx cd'.1
 rcases hs with hs|hs
 ·obtain⟨c,vs,rfl,o,hc,rs⟩:=hs.cJ
  cases ry
  obtain⟨its,r,pl,hz⟩:=I.list (SqL.of hc)
  obtain⟨as,ra⟩:=rs.reads I r (rQ ce)
  refine SeqAt.in_listAt (eqP d s.heap) pl.isList (λw hw=>rJ rb cd (uR hu) ra ce w (by simpa using hw)) ⟨.bl _,H,I,rfl,?_⟩
  rw[show its.toArray.any (eqP d s.heap)=its.any (eqP d s.heap) by simp,sY ra]
  exact q
 ·obtain⟨c,vs,rfl,hc,rs⟩:=hs.fW
  cases ry
  obtain⟨its,r,pl,hz⟩:=I.tuple (SqT.of hc)
  obtain⟨as,ra⟩:=rs.reads I r (rQ ce)
  refine SeqAt.in_tupleAt (eqP d s.heap) pl (λw hw=>rJ rb cd (uR hu) ra ce w (by simpa using hw)) ⟨.bl _,H,I,rfl,?_⟩
  rw[show its.toArray.any (eqP d s.heap)=its.any (eqP d s.heap) by simp,sY ra]
  exact q
def gIn(neg:Bool):G2:=λ_ d1 _ d2 P=>match d2 with
 |.list es=>okD d1=true/\es.all okD=true/\P .imm (.bool (if neg then !(es.any λe=>Ė e d1) else es.any λe=>Ė e d1))
 |.tuple es=>okD d1=true/\es.all okD=true/\P .imm (.bool (if neg then !(es.any λe=>Ė e d1) else es.any λe=>Ė e d1))
 |_=>False
def okIn(neg:Bool):Ok2 (gIn neg) (Oa neg):=by
 intro p H0 own Hb H x y k1 d1 k2 d2 P Q A r1 r2 t q
 cases d2 with
 |list es=>exact⟨_,_,d1,es,r1,.inl r2,t.1,t.2.1,q _ _ _ _ t.2.2 Kp.refl A.pen (.bl _)⟩
 |tuple es=>exact⟨_,_,d1,es,r1,.inr r2,t.1,t.2.1,q _ _ _ _ t.2.2 Kp.refl A.pen (.bl _)⟩
 |_=>exact t.elim
def Jw(hu:X.A.units+64<cLine)(ha:PD X a ta)(hb:PD X b tb)(hm:behindInMarks .In b=false:=by rfl):PD X (.Compare a [.In] [b] pos) (t2 (gIn false) ta tb):=gb (Dq hu) (okIn false) ha hb hm
def qR(hu:X.A.units+64<cLine)(ha:PD X a ta)(hb:PD X b tb)(hm:behindInMarks .In b=false:=by rfl):PDT X (.Compare a [.In] [b] pos) (cN (t2 (gIn false) ta tb)):=eN (Dq hu) (okIn false) ha hb hm
end
variable [Gr]
section
variable {X:Cx}{pos p2:Pos}{a b c e:Expr}{es:List Expr}{ta tb tc te:DE}{t:DA}{st:Stmt}
abbrev DO:=List Sl->(Option Int->Prop)->Prop
def oK(t:DO):TO:=λσ H Q=>∃p H0 own ρ P,EnvD p H0 own σ H ρ/\t ρ P/\∀o H',P o->At p H0 own H H'->Q o H'
def PO.wk{e:Option Expr}{t t':TO}(h:PO X e t)(w:∀σ H Q,t' σ H Q->t σ H Q):PO X e t':=λpins s σ H Q I q=>h pins s σ H Q I (w σ H Q q)
def JK:DO:=λ_ P=>P none
def JH(te:DE):DO:=λρ P=>te ρ λ_ d=>match d with
 |.int i=>P (some i)
 |_=>False
def bZ:PO X none (oK JK):=PO.wk Hh (by
 rintro σ H Q ⟨p,H0,own,ρ,P,E,t,q⟩
 exact q _ _ t E.at)
def bY(h:PD X e te):PO X (some e) (oK (JH te)):=PO.wk (Hg h) (by
 rintro σ H Q ⟨p,H0,own,ρ,P,E,t,q⟩
 refine⟨p,H0,own,ρ,_,E,t,λk d v H' h A r=>?_⟩
 cases d with
 |int i=>exact⟨i,r.int',q _ _ h A⟩
 |_=>exact h.elim)
def dg{α:Type}(ds:List α)(lo hi:Option Int):List α:=(ds.drop (HT.sIx ds.length 0 lo)).take (HT.sIx ds.length ds.length hi - HT.sIx ds.length 0 lo)
def Rps.cut{ok:Addr->Prop}{H:Hp}{vs:List V}{ds:List D}(r:Rps ok H vs ds)(lo hi:Option Int):Rps ok H (oY vs lo hi) (dg ds lo hi):=by
 unfold oY dg
 rw[r.length]
 exact(r.drop _).take _
def Qf(te:DE)(tl th:DO):DE:=λρ P=>te ρ λk d=>tl ρ λlo=>th ρ λhi=>match d with
 |.list ds=>newP k (dg ds lo hi) λk'=>P k' (.list (dg ds lo hi))
 |_=>False
def vY{lo hi:Option Expr}{tl th:DO}(he:PD X e te)(hl:PO X lo (oK tl))(hh:PO X hi (oK th)):PD X (.Subscript e (.Slice lo hi none p2) pos) (Qf te tl th):=PE.wk (uz xP he hl hh) (by
 rintro σ H Q ⟨p,H0,own,ρ,P,E,t,q⟩
 refine⟨p,H0,own,ρ,_,E,t,λk d v H1 h A r=>?_⟩
 refine⟨p,H0,own,ρ,_,E.go A.kp A.pen,h,λo1 H2 h2 A2=>?_⟩
 refine⟨p,H0,own,ρ,_,(E.go A.kp A.pen).go A2.kp A2.pen,h2,λo2 H3 h3 A3=>?_⟩
 have A4:=(A.base A2).base A3
 have r3:=gR (A.base A2) A3.kp (gR A A2.kp r)
 cases d with
 |list ds =>
  obtain⟨x,xs,e1,o,h1,rs⟩:=Rp.cJ r3
  subst e1
  refine⟨x,xs,rfl,SqL.of h1,λl hl=>?_⟩
  obtain⟨k2,i2,nw⟩:=A4.new hl (.lst (oY xs o1 o2))
  obtain⟨k',hk',rk'⟩:=gj A4 (aR A4 k2 (rs.cut o1 o2)) nw ao h3
  exact q _ _ _ _ hk' (A4.go k2 i2) rk'
 |_=>exact h3.elim)
def Iu:G2:=λk1 d1 k2 d2 P=>match d1,d2 with
 |.list ds,.list es=>ds.length+es.length<=1000/\newP (k1.join k2) (ds++es) λk=>P k (.list (ds++es))
 |_,_=>False
def DY:Ok2 Iu Oc:=by
 intro p H0 own Hb H x y k1 d1 k2 d2 P Q A r1 r2 t q
 unfold Iu at t
 split at t
 ·obtain⟨c1,xs,e1,o1,h1,rs1⟩:=r1.cJ
  obtain⟨c2,ys,e2,o2,h2,rs2⟩:=r2.cJ
  subst e1 e2
  have h24:=ì
  refine⟨c1,c2,xs,ys,rfl,rfl,h1,h2,by rw[rs1.length,rs2.length];omega,λl hl=>?_⟩
  obtain⟨k3,i3,nw⟩:=A.new hl (.lst (xs++ys))
  have j:=cH k1 k2
  have m:∀{k vs ds},k.le (k1.join k2)=true->Rps (okK p H0 own Hb k) H vs ds->Rps (okK p H0 own Hb (k1.join k2)) H vs ds:=λhk z=>z.mono (λa o=>aX A hk o) (λ_ _ _ e=>e) λ_ _ e=>e
  obtain⟨k',hk',rk'⟩:=gj A (aR A k3 ((m j.1 rs1).app (m j.2 rs2))) nw ao t.2
  exact q _ _ _ _ hk' k3 i3 rk'
 ·exact t.elim
def Dh(ha:PD X a ta)(hb:PD X b tb):PD X (.BinOp a .Add b pos) (t2 Iu ta tb):=nO wu DY ha hb
def Fq:G2:=λk1 d1 k2 d2 P=>match d1,d2 with
 |.tuple ds,.tuple es=>ds.length+es.length<=1000/\P (norm (k1.join k2) (.tuple (ds++es))) (.tuple (ds++es))
 |_,_=>False
def DX:Ok2 Fq Ju:=by
 intro p H0 own Hb H x y k1 d1 k2 d2 P Q A r1 r2 t q
 unfold Fq at t
 split at t
 ·obtain⟨c1,xs,e1,h1,rs1⟩:=r1.fW
  obtain⟨c2,ys,e2,h2,rs2⟩:=r2.fW
  subst e1 e2
  have h24:=ì
  refine⟨c1,c2,xs,ys,rfl,rfl,h1,h2,by rw[rs1.length,rs2.length];omega,λl H' sm hl=>?_⟩
  have K:Kp p H H':=Kp.of sm
  have j:=cH k1 k2
  have m:∀{k vs ds},k.le (k1.join k2)=true->Rps (okK p H0 own Hb k) H vs ds->Rps (okK p H0 own Hb (k1.join k2)) H vs ds:=λhk z=>z.mono (λa o=>aX A hk o) (λ_ _ _ e=>e) λ_ _ e=>e
  exact q _ _ _ _ t.2 K (p.mono H H' A.pen λb o _ e=>sm b o e) (aM (.tup hl (aR A K ((m j.1 rs1).app (m j.2 rs2)))))
 ·exact t.elim
def Ql(ta:DE):DE:=λρ P=>ta ρ λ_ d=>match d with
 |.int i=>P .imm (.int (-i))
 |_=>False
def K1(ha:PD X a ta):PD X (.UnaryOp .USub a pos) (Ql ta):=PE.wk (Oh J1 ha) (by
 rintro σ H Q ⟨p,H0,own,ρ,P,E,t,q⟩
 refine⟨p,H0,own,ρ,_,E,t,λk d v H' h A r=>?_⟩
 cases d with
 |int i=>exact⟨i,r.int',q _ _ _ _ h A (.int _)⟩
 |_=>exact h.elim)
def Mx(i:Nat)(te:DE):DS:=λP ρ=>match ρ[i]? with
 |some (.dw r (.list ds))=>te ρ λk d=>match d with
  |.list es=>(k.le .new || cM es)=true/\ds.length+es.length<=1000/\P.nx ((forget r ρ).set i (.dw r (.list (ds++es))))
  |_=>False
 |_=>False
def yx{te:DE}{ρ:List Sl}{R:Kd->D->Prop}(t:te ρ R):iI te tu ρ (λks=>∃k d,ks=[(k,d)]/\R k d):=by
 show te ρ λk d=>∃k' d',[((k,d):Kd×D)]=[(k',d')]/\R k' d'
 have e:(λk d=>∃k' d',[((k,d):Kd×D)]=[(k',d')]/\R k' d')=R:=by
  funext k d
  apply propext
  constructor
  ·rintro⟨k',d',e,h⟩
   cases e
   exact h
  ·exact λh=>⟨k,d,rfl,h⟩
 rw[e]
 exact t
def ur{ok ok':Addr->Prop}{H H2:Hp}(f:∀{w:V}{d:D},Rp ok H w d->Rp ok' H2 w d):∀{vs:List V}{ds:List D},Rps ok H vs ds->Rps ok' H2 vs ds
 |_,_,.nil=>.nil
 |_,_,.cons h t=>.cons (f h) (ur f t)
end
variable [Gr]
structure Cal(P:Program)(w:World)(K:Ø)(mg:Str->Option Value)(base:Heap)(k:Nat)(x:Str)(ps:List Str)(sp:Sp):Prop where
 ex:∃f fd,FnOk P w K mg base CX0 k f fd ps sp/\Binds K fd ps []/\W.keepIn K (.ref f)=true/\mg x=some (.ref f)
section
variable {X:Cx}{k j:Nat}{x:Str}{ps:List Str}{e:Expr}{es:List Expr}{t:DA}{p pos pq:Pos}
def pcS{sp:Sp}{ta:TA}(C:Cal X.prog X.w X.K X.mg X.base k x ps sp)(hr:Room j X.A)(ha:PA X (e::es) ta)(hk:k<=j)(hg:Gl X x)(hdb:zB x)(he:zS X e es)(hpl:zP X pos es) :
  PE X (.Call (.Name x p) (e::es) [] pos) (tX sp [] E0 ta):=by
 obtain⟨f,fd,F,b,kp,m⟩:=C.ex
 exact Ht F (hr.mono hk) hg m kp b .nil Oo ha hdb he hpl
def dc{f:List D->(D->Prop)->Prop}(C:Cal X.prog X.w X.K X.mg X.base k x ps (spD f))(hr:Room j X.A)(ha:PDA X (e::es) t)(hk:k<=j:=by decide)(hg:Gl X x:=by rfl)(hdb:zB x:=by decide)(he:zS X e es:=by rfl)(hpl:zP X pos es:=by rfl) :
  PD X (.Call (.Name x p) (e::es) [] pos) (tFn f t):=PE.wk (pcS C hr ha hk hg hdb he hpl) rN
def dv(i:Nat){x:Str}{pos:Pos}(hN:X.N[i]?=some x:=by rfl)(hv:Vis X.env.scope x:=by first|exact Ň rfl|exact Or.inr (Ň rfl)|exact Or.inr (Or.inr rfl))(hd:zB x:=by decide)(hcd:(x == ("__classdict__":Str))=false:=by decide):PD X (.Name x pos) (tV i):=KY (pv i hN hv hd hcd)
end
structure Bn(mg:Str->Option Value):Prop where
 isinstance:mg "isinstance"=none
 int:mg "int"=none
 bool:mg "bool"=none
 tuple:mg "tuple"=none
 list:mg "list"=none
 len:mg "len"=none
 all:mg "all"=none
 min:mg "min"=none
 max:mg "max"=none
 sorted:mg "sorted"=none
 range:mg "range"=none
 abs:mg "abs"=none
def boot_all:bootBuiltins "all"=some (.builtin "all"):=by decide +kernel
def Bw{i:Nat}{ρ:List Sl}{d:D}{P:DK}(h:ρ[i]?=some (aG d))(q:∀k,P k d):tV i ρ P:=by
 unfold tV
 rw[h]
 unfold aG
 by_cases hi:cQ d=true
 ·rw[if_pos hi];exact q _
 ·rw[if_neg hi];exact q _
def Ih{f:List D->(D->Prop)->Prop}{n:Nat}(hn:∀ds P,f ds P->ds.length=n:=by intro _ _ h;repeat (first|(obtain⟨rfl,_⟩:=h;rfl)|obtain⟨_,h⟩:=h)):∀vs H Q E,spD f vs H Q E->vs.length=n:=λvs H Q E h=>by
 obtain⟨ds,P,r,t,_⟩:=h
 rw[r.length]
 exact hn ds P t
def bC{f:List D->(D->Prop)->Prop}{T:DS}{N:List Str}{vs:List V}{H:Hp}{Q:VK}{E:XK}(h:spD f vs H Q E)(body:∀ds P,f ds P->∃ρ,ds.map aG++Ï (N.length - ds.length) .any=ρ/\T { nx:=λ_=>P .none,rt:=P } ρ)(g:Gr.G gG H:=by trivial):pW T { nx:=λ_ H'=>Q .non H',rt:=Q } (L2.start N vs) H :=
 sH h (λds P t=>by
  obtain⟨ρ,e,q⟩:=body ds P t
  rw[e]
  exact q) g
def aF(n:Int)(us:List Tie):D:=.tuple [.int n,.tuple (us.map pD)]
def iY(n:Int)(us:List Tie):cQ (aF n us)=true:=by
 show(cQ (.int n)&&(cM (us.map pD)&&true))=true
 rw[kO]
 rfl
def Jm(n:Int)(us:List Tie):aG (aF n us)=.im (aF n us):=if_pos (iY n us)
def isW:D->Bool
 |.int _=>true
 |_=>false
def wR(ds:List D)(P:D->Prop):Prop:=∃d,ds=[d]/\P (.bool (isW d))
def dh(m:Int):D->Bool
 |.int i=>decide (0<=i/\i<m)
 |_=>false
def wU(ds:List D)(P:D->Prop):Prop:=∃m d,ds=[.int m,d]/\P (.bool (dh m d))
variable [Gr]
def IK{α β:Type}{ds:List α}{i:Nat}{d:α}(p:α->Bool)(f:α->β)(h:ds[i]?=some d):((ds.take (i+1)).filter p).map f=((ds.take i).filter p).map f++(if p d=true then [f d] else []):=by
 rw[Ĕ,h,Ŭ,â]
 congr 1
 by_cases hp:p d=true
 ·simp[hp]
 ·simp[hp]
def rK{α β:Type}{ds:List α}{i:Nat}{d:α}(f:α->β)(h:ds[i]?=some d):(ds.take (i+1)).map f=(ds.take i).map f++[f d]:=by
 rw[Ĕ,h,â]
 rfl
def jL{α β:Type}{l:List α}{g:α->β}{i:Nat}{d:β}(h:(l.map g)[i]?=some d):∃x,l[i]?=some x/\g x=d:=by
 rw[Þ] at h
 cases e:l[i]? with
 |none=>rw[e] at h;cases h
 |some x=>rw[e] at h;exact⟨x,rfl,ß h⟩
def take_all{α:Type}(l:List α){n:Nat}(h:l.length<=n):l.take n=l:=Ģ h
def rC:∀l:List Int,(l.map Í).all okD=true
 |[]=>rfl
 |x::l=>by
  rw[ë,List.all_cons,rC l]
  rfl
def any_ints(x:Int):∀l:List Int,((l.map Í).any λe=>Ė e (.int x))=decide (x∈l)
 |[]=>rfl
 |y::l=>by
  rw[ë,List.any_cons,any_ints x l]
  have e:Ė (.int y) (.int x)=(y == x):=rfl
  rw[e,į,Bool.or_eq_true,beq_iff_eq,decide_eq_true_eq,decide_eq_true_eq,List.mem_cons]
  constructor
  ·rintro(h|h)
   ·exact .inl h.symm
   ·exact .inr h
  ·rintro(h|h)
   ·exact .inl h.symm
   ·exact .inr h
def bN(lo:Int)(n:Nat):(cV lo n).length=n:=by unfold cV;simp
def dH{lo:Int}{n i:Nat}{d:D}(h:(cV lo n)[i]?=some d):i<n/\d=.int (lo+((i:Nat):Int)):=by
 unfold cV at h
 obtain⟨x,hx,e⟩:=jL h
 obtain⟨h1,h2⟩:=Ö.mp hx
 have h3:i<n:=by simpa using h1
 have h4:x=i:=by simpa using h2.symm
 subst h4
 exact⟨h3,e.symm⟩
variable [Gr]
section
variable {X:Cx}{pos p2:Pos}{a b e:Expr}{ta tb te:DE}
def Rps.rep{ok:Addr->Prop}{H:Hp}{vs:List V}{ds:List D}(r:Rps ok H vs ds):∀k:Nat,Rps ok H (Ï k vs).flatten (Ï k ds).flatten
 |0=>.nil
 |k+1=>by
  rw[Ĳ,Ĳ,œ,œ]
  exact r.app (Rps.rep r k)
def Mi:G2:=λk1 d1 _ d2 P=>match d1,d2 with
 |.list ds,.int k=>0<=k/\k<1000/\ds.length * k.toNat<=1000/\newP k1 (Ï k.toNat ds).flatten λk'=>P k' (.list (Ï k.toNat ds).flatten)
 |_,_=>False
def Jz:Ok2 Mi N6:=by
 intro p H0 own Hb H x y k1 d1 k2 d2 P Q A r1 r2 t q
 unfold Mi at t
 split at t
 ·rename_i ds k
  obtain⟨c1,xs,e1,o1,h1,rs1⟩:=r1.cJ
  subst e1
  have h24:=ì
  refine⟨c1,k,xs,rfl,r2.int',h1,by omega,by omega,by rw[rs1.length];omega,λl hl=>?_⟩
  obtain⟨k3,i3,nw⟩:=A.new hl (.lst (Ï k.toNat xs).flatten)
  obtain⟨k',hk',rk'⟩:=gj A (aR A k3 (rs1.rep k.toNat)) nw ao t.2.2.2
  exact q _ _ _ _ hk' k3 i3 rk'
 ·exact t.elim
end
def yg(ns:List Int):∀k,k<=ns.length->PySem.preSum (λi=>ns.getD i 0) k=(ns.take k).sum
 |0,_=>rfl
 |k+1,h=>by
  show PySem.preSum _ k+ns.getD k 0=_
  have hk:k<ns.length:=by omega
  have e:ns.take (k+1)=ns.take k++[ns[k]]:=by rw[Ĕ,Ä hk];rfl
  have e2:ns.getD k 0=ns[k]:=by rw[Ü,Ä hk];rfl
  rw[yg ns k (by omega),e,e2,List.sum_append,Ķ,List.sum_nil,Int.add_zero]
section
variable {X:Cx}{pos:Pos}{a:Expr}{t:DA}
variable [Gr]
def boot_sum:bootBuiltins "sum"=some (.builtin "sum"):=by decide +kernel
end
variable [Gr]
section
variable {X:Cx}{pos:Pos}{a b e:Expr}{ta tb te:DE}
def nQ{x:Str}{i:Int}{u:Value}{ps:Pos}(hg:Gl X x)(hm:X.mg x=some u)(r:RelV (.int i) u)(hd:zB x:=by decide):PD X (.Name x ps) (tK (.int i)):=g8 (Hr hg hm r hd) λ_=>.int i
def GX(te:DE):DE:=λρ P=>te ρ λ_ d=>P .imm (.bool (tyD d == "list" || tyD d == "tuple"))
def LC{K:Ø}(d:D):W.kitAny K (.type (tyD d)) [.type "list",.type "tuple"]=some (tyD d == "list" || tyD d == "tuple"):=by
 cases d <;> rfl
def qZ{x y:Str}{ps pt pt' pp:Pos}{kk:Nat}(hm:X.mg "isinstance"=none)(he:PD X e te)(hT:PE X (.Name x pt) (tC (.ty "list")))(hT':PE X (.Name y pt') (tC (.ty "tuple")))(hg:Gl X "isinstance":=by rfl)(h1:starEach [e,.Tuple [.Name x pt,.Name y pt'] kk pp] X.env=(false,eval e X.env)::starEach [.Tuple [.Name x pt,.Name y pt'] kk pp] X.env:=by rfl)(h2:starEach [.Tuple [.Name x pt,.Name y pt'] kk pp] X.env=(false,eval (.Tuple [.Name x pt,.Name y pt'] kk pp) X.env)::starEach [] X.env:=by rfl)(h3:starEach [.Name x pt,.Name y pt'] X.env=(false,eval (.Name x pt) X.env)::starEach [.Name y pt'] X.env:=by rfl)(h4:starEach [.Name y pt'] X.env=(false,eval (.Name y pt') X.env)::starEach [] X.env:=by rfl)(hpl:(backTo pos (starEach [.Tuple [.Name x pt,.Name y pt'] kk pp] X.env)).any (·.1)=false:=by rfl) :
  PD X (.Call (.Name "isinstance" ps) [e,.Tuple [.Name x pt,.Name y pt'] kk pp] [] pos) (GX te):=PE.wk (dN sW hg hm boot_isinstance (cC he (cC (vU (cC hT (cC hT' bR h4) h3)) bR h2) h1) (by decide) (by decide) h1 hpl) (by
 rintro σ H Q ⟨p,H0,own,ρ,P,E,t,q⟩
 refine⟨p,H0,own,ρ,_,E,t,λk d v H' h A r=>?_⟩
 refine⟨by show 2<=sizeLine;decide,λl hl=>?_⟩
 obtain⟨k2,i2,nw⟩:=A.new hl (.tup [.ty "list",.ty "tuple"])
 have r2:=gR A k2 r
 have fin:TyOf X.K (upd H' l (.tup [.ty "list",.ty "tuple"])) v (.type (tyD d))->∃x p c1 c2 t b,[v,V.ref l]=[x,.ref p]/\TyOf X.K (upd H' l (.tup [.ty "list",.ty "tuple"])) x t/\SqT X.K (upd H' l (.tup [.ty "list",.ty "tuple"])) p [.ty c1,.ty c2]/\W.kitAny X.K t [.type c1,.type c2]=some b/\Q (.bl b) (upd H' l (.tup [.ty "list",.ty "tuple"])):=λty =>
  ⟨v,l,"list","tuple",_,_,rfl,ty,SqT.of ao,LC d,q _ _ _ _ h (A.go k2 i2) (.bl _)⟩
 show ∃x p c1 c2 t b,_/\_
 cases r2 with
 |non=>exact fin .non
 |bl b=>exact fin (.bl b)
 |int i=>exact fin (.int i)
 |str x=>exact fin (.str x)
 |lst o hh rr=>exact fin (.lst hh)
 |tup hh rr=>exact fin (.tup hh)
 |dct o hh rr=>exact fin (.dK hh))
end
variable [Gr]
section
variable {X:Cx}{pos:Pos}{a b e:Expr}{ta tb te:DE}
def HS:D->Bool
 |.none=>true
 |_=>false
def Al:G2:=λ_ d1 _ d2 P=>match d2 with
 |.none=>P .imm (.bool (HS d1))
 |_=>False
def xV{ok:Addr->Prop}{H:Hp}{v:V}{d:D}(r:Rp ok H v d):decide (v=.non)=HS d:=by
 cases r <;> simp[HS]
def JB:Ok2 Al (λx y H Q=>y=.non/\Q (.bl (decide (x=.non))) H):=by
 intro p H0 own Hb H x y k1 d1 k2 d2 P Q A r1 r2 t q
 unfold Al at t
 split at t
 ·cases r2
  rw[xV r1]
  exact⟨rfl,q _ _ _ _ t Kp.refl A.pen (.bl _)⟩
 ·exact t.elim
def qY(ha:PD X a ta)(hb:PD X b tb):PD X (.Compare a [.Is] [b] pos) (t2 Al ta tb):=gb Dp JB ha hb (aY _)
def qQ(ha:PD X a ta)(hb:PD X b tb):PDT X (.Compare a [.Is] [b] pos) (cN (t2 Al ta tb)):=eN Dp JB ha hb (aY _)
end
variable [Gr]
section
variable {X:Cx}{pos:Pos}{st:Stmt}
end
@[reducible] def grX(H:Hp):Gr:=⟨λp H0=>p=gG/\H0=H⟩
structure Cal1(P:Program)(w:World)(K:Ø)(mg:Str->Option Value)(base:Heap)(k:Nat)(x:Str)(ps:List Str)(sp:Sp):Prop where
 ex:∃f fd,FnOk P w K mg base (CX1 P w) k f fd ps sp/\Binds K fd ps []/\W.keepIn K (.ref f)=true/\mg x=some (.ref f)
section
variable {X:Cx}{E:XK}{k j:Nat}{x:Str}{ps:List Str}{e:Expr}{es:List Expr}{p pos:Pos}
end
variable [Gr]
section
variable {X:Cx}{pos:Pos}{a b e:Expr}{ta tb te:DE}{t:DA}
end
end Dl
namespace L2
open PySem PyProof.Rows
def once(ns:List Int):List Int:=ns.foldl step_dedup []
section
variable {X:Cx}
end
end L2
namespace Dl
open PySem L2 PyProof.Rows
variable [Gr]
section
variable {X:Cx}{pos pos':Pos}{a:Expr}{t:DA}
end
variable [Gr]
section
variable {X:Cx}{pos p2:Pos}{a b c e:Expr}{es:List Expr}{ta tb tc te:DE}{t:DA}{st:Stmt}
def OpR.or{f:Value->Value->Sem Value}{r r':R2}(h:OpR X f r)(h':OpR X f r'):OpR X f (λx y H Q=>r x y H Q\/r' x y H Q):=by
 intro pins s σ H x y v u Q I rx ry q
 rcases q with q|q
 ·exact h pins s σ H x y v u Q I rx ry q
 ·exact h' pins s σ H x y v u Q I rx ry q
def bH.or{f:Value}{r r':List V->Hp->VK->Prop}(h:bH X f r)(h':bH X f r'):bH X f (λx H Q=>r x H Q\/r' x H Q):=by
 intro pins s σ H x v Q I rx q
 rcases q with q|q
 ·exact h pins s σ H x v Q I rx q
 ·exact h' pins s σ H x v Q I rx q
def Df(ha:PD X a ta)(hb:PD X b tb)(hs:jZ b:=by exact λ_ _=>rfl):PD X (.Subscript a b pos) (t2 gIx ta tb):=PE.wk (eG (IxR.or bO wI) ha hb hs) (jN (by
 intro p H0 own Hb H x y k1 d1 k2 d2 P Q A r1 r2 t q
 unfold gIx at t
 split at t
 ·rename_i ds i
  obtain⟨d,hd,t⟩:=t
  obtain⟨c,vs,rfl,o,hc,rs⟩:=r1.cJ
  obtain⟨v,hv,rv⟩:=rs.atI hd
  exact .inl ⟨c,vs,i,v,rfl,r2.int',SqL.of hc,hv,q _ _ _ _ t Kp.refl A.pen (aM rv)⟩
 ·rename_i ds i
  obtain⟨d,hd,t⟩:=t
  obtain⟨c,vs,rfl,hc,rs⟩:=r1.fW
  obtain⟨v,hv,rv⟩:=rs.atI hd
  exact .inr ⟨c,vs,i,v,rfl,r2.int',SqT.of hc,hv,q _ _ _ _ t Kp.refl A.pen (aM rv)⟩
 ·exact t.elim))
def Fp:G2:=λk1 d1 k2 d2 P=>match d1 with
 |.int i=>(match d2 with
  |.int j=>P .imm (.int (i+j))
  |_=>False)
 |.list ds=>Iu k1 (.list ds) k2 d2 P
 |.tuple ds=>Fq k1 (.tuple ds) k2 d2 P
 |_=>False
def eO(ha:PD X a ta)(hb:PD X b tb):PD X (.BinOp a .Add b pos) (t2 Fp ta tb):=nO (OpR.or cY (OpR.or wu yw)) (by
 intro p H0 own Hb H x y k1 d1 k2 d2 P Q A r1 r2 t q
 cases d1 with
 |int i =>
  cases d2 with
  |int j=>exact .inl ⟨i,j,r1.int',r2.int',q _ _ _ _ t Kp.refl A.pen (.int _)⟩
  |_=>exact t.elim
 |list ds=>exact .inr (.inl (DY p H0 own Hb H x y k1 _ k2 d2 P Q A r1 r2 t q))
 |tuple ds=>exact .inr (.inr (DX p H0 own Hb H x y k1 _ k2 d2 P Q A r1 r2 t q))
 |_=>exact t.elim) ha hb
def wO:G2:=λk1 d1 k2 d2 P=>match d1 with
 |.int i=>(match d2 with
  |.int j=>Jp i j/\P .imm (.int (i * j))
  |_=>False)
 |.list ds=>Mi k1 (.list ds) k2 d2 P
 |_=>False
def jC(ha:PD X a ta)(hb:PD X b tb):PD X (.BinOp a .Mult b pos) (t2 wO ta tb):=nO (OpR.or cD Dj) (by
 intro p H0 own Hb H x y k1 d1 k2 d2 P Q A r1 r2 t q
 cases d1 with
 |int i =>
  cases d2 with
  |int j=>exact .inl ⟨i,j,r1.int',r2.int',t.1,q _ _ _ _ t.2 Kp.refl A.pen (.int _)⟩
  |_=>exact t.elim
 |list ds=>exact .inr (Jz p H0 own Hb H x y k1 _ k2 d2 P Q A r1 r2 t q)
 |_=>exact t.elim) ha hb
def jk(neg:Bool):G2:=λk1 d1 k2 d2 P=>match scD d1 d2 with
 |some b=>P .imm (.bool (if neg then !b else b))
 |none=>Pg neg k1 d1 k2 d2 P
def JD{K:Ø}:Ok2 (jk false) (λx y H Q=>rEq x y H Q\/Cq K false x y H Q):=by
 intro p H0 own Hb H x y k1 d1 k2 d2 P Q A r1 r2 t q
 cases e:scD d1 d2 with
 |some b =>
  have t':gEq false k1 d1 k2 d2 P:=by
   unfold jk at t
   unfold gEq
   rw[e] at t ⊢
   exact t
  exact .inl (QC p H0 own Hb H x y k1 d1 k2 d2 P Q A r1 r2 t' q)
 |none =>
  unfold jk at t
  rw[e] at t
  exact .inr (JC false p H0 own Hb H x y k1 d1 k2 d2 P Q A r1 r2 t q)
def DP{K:Ø}:Ok2 (jk true) (λx y H Q=>rNe x y H Q\/Cq K true x y H Q):=by
 intro p H0 own Hb H x y k1 d1 k2 d2 P Q A r1 r2 t q
 cases e:scD d1 d2 with
 |some b =>
  have t':gEq true k1 d1 k2 d2 P:=by
   unfold jk at t
   unfold gEq
   rw[e] at t ⊢
   exact t
  exact .inl (Ow p H0 own Hb H x y k1 d1 k2 d2 P Q A r1 r2 t' q)
 |none =>
  unfold jk at t
  rw[e] at t
  exact .inr (JC true p H0 own Hb H x y k1 d1 k2 d2 P Q A r1 r2 t q)
def vZ(hu:X.A.units+64<cLine)(ha:PD X a ta)(hb:PD X b tb):PD X (.Compare a [.NotEq] [b] pos) (t2 (jk true) ta tb):=gb (OpR.or yr (wj hu)) DP ha hb (aY _)
def qT(hu:X.A.units+64<cLine)(ha:PD X a ta)(hb:PD X b tb):PDT X (.Compare a [.Eq] [b] pos) (cN (t2 (jk false) ta tb)):=eN (OpR.or Jy (Dt hu)) JD ha hb (aY _)
def dB(hu:X.A.units+64<cLine)(ha:PD X a ta)(hb:PD X b tb):PDT X (.Compare a [.NotEq] [b] pos) (cN (t2 (jk true) ta tb)):=eN (OpR.or yr (wj hu)) DP ha hb (aY _)
end
section
variable {n:Nat}{g:DG}{tt:DT}{te:DE}{ρ:List Sl}{k:Kd}{ds:List D}{R:Kd->List D->Prop}
def HW{α β:Type}(f:α->β){l:List α}{i:Nat}{x:α}(h:l[i]?=some x):(l.take (i+1)).map f=(l.take i).map f++[f x]:=by
 rw[Ĕ,h]
 simp
def rP{α:Type}(xs:List α)(e f:α->D)(ke:Kd)(hd:ds=xs.map e)(hl:xs.length<=1000)(step:∀x∈xs,∀(A:D->Prop) (B:Prop),A (f x)->g (norm (elC k) (e x)) (e x) (Ï n .any++ρ) λρ'=>if true=true then te ρ' λk' d'=>(norm k' d').le ke=true/\A d' else B)(q:R ke (xs.map f)) :
  ds.length<=1000/\∃(ke:Kd) (Iv:Nat->List D->Prop),Iv 0 [] /\
   (∀i d ys,ds[i]?=some d->Iv i ys->g (norm (elC k) d) d (Ï n .any++ρ) λρ'=>if true=true then te ρ' λk' d'=>(norm k' d').le ke=true/\Iv (i+1) (ys++[d']) else Iv (i+1) ys) /\
   ∀ys,Iv ds.length ys->R ke ys:=by
 subst hd
 refine⟨by rw[Á];exact hl,ke,λi ys=>ys=(xs.take i).map f,rfl,?_,?_⟩
 ·rintro i d ys hd rfl
  rw[Þ] at hd
  cases hx:xs[i]? with
  |none=>rw[hx] at hd;cases hd
  |some x =>
   rw[hx] at hd
   have hd:=ß hd
   subst hd
   exact step x (Ò hx) (λd'=>(xs.take i).map f++[d']=(xs.take (i+1)).map f) _ (HW f hx).symm
 ·rintro ys rfl
  rw[Á,Ħ]
  exact q
def Ew{α:Type}(xs:List α)(e:α->D)(p:α->Bool)(f:α->D)(ke:Kd)(hd:ds=xs.map e)(hl:xs.length<=1000)(step:∀x∈xs,∀(A:D->Prop) (B:Prop),(p x=true->A (f x))->(p x=false->B)->g (norm (elC k) (e x)) (e x) (Ï n .any++ρ) λρ'=>tt ρ' λb=>if b=true then te ρ' λk' d'=>(norm k' d').le ke=true/\A d' else B)(q:R ke ((xs.filter p).map f)) :
  ds.length<=1000/\∃(ke:Kd) (Iv:Nat->List D->Prop),Iv 0 [] /\
   (∀i d ys,ds[i]?=some d->Iv i ys->g (norm (elC k) d) d (Ï n .any++ρ) λρ'=>tt ρ' λb=>if b=true then te ρ' λk' d'=>(norm k' d').le ke=true/\Iv (i+1) (ys++[d']) else Iv (i+1) ys) /\
   ∀ys,Iv ds.length ys->R ke ys:=by
 subst hd
 refine⟨by rw[Á];exact hl,ke,λi ys=>ys=((xs.take i).filter p).map f,rfl,?_,?_⟩
 ·rintro i d ys hd rfl
  rw[Þ] at hd
  cases hx:xs[i]? with
  |none=>rw[hx] at hd;cases hd
  |some x =>
   rw[hx] at hd
   have hd:=ß hd
   subst hd
   have sn:((xs.take (i+1)).filter p).map f=((xs.take i).filter p).map f++if p x=true then [f x] else []:=by
    rw[Ĕ,hx,Ŭ,â]
    cases hp:p x <;> simp[hp]
   refine step x (Ò hx) (λd'=>((xs.take i).filter p).map f++[d']=((xs.take (i+1)).filter p).map f) _ (λh=>?_) (λh=>?_)
   ·rw[sn,if_pos h]
   ·show _=_
    rw[sn,h,if_neg Ð,õ]
 ·rintro ys rfl
  rw[Á,Ħ]
  exact q
end
section
variable {g:DG}{tb:DS}{k:Kd}{ds:List D}{ρ:List Sl}{P:DEnds}
end
variable [Gr]
section
variable {X:Cx}{scope:Scope}{tg iter elt:Expr}{ifs:List Expr}{pos:Pos}{ti:DI}{g:DG}{tt:DT}{te:DE}
def Kw(own:List Str){i:Nat}{y:Str}{py spos:Pos}(hc:X.calm=true)(hN:X.N.Nodup)(hiN:X.N[i]?=some y)(hx:Loc X.env.scope y)(hi:PDI X tg iter ti)(hg:∀c,PDG (X.comp own scope c) tg g)(ht:∀c,Gz (X.comp own scope c) ifs tt)(he:∀c,PD (X.comp own scope c) elt te)(hsw:swapsWith (.ListComp elt [⟨tg,iter,ifs,0⟩] scope pos) (some (.Name y py)) spos.line X.env=pure true:=by rfl)(hk:d8 X.env scope X.N=true:=by rfl)(hs:zF X iter:=by intro _;rfl)(hf:zL X y:=by first|exact .inl rfl|exact .inr rfl|assumption) :
  PS X (.Assign [.Name y py] (.ListComp elt [⟨tg,iter,ifs,0⟩] scope pos) spos) (tY (cL (dLC own.length ti g tt te)) (jf i)):=PS.wk' (Od own hc hN hiN hx hi hg ht he hsw hk hs hf) λD σ H q=>mU σ H _ q
end
section
variable {n:Nat}{g:DG}{tt:DT}{te:DE}{ρ:List Sl}{k:Kd}{ds:List D}{R:Kd->List D->Prop}
end
variable [Gr]
section
variable {X:Cx}{pos:Pos}{st:Stmt}{rest:List Stmt}{te tj:DE}{ti:DI}{t:DS}
def wX(js:List Nat)(t:DS):DS:=λP ρ=>t P (js.foldl (λρ j=>ρ.set j .any) ρ)
def EnvD.drops{p:Pn}{H0 H:Hp}{own:Addr->Option Nat}{σ:L2.St}:∀(js:List Nat) {ρ:List Sl},EnvD p H0 own σ H ρ->EnvD p H0 own σ H (js.foldl (λρ j=>ρ.set j .any) ρ)
 |[],_,E=>E
 |_::js,_,E=>EnvD.drops js E.drop
def jV(js:List Nat)(h:j4 X rest t):j4 X rest (wX js t):=PSs.wk' h (by
 rintro Q σ H ⟨p,H0,own,ρ,P,E,q,w⟩
 exact⟨p,H0,own,_,P,E.drops js,q,w⟩)
end
@[reducible] def grL(K:Ø)(sc:Addr)(ns:List Int):Gr:=⟨λp H0=>SqL K H0 sc (ns.map V.int)/\∀b,p.fp b->H0 b=none⟩
section
variable {X:Cx}{k1 k2 j:Nat}{x y z:Str}{ps1 ps2:List Str}{e:Expr}{es1 es2:List Expr}{p1 p2 p3 pos pos1:Pos}{K:Ø}{sc:Addr}{ns:List Int}{C:Pn->Prop}{pre:List D->Prop}{g:List D->(D->Prop)->Prop}{i:Nat}
end
variable [Gr]
section
variable {X:Cx}{pos pos':Pos}{a b:Expr}{t:DA}
def G8{ok:Addr->Prop}{H:Hp}(lo hi:Int):Rps ok H (lW lo hi) (cV lo (hi - lo).toNat):=by
 unfold lW cV
 exact Rps.ofMap (λx=>.int _) _
def IV{p:Pn}{H0 H H1:Hp}{own:Addr->Option Nat}{P:DK}{Q:VK}{lo hi:Int}(A:At p H0 own H H1)(h:P .new (.list (cV lo (hi - lo).toNat)))(b:-1000<=lo/\lo<=1000/\-1000<=hi/\hi<=1000)(q:∀k d v H',P k d->At p H0 own H H'->Rp (okK p H0 own H k) H' v d->Q v H')(r:Addr)(hr:H1 r=none) :
  ∃p' lo' hi',[V.ref r]=[.ref p']/\upd H1 r (.rng lo hi) p'=some (.rng lo' hi')/\(-1000<=lo'/\lo'<=1000/\-1000<=hi'/\hi'<=1000)/\∀l,upd H1 r (.rng lo hi) l=none->Q (.ref l) (upd (upd H1 r (.rng lo hi)) l (.lst (lW lo' hi'))):=by
 refine⟨r,lo,hi,rfl,ao,b,λl hl=>?_⟩
 obtain⟨k2,i2,_⟩:=A.new hr (.rng lo hi)
 have A2:=A.go k2 i2
 obtain⟨k3,i3,nw⟩:=A2.new hl (.lst (lW lo hi))
 exact q _ _ _ _ h (A2.go k3 i3) (.lst nw ao (G8 lo hi))
def Nr(t:DA):DE:=λρ P=>t ρ λks=>match ks with
 |[(_,.int j)]=>(-1000<=j/\j<=1000)/\P .new (.list (cV 0 (j - 0).toNat))
 |_=>False
def fZ{ps ps':Pos}(hc:X.calm=true)(hml:X.mg "list"=none)(hmr:X.mg "range"=none)(ha:PDA X [a] t)(hgl:Gl X "list":=by rfl)(hgr:Gl X "range":=by rfl)(he:zS X a []:=by rfl)(hpl:(backTo pos' (starEach [] X.env)).any (·.1)=false:=by rfl)(he2:starEach [.Call (.Name "range" ps') [a] [] pos'] X.env=(false,eval (.Call (.Name "range" ps') [a] [] pos') X.env)::starEach [] X.env:=by rfl)(hpl2:zP X pos []:=by rfl) :
  PD X (.Call (.Name "list" ps) [.Call (.Name "range" ps') [a] [] pos'] [] pos) (Nr t):=PE.wk (fG (jg hc) hgl hml boot_list (cC (fG qm hgr hmr boot_range ha (by decide) (by decide) he hpl) bR he2) (by decide) (by decide) he2 hpl2) (by
 rintro σ H Q ⟨p,H0,own,ρ,P,E,t,q⟩
 refine⟨p,H0,own,ρ,_,E,t,λks vs H1 h A rk=>?_⟩
 split at h
 ·rename_i k j
  obtain⟨v,rfl,r'⟩:=eY rk
  have e:=Rp.int' r'
  subst e
  exact⟨j,rfl,IV A h.2 ⟨by omega,by omega,h.1.1,h.1.2⟩ q⟩
 ·exact h.elim)
end
variable [Gr]
mutual
inductive Tm where
 |int (i:Int)
 |neg (i:Int)
 |bl (b:Bool)
 |non
 |str (s:Str)
 |var (i:Nat)
 |lst (ts:Tms)
 |tup (ts:Tms)
 |dct
inductive Tms where
 |nil
 |cons (t:Tm) (ts:Tms)
end
def Qc(sc:Scope)(x:Str):Bool:=sc.names.lookup x == some .local || sc.names.lookup x == some .cell || sc.names.lookup x == some .free
mutual
def okT(N:List Str)(sc:Scope):Tm->Expr->Bool
 |.int i,.Constant (.int j) _ _=>i == j
 |.neg i,.UnaryOp .USub (.Constant (.int j) _ _) _=>i == j
 |.bl b,.Constant (.bool c) _ _=>b == c
 |.non,.Constant .none _ _=>true
 |.str s,.Constant (.str u) _ _=>s == u
 |.var i,.Name x _=>N[i]? == some x&&(Qc sc x&&(!(x == ("__debug__":Str))&&!(x == ("__classdict__":Str))))
 |.lst ts,.List es _=>Lh N sc ts es
 |.tup ts,.Tuple es _ _=>Lh N sc ts es
 |.dct,.Dict [] [] _=>true
 |_,_=>false
def Lh(N:List Str)(sc:Scope):Tms->List Expr->Bool
 |.nil,[]=>true
 |.cons t ts,e::es=>okT N sc t e&&Lh N sc ts es
 |_,_=>false
end
mutual
def evT(ρ:List Sl):Tm->Option (Kd×D)
 |.int i=>some (.imm,.int i)
 |.neg i=>some (.imm,.int (-i))
 |.bl b=>some (.imm,.bool b)
 |.non=>some (.imm,.none)
 |.str s=>some (.imm,.str s)
 |.var i=>match ρ[i]? with
  |some (.im d)=>some (.imm,d)
  |some (.sh d)=>some (.shr,d)
  |some (.sn d)=>some (.snw,d)
  |some (.dw r d)=>some (.reg r,d)
  |_=>none
 |.lst ts=>match Mu ρ ts with
  |some ks=>some ((joins ks).join .new,.list (ks.map (·.2)))
  |none=>none
 |.tup ts=>match Mu ρ ts with
  |some ks=>some (norm (joins ks) (.tuple (ks.map (·.2))),.tuple (ks.map (·.2)))
  |none=>none
 |.dct=>some (.new,.dict [])
def Mu(ρ:List Sl):Tms->Option (List (Kd×D))
 |.nil=>some []
 |.cons t ts=>match evT ρ t,Mu ρ ts with
  |some k,some ks=>some (k::ks)
  |_,_=>none
end
mutual
def smT:Tm->Bool
 |.lst ts=>Kg 1000 ts
 |.tup ts=>Kg 1000 ts
 |_=>true
def Kg:Nat->Tms->Bool
 |_,.nil=>true
 |n+1,.cons t ts=>smT t&&Kg n ts
 |0,.cons _ _=>false
end
section
variable {X:Cx}{e:Expr}{es:List Expr}
section
variable {N:List Str}{sc:Scope}
end
end
end Dl
namespace L2
open PySem PySem.Spec PyProof.Rows HT
section
variable {X:Cx}{e:Expr}{te:TE}{p1 p2 p3 pos:Pos}
def Nh(K:Ø)(te:TE):TE:=λσ H Q=>te σ H λx H1=>∃a xs,x=.ref a/\SqL K H1 a xs/\∀p,H1 p=none->Q (.ref p) (upd H1 p (.lst xs.reverse))
def Hq(he:PE X e te):PE X (.Subscript e (.Slice none none (some (.UnaryOp .USub (.Constant (.int 1) 0 p1) p2)) p3) pos) (Nh X.K te):=by
 intro pins s σ H Q I h
 refine Subscript_ (thn (he pins s σ H _ I h) λv s1 ⟨x,H1,I1,r1,a,xs,ex,hx,q⟩=>?_)
 subst ex
 cases r1
 refine wpAny_Slice ?_
 rw[evalPart_none,evalPart_some]
 refine Ñ (Ñ ?_)
 refine UnaryOp_ (wpAny_Constant_int ?_)
 refine neg_int ?_
 have I2:Inv X pins σ H1 { s1 with toks:=s1.toks+1+1 }:=I1.tok _
 have I4:Inv X pins σ H1 { s1 with heap:=s1.heap.push { cls:=.type "slice",data:=.fields #[.none,.none,.int (-1) (s1.toks+1)] },toks:=s1.toks+1+1 }:=I2.kept λb ob q=>Ç _ q
 obtain⟨its,r,ht,hz⟩:=I4.list hx
 have hlen:its.toArray.size=xs.length:=by rw[Ì];exact r.length.symm
 show wpAny (model X.prog X.w) X.A (subscriptTail e _ (.ref a) (.ref s1.heap.objs.size)) (EP X pins σ Q) X.xe { s1 with heap:=s1.heap.push { cls:=.type "slice",data:=.fields #[.none,.none,.int (-1) (s1.toks+1)] },toks:=s1.toks+1+1 }
 refine tail_any (ops:=[.ref a,.ref s1.heap.objs.size]) ht.isList.typeIs slot_list_getitem.lookup ?_ (by with_unfolding_all rfl)
 refine wpAny_getItem_list_slice ht.isList (Heap.IsSliceOf.new ..) .none .none (.int (-1) _) (by simp) ?_ (by rw[hlen];exact hz)
 rw[W.krv_pick]
 refine⟨.ref _,_,I4.laid (t':=s1.toks+1+1) (o:=.lst xs.reverse) (λb ob q=>Ç _ q) (Å _) ?_,rfl,q _ (I4.hok.fresh (Å _))⟩
 refine⟨by rw[Š];exact hz,its.reverse,0,r.reverse,?_⟩
 exact Û _ rfl
end
end L2
namespace Dl
open PySem L2 PyProof.Rows
variable [Gr]
section
variable {X:Cx}{pos p1 p2 p3:Pos}{a b e:Expr}{es:List Expr}{ta tb te:DE}{t:DA}
def Rps.rev{ok:Addr->Prop}{H:Hp}:∀{vs:List V}{ds:List D},Rps ok H vs ds->Rps ok H vs.reverse ds.reverse
 |_,_,.nil=>.nil
 |_,_,.cons h t=>by
  rw[List.reverse_cons,List.reverse_cons]
  exact(Rps.rev t).snoc h
def Ng(te:DE):DE:=λρ P=>te ρ λk d=>match d with
 |.list ds=>newP k ds.reverse λk'=>P k' (.list ds.reverse)
 |_=>False
def qW(he:PD X e te):PD X (.Subscript e (.Slice none none (some (.UnaryOp .USub (.Constant (.int 1) 0 p1) p2)) p3) pos) (Ng te):=PE.wk (Hq he) (by
 rintro σ H Q ⟨p,H0,own,ρ,P,E,t,q⟩
 refine⟨p,H0,own,ρ,_,E,t,λk d v H1 h A r=>?_⟩
 cases d with
 |list ds =>
  obtain⟨x,xs,e1,o,h1,rs⟩:=Rp.cJ r
  subst e1
  refine⟨x,xs,rfl,SqL.of h1,λl hl=>?_⟩
  obtain⟨k2,i2,nw⟩:=A.new hl (.lst xs.reverse)
  obtain⟨k',hk',rk'⟩:=gj A (aR A k2 rs.rev) nw ao h
  exact q _ _ _ _ hk' (A.go k2 i2) rk'
 |_=>exact h.elim)
def Nb(te:DE)(tl th:DO):DE:=λρ P=>te ρ λk d=>tl ρ λlo=>th ρ λhi=>match d with
 |.list ds=>newP k (dg ds lo hi) λk'=>P k' (.list (dg ds lo hi))
 |.tuple ds=>¬(HT.sIx ds.length 0 lo=0/\HT.sIx ds.length ds.length hi=ds.length)/\P (norm k (.tuple (dg ds lo hi))) (.tuple (dg ds lo hi))
 |_=>False
def jD{lo hi:Option Expr}{tl th:DO}(he:PD X e te)(hl:PO X lo (oK tl))(hh:PO X hi (oK th)):PD X (.Subscript e (.Slice lo hi none p2) pos) (Nb te tl th):=PE.wk (uz (SlR.or xP Kh) he hl hh) (by
 rintro σ H Q ⟨p,H0,own,ρ,P,E,t,q⟩
 refine⟨p,H0,own,ρ,_,E,t,λk d v H1 h A r=>?_⟩
 refine⟨p,H0,own,ρ,_,E.go A.kp A.pen,h,λo1 H2 h2 A2=>?_⟩
 refine⟨p,H0,own,ρ,_,(E.go A.kp A.pen).go A2.kp A2.pen,h2,λo2 H3 h3 A3=>?_⟩
 have A4:=(A.base A2).base A3
 have r3:=gR (A.base A2) A3.kp (gR A A2.kp r)
 cases d with
 |list ds =>
  obtain⟨x,xs,e1,o,h1,rs⟩:=Rp.cJ r3
  subst e1
  refine .inl ⟨x,xs,rfl,SqL.of h1,λl hl=>?_⟩
  obtain⟨k2,i2,nw⟩:=A4.new hl (.lst (oY xs o1 o2))
  obtain⟨k',hk',rk'⟩:=gj A4 (aR A4 k2 (rs.cut o1 o2)) nw ao h3
  exact q _ _ _ _ hk' (A4.go k2 i2) rk'
 |tuple ds =>
  obtain⟨x,xs,e1,h1,rs⟩:=Rp.fW r3
  subst e1
  refine .inr ⟨x,xs,rfl,SqT.of h1,by rw[rs.length];exact h3.1,λl hl=>?_⟩
  obtain⟨k2,i2,nw⟩:=A4.new hl (.tup (oY xs o1 o2))
  exact q _ _ _ _ h3.2 (A4.go k2 i2) (aM (.tup ao (aR A4 k2 (rs.cut o1 o2))))
 |_=>exact h3.elim)
end
variable [Gr]
section
variable {X:Cx}{pos pos' p2:Pos}{a b e:Expr}{ta tb te tj tm:DE}{st st2:Stmt}{rest:List Stmt}{ti:DI}{g:DG}{t:DS}
end
variable [Gr]
section
variable {X:Cx}{te te1 te2 tj tm:DE}{st st2:Stmt}{rest:List Stmt}{t:DS}
end
variable [Gr]
section
variable {X:Cx}{te tj:DE}{st:Stmt}{t:DS}
end
end Dl
namespace L2
open PySem PySem.Spec PyProof.Rows
end L2
namespace Dl
open PySem L2 PyProof.Rows
variable [Gr]
section
variable {X:Cx}{tg:Expr}{pos:Pos}{ta:DA}
end
section
variable {X:Cx}
def Av(hc:X.calm=true):bH X (.builtin "min") (λxs H Q=>∃(p:Addr) (ns:List Int),xs=[.ref p]/\SqL X.K H p (ns.map V.int)/\ns≠[]/\∀M,M∈ns->(∀a∈ns,M<=a)->Q (.int M) H):=by
 intro pins s σ H xs us Q I r h
 obtain⟨p,ns,rfl,hp,hne,q⟩:=h
 obtain⟨u,rfl,rx⟩:=vals1 r
 cases rx
 obtain⟨its,rv,pl,hz⟩:=I.list hp
 have hi:IntsAre its ns:=intsAre_of rv
 obtain⟨zs,e⟩:=hi.allInts.items
 have hns:ns=zs.toList.map (·.1):=by rw[←hi.numsOf,←nums_intItems,←e]
 have hsz:0<zs.size:=by
  have h3:=š.mpr hne
  rw[hns,Á,æ] at h3;exact h3
 have hl:=pl.isList
 rw[e] at hl
 refine min_intList (I.ok.hd hc) hl hsz λv h' tk hv hk=>?_
 obtain⟨t,rfl⟩:=intItems_at hv
 obtain⟨h1,h2⟩:=argBest_lt (numAt zs) (zs.size - 1)
 refine⟨.int _,H,I.kept λb o eb=>hk b o eb,⟨_,rfl⟩,q _ ?_ λa ha=>?_⟩
 ·rw[hns,numAt_eq];refine getD_mem ?_;rw[Á,æ];omega
 ·rw[hns] at ha
  obtain⟨j,hj,rfl⟩:=mem_getD ha
  rw[Á,æ] at hj
  have h3:=h2 j (by omega)
  rw[←numAt_eq];exact h3
def Ax(hc:X.calm=true):bH X (.builtin "max") (λxs H Q=>∃(p:Addr) (ns:List Int),xs=[.ref p]/\SqL X.K H p (ns.map V.int)/\ns≠[]/\∀M,M∈ns->(∀a∈ns,a<=M)->Q (.int M) H):=by
 intro pins s σ H xs us Q I r h
 obtain⟨p,ns,rfl,hp,hne,q⟩:=h
 obtain⟨u,rfl,rx⟩:=vals1 r
 cases rx
 obtain⟨its,rv,pl,hz⟩:=I.list hp
 have hi:IntsAre its ns:=intsAre_of rv
 obtain⟨zs,e⟩:=hi.allInts.items
 have hns:ns=zs.toList.map (·.1):=by rw[←hi.numsOf,←nums_intItems,←e]
 have hsz:0<zs.size:=by
  have h3:=š.mpr hne
  rw[hns,Á,æ] at h3;exact h3
 have hl:=pl.isList
 rw[e] at hl
 refine max_intList (I.ok.hd hc) hl hsz λv h' tk hv hk=>?_
 obtain⟨t,rfl⟩:=intItems_at hv
 obtain⟨h1,h2⟩:=argBest_gt (numAt zs) (zs.size - 1)
 refine⟨.int _,H,I.kept λb o eb=>hk b o eb,⟨_,rfl⟩,q _ ?_ λa ha=>?_⟩
 ·rw[hns,numAt_eq];refine getD_mem ?_;rw[Á,æ];omega
 ·rw[hns] at ha
  obtain⟨j,hj,rfl⟩:=mem_getD ha
  rw[Á,æ] at hj
  have h3:=h2 j (by omega)
  rw[←numAt_eq];exact h3
end
section
variable {prog:Program}{w:World}{A:Around}{E:Value->Shared->Prop}
end
section
variable {X:Cx}{pos:Pos}
variable [Gr]
end
section
variable {X:Cx}{pos:Pos}{a:Expr}{t:DA} [Gr]
def Ak(f:Int->Int->Int)(le:Int->Int->Prop):GC:=λks P=>match ks with
 |[(_,.tuple [.int i,.int j])]=>P .imm (.int (f i j))
 |[(_,.list ds)]=>∃ns:List Int,ds=ns.map Í/\ns≠[]/\∀M,M∈ns->(∀a∈ns,le M a)->P .imm (.int M)
 |_=>False
def jE{ps:Pos}(hc:X.calm=true)(hm:X.mg "min"=none)(ha:PDA X [a] t)(hg:Gl X "min":=by rfl)(he:zS X a []:=by rfl)(hpl:zP X pos []:=by rfl):PD X (.Call (.Name "min" ps) [a] [] pos) (tCl (Ak (λi j=>if j<i then j else i) (λM a=>M<=a)) t) :=
 dW (bH.or (Ar hc) (Av hc)) (by
  intro p H0 own Hb H vs ks P Q A r t q
  unfold Ak at t
  split at t
  ·rename_i k i j
   obtain⟨v,rfl,r'⟩:=eY r
   obtain⟨x,xs,e1,h1,rs1⟩:=Rp.fW r'
   obtain⟨v1,v2,e2,q1,q2⟩:=Rps.two rs1
   subst e1 e2
   rw[q1.int',q2.int'] at h1
   exact .inl ⟨x,i,j,rfl,SqT.of h1,q _ _ _ _ t Kp.refl A.pen (.int _)⟩
  ·obtain⟨ns,rfl,hne,t⟩:=t
   obtain⟨v,rfl,r'⟩:=eY r
   obtain⟨x,xs,e1,o1,h1,rs1⟩:=Rp.cJ r'
   subst e1
   have e2:=Rps.ints rs1
   subst e2
   exact .inr ⟨x,ns,rfl,SqL.of h1,hne,λM h1 h2=>q _ _ _ _ (t M h1 h2) Kp.refl A.pen (.int _)⟩
  ·exact t.elim) hg hm boot_min ha (by decide) (by decide) he hpl
def jF{ps:Pos}(hc:X.calm=true)(hm:X.mg "max"=none)(ha:PDA X [a] t)(hg:Gl X "max":=by rfl)(he:zS X a []:=by rfl)(hpl:zP X pos []:=by rfl):PD X (.Call (.Name "max" ps) [a] [] pos) (tCl (Ak (λi j=>if j > i then j else i) (λM a=>a<=M)) t) :=
 dW (bH.or (Aw hc) (Ax hc)) (by
  intro p H0 own Hb H vs ks P Q A r t q
  unfold Ak at t
  split at t
  ·rename_i k i j
   obtain⟨v,rfl,r'⟩:=eY r
   obtain⟨x,xs,e1,h1,rs1⟩:=Rp.fW r'
   obtain⟨v1,v2,e2,q1,q2⟩:=Rps.two rs1
   subst e1 e2
   rw[q1.int',q2.int'] at h1
   exact .inl ⟨x,i,j,rfl,SqT.of h1,q _ _ _ _ t Kp.refl A.pen (.int _)⟩
  ·obtain⟨ns,rfl,hne,t⟩:=t
   obtain⟨v,rfl,r'⟩:=eY r
   obtain⟨x,xs,e1,o1,h1,rs1⟩:=Rp.cJ r'
   subst e1
   have e2:=Rps.ints rs1
   subst e2
   exact .inr ⟨x,ns,rfl,SqL.of h1,hne,λM h1 h2=>q _ _ _ _ (t M h1 h2) Kp.refl A.pen (.int _)⟩
  ·exact t.elim) hg hm boot_max ha (by decide) (by decide) he hpl
def p7:G2:=λ_ d1 _ d2 P=>match d2 with
 |.none=>P .imm (.bool (!HS d1))
 |_=>False
def DN:Ok2 p7 (λx y H Q=>y=.non/\Q (.bl (!decide (x=.non))) H):=by
 intro p H0 own Hb H x y k1 d1 k2 d2 P Q A r1 r2 t q
 unfold p7 at t
 split at t
 ·cases r2
  rw[xV r1]
  exact⟨rfl,q _ _ _ _ t Kp.refl A.pen (.bl _)⟩
 ·exact t.elim
variable {b:Expr}{ta tb:DE}
def iV(ha:PD X a ta)(hb:PD X b tb):PD X (.Compare a [.IsNot] [b] pos) (t2 p7 ta tb):=gb yq DN ha hb (aY _)
def ji(ha:PD X a ta)(hb:PD X b tb):PDT X (.Compare a [.IsNot] [b] pos) (cN (t2 p7 ta tb)):=eN yq DN ha hb (aY _)
end
section
variable {X:Cx}
end
section
variable {X:Cx}{pos:Pos}{a e:Expr}{te ta:DE}{t:DA}{st st2:Stmt}{rest:List Stmt} [Gr]
end
section
variable {X:Cx}{tg iter c:Expr}{pos pos1:Pos}{ret:Stmt}{ti:DI}{g:DG}{tc:DT} [Gr]
end
end Dl
namespace L2
open PySem PyProof.Rows
def Asc(xs:Array Nat):Prop:=xs.toList.Pairwise (·<·)
structure Good(w:World)(t:SetTable):Prop where
 asc:Asc t.place
 dum:t.dummies=#[]
 led:t.led=!w.params.followText "set-order"
section
variable {w:World}{t:SetTable}
end
section
variable {P:Program}{w:World}{A:Around}{E:Value->Shared->Prop}{s:Shared}
end
section
variable {P:Program}{w:World}{A:Around}{R:Result->Shared->Prop}{I:Addr}{fp wr:List Addr}{G:Array GenState->Array GenState->Prop}{n:Nat}{W:Nat->Value->Prop}{St:Nat->Shared->Prop}
end
section
variable {P:Program}{w:World}{A:Around}{E:Value->Shared->Prop}{s:Shared}
end
section
variable {P:Program}{w:World}{A:Around}{E:Value->Shared->Prop}{s:Shared}{I a:Addr}{f:Value}{i n ep:Nat}{o:Obj}{es:Array (Int×Value)}{t:SetTable}
end
section
variable {P:Program}{w:World}{A:Around}{E:Value->Shared->Prop}{s:Shared}
variable {a:Addr}{i ep:Nat}{o:Obj}{es:Array (Int×Value)}{t:SetTable}
end
section
variable {P:Program}{w:World}{A:Around}{E:Value->Shared->Prop}{s:Shared}{I a:Addr}{ep:Nat}{o:Obj}{es:Array (Int×Value)}{t:SetTable}
end
end L2
namespace L2
open PySem PySem.Spec PyProof.Rows
section
variable {P:Program}{w:World}{A:Around}{E:Value->Shared->Prop}{s:Shared}{a:Addr}{S:Int->Bool}{n:Nat}
end
end L2
set_option autoImplicit true
set_option relaxedAutoImplicit true
namespace Wr
open PySem L2 PyProof.Rows Dl
structure WD[Gr](X:Cx)(e:Expr)(t:DE):Prop where
 h:PD X e t
structure WDT[Gr](X:Cx)(e:Expr)(t:DT):Prop where
 h:PDT X e t
structure WDW[Gr](X:Cx)(e:Expr)(t:DT):Prop where
 h:PDW X e t
structure WDA[Gr](X:Cx)(e:List Expr)(t:DA):Prop where
 h:PDA X e t
structure WDS[Gr](X:Cx)(e:Stmt)(t:DS):Prop where
 h:PDS X e t
structure WDSs[Gr](X:Cx)(e:List Stmt)(t:DS):Prop where
 h:j4 X e t
structure WDI[Gr](X:Cx)(tg e:Expr)(t:DI):Prop where
 h:PDI X tg e t
structure WDG[Gr](X:Cx)(e:Expr)(t:DG):Prop where
 h:PDG X e t
structure WDGs[Gr](X:Cx)(e:List Expr)(t:DGs):Prop where
 h:PGs X e (oM t)
structure WDTs[Gr](X:Cx)(e:List Expr)(t:DT):Prop where
 h:Gz X e t
structure WDO[Gr](X:Cx)(e:Option Expr)(t:DO):Prop where
 h:PO X e (oK t)
structure WV(X:Cx)(e:Expr)(i:Nat):Prop where
 h:PE X e (vJ i)
structure WC(X:Cx)(e:Expr)(v:V):Prop where
 h:PE X e (tC v)
section
variable [Gr]
def wv(i:Nat){x:Str}{pos:Pos}(hN:X.N[i]?=some x:=by rfl)(hv:Vis X.env.scope x:=by first|exact Ň rfl|exact Or.inr (Ň rfl)|exact Or.inr (Or.inr rfl))(hd:zB x:=by decide)(hcd:(x == ("__classdict__":Str))=false:=by decide):WV X (.Name x pos) i:=⟨pv i hN hv hd hcd⟩
def wpt{t:DT}(h:WDW X e t):WDT X e t:=⟨PDW.pt h.h⟩
def wty{x:Str}{T:String}(hg:Gl X x)(hm:X.mg x=none)(hv:bootBuiltins x=some (.type T))(hn:x≠"__name__":=by decide)(hd:zB x:=by decide):WC X (.Name x ps) (.ty T):=⟨mQ hg hm hv rfl hn hd⟩
def kZ{i:Nat}{x:Str}{e:Expr}{te:DE}{pos' pos:Pos}(rg:Option Nat)(hN:X.N.Nodup)(hi:X.N[i]?=some x)(hx:Loc X.env.scope x)(he:WD X e te)(hs:swapsWith e (some (.Name x pos')) pos.line X.env=pure false:=by rfl)(hf:zL X x:=by first|exact .inl rfl|exact .inr rfl|assumption) :
  WDS X (.Assign [.Name x pos'] e pos) (wW i rg te):=⟨Dl.kZ rg (cW hN hi hx he.h hs hf)⟩
def jR(rg:Option Nat)(own:List Str){i:Nat}{y:Str}{py spos:Pos}(hc:X.calm=true)(hN:X.N.Nodup)(hiN:X.N[i]?=some y)(hx:Loc X.env.scope y)(hi:WDI X tg iter ti)(hg:∀c,WDG (X.comp own scope c) tg g)(ht:∀c,WDTs (X.comp own scope c) ifs tt)(he:∀c,WD (X.comp own scope c) elt te)(hsw:swapsWith (.ListComp elt [⟨tg,iter,ifs,0⟩] scope pos) (some (.Name y py)) spos.line X.env=pure true:=by rfl)(hk:d8 X.env scope X.N=true:=by rfl)(hs:zF X iter:=by intro _;rfl)(hf:zL X y:=by first|exact .inl rfl|exact .inr rfl|assumption) :
  WDS X (.Assign [.Name y py] (.ListComp elt [⟨tg,iter,ifs,0⟩] scope pos) spos) (wW i rg (dLC own.length ti g tt te)):=⟨Dl.kZ rg (Kw own hc hN hiN hx hi.h (λc=>(hg c).h) (λc=>(ht c).h) (λc=>(he c).h) hsw hk hs hf)⟩
def fO{i:Nat}{x:Str}{e:Expr}{es:List Expr}{apos cpos np pos:Pos}(hv:WV X (.Name x np) i)(ha:WDA X (e::es) (iI te tu))(hbase:attributeBase (.Name x np) "append" X.env (eval (.Name x np) X.env)=eval (.Name x np) X.env:=by rfl)(hfew:zW X cpos (e::es):=by rfl)(hline:(apos.endLine == cpos.line)=true:=by rfl)(hst:zS X e es:=by rfl)(hplain:zP X cpos es:=by rfl)(hs:swapsWith (.Call (.Attribute (.Name x np) "append" apos) (e::es) [] cpos) none pos.line X.env=pure false:=by rfl) :
  WDS X (.Expr (.Call (.Attribute (.Name x np) "append" apos) (e::es) [] cpos) pos) (wY i te):=⟨Dl.fO (mL (yh ŧ PySem.F.slot_list_append PySem.F.type_list_append pR hv.h ha.h hbase hfew hline hst hplain) hs)⟩
def nQ{x:Str}{i:Int}{u:Value}{ps:Pos}(hg:Gl X x)(hm:X.mg x=some u)(r:RelV (.int i) u)(hd:zB x:=by decide):WD X (.Name x ps) (tK (.int i)):=⟨Dl.nQ hg hm r hd⟩
def dF{i:Nat}{x:Str}(hN:X.N.Nodup)(hi:X.N[i]?=some x)(hx:Loc X.env.scope x)(hf:zL X x:=by first|exact .inl rfl|exact .inr rfl|assumption):WDG X (.Name x pos) (gNm i):=⟨Dl.dF (eF hN hi hx hf)⟩
def bI{i:Int}{j:Nat}:WD X (.Constant (.int i) j pos) (tK (.int i)):=⟨Dl.bI ⟩
def gF{i:Bool}{j:Nat}:WD X (.Constant (.bool i) j pos) (tK (.bool i)):=⟨Dl.gF ⟩
def dU{j:Nat}:WD X (.Constant .none j pos) (tK .none):=⟨Dl.dU ⟩
def gY{x:Str}{j:Nat}:WD X (.Constant (.str x) j pos) (tK (.str x)):=⟨Dl.gY ⟩
def bV{e:Expr}{t:DE}(h:WD X e t)(he:∀whole,isTrue e X.env whole=(do let v ←whole;standAt e.pos;holding [v] (truthy v)):=by intro _;rfl):WDT X e (cN t):=⟨Dl.bV (h:=h.h) (he:=he)⟩
def dz{t:DT}(ha:WDT X a t):WDT X (.UnaryOp .Not a pos) (Mw t):=⟨Dl.dz (ha:=ha.h)⟩
def dO(ha:WDT X a t):WDW X (.BoolOp .And [a] pos) t:=⟨Dl.dO (ha:=ha.h)⟩
def eH(ha:WDT X a t):WDW X (.BoolOp .Or [a] pos) t:=⟨Dl.eH (ha:=ha.h)⟩
def fY{rest:List Expr}(ha:WDT X a t)(hb:WDW X (.BoolOp .And (b::rest) pos) u):WDW X (.BoolOp .And (a::b::rest) pos) (Gm t u):=⟨Dl.fY (ha:=ha.h) (hb:=hb.h)⟩
def eZ{rest:List Expr}(ha:WDT X a t)(hb:WDW X (.BoolOp .Or (b::rest) pos) u):WDW X (.BoolOp .Or (a::b::rest) pos) (dOr t u):=⟨Dl.eZ (ha:=ha.h) (hb:=hb.h)⟩
def aL :WDA X [] tu:=⟨Dl.aL ⟩
def au(ha:WD X e te)(hr:WDA X es t)(hs:zS X e es:=by rfl):WDA X (e::es) (iI te t):=⟨Dl.au (ha:=ha.h) (hr:=hr.h) (hs:=hs)⟩
def iU(h:WDA X es t):WD X (.List es pos) (Bx t):=⟨Dl.iU (h:=h.h)⟩
def nJ{x1}(h:WDA X es t):WD X (.Tuple es x1 pos) (vK t):=⟨Dl.nJ (h:=h.h)⟩
def fj(ha:WD X a ta)(hb:WD X b tb):WD X (.BinOp a .Sub b pos) (t2 (gI0 λi j=>.int (i - j)) ta tb):=⟨Dl.fj (ha:=ha.h) (hb:=hb.h)⟩
def v7(ha:WD X a ta)(hb:WD X b tb):WD X (.BinOp a .Mod b pos) (t2 (gI (λ_ j=>0<j) λi j=>.int (i % j)) ta tb):=⟨Dl.v7 (ha:=ha.h) (hb:=hb.h)⟩
def nM(ha:WD X a ta)(hb:WD X b tb):WD X (.BinOp a .Pow b pos) (t2 (gI MP λi j=>.int (i ^ j.toNat)) ta tb):=⟨Dl.nM (ha:=ha.h) (hb:=hb.h)⟩
def Dd(ha:WD X a ta)(hb:WD X b tb):WD X (.Compare a [.LtE] [b] pos) (t2 (gI0 λi j=>.bool (decide (i<=j))) ta tb):=⟨Dl.Dd (ha:=ha.h) (hb:=hb.h)⟩
def Dg(ha:WD X a ta)(hb:WD X b tb):WD X (.Compare a [.Gt] [b] pos) (t2 (gI0 λi j=>.bool (decide (j<i))) ta tb):=⟨Dl.Dg (ha:=ha.h) (hb:=hb.h)⟩
def yj(ha:WD X a ta)(hb:WD X b tb):WD X (.Compare a [.GtE] [b] pos) (t2 (gI0 λi j=>.bool (decide (j<=i))) ta tb):=⟨Dl.yj (ha:=ha.h) (hb:=hb.h)⟩
def vX(ha:WD X a ta)(hb:WD X b tb):WDT X (.Compare a [.Lt] [b] pos) (cN (t2 (gI0 λi j=>.bool (decide (i<j))) ta tb)):=⟨Dl.vX (ha:=ha.h) (hb:=hb.h)⟩
def qP(ha:WD X a ta)(hb:WD X b tb):WDT X (.Compare a [.LtE] [b] pos) (cN (t2 (gI0 λi j=>.bool (decide (i<=j))) ta tb)):=⟨Dl.qP (ha:=ha.h) (hb:=hb.h)⟩
def nH(ha:WD X a ta)(hb:WD X b tb):WDT X (.Compare a [.Gt] [b] pos) (cN (t2 (gI0 λi j=>.bool (decide (j<i))) ta tb)):=⟨Dl.nH (ha:=ha.h) (hb:=hb.h)⟩
def nP{ps:Pos}(hm:X.mg "len"=none)(ha:WDA X [a] t)(hg:Gl X "len":=by rfl)(he:zS X a []:=by rfl)(hpl:zP X pos []:=by rfl):WD X (.Call (.Name "len" ps) [a] [] pos) (tCl Ir t):=⟨Dl.nP (hm:=hm) (ha:=ha.h) (hg:=hg) (he:=he) (hpl:=hpl)⟩
def q9{ps:Pos}(hm:X.mg "int"=none)(hv:bootBuiltins "int"=some (.type "int"))(ha:WDA X [a] t)(hg:Gl X "int":=by rfl)(he:zS X a []:=by rfl)(hpl:zP X pos []:=by rfl):WD X (.Call (.Name "int" ps) [a] [] pos) (tCl Mj t):=⟨Dl.q9 (hm:=hm) (hv:=hv) (ha:=ha.h) (hg:=hg) (he:=he) (hpl:=hpl)⟩
def lg :WDSs X [] Gk:=⟨Dl.lg ⟩
def dD{st:Stmt}{rest:List Stmt}(h1:WDS X st t)(h2:WDSs X rest u):WDSs X (st::rest) (Gi t u):=⟨Dl.dD (h1:=h1.h) (h2:=h2.h)⟩
def bA{st:Stmt}(h1:WDS X st t):WDSs X [st] t:=⟨Dl.bA (h1:=h1.h)⟩
def jT{st:Stmt}:WDS X st (λ_ _=>False):=⟨Dl.jT ⟩
def bM(he:WD X e te):WDS X (.Return (some e) pos) (Gj te):=⟨Dl.bM (he:=he.h)⟩
def qb{c:Expr}{a b:List Stmt}{tc:DT}(hc:WDT X c tc)(ha:WDSs X a t)(hb:WDSs X b u):WDS X (.If c a b pos) (dIf tc t u):=⟨Dl.qb (hc:=hc.h) (ha:=ha.h) (hb:=hb.h)⟩
def jU(he:WD X e te)(hs:swapsWith e none pos.line X.env=pure false:=by rfl):WDS X (.Expr e pos) (J0 te):=⟨Dl.jU (he:=he.h) (hs:=hs)⟩
def jW :WDGs X [] JT:=⟨Dl.jW ⟩
def oW{g:DG}{gs:DGs}(h1:WDG X e g)(h2:WDGs X es gs)(hs:(assignEach (e::es) X.env).map (·.2)=assign e X.env::(assignEach es X.env).map (·.2):=by rfl):WDGs X (e::es) (Fi g gs):=⟨Dl.oW (h1:=h1.h) (h2:=h2.h) (hs:=hs)⟩
def oX{gs:DGs}{k n:Nat}(hc:X.calm=true)(h:WDGs X es gs)(hn:(assignEach es X.env).length=n:=by rfl)(hst:(assignEach es X.env).findIdx? (·.1)=none:=by rfl):WDG X (.Tuple es k pos) (gTp n gs):=⟨Dl.oX (hc:=hc) (h:=h.h) (hn:=hn) (hst:=hst)⟩
def iC(hl:WD X l tl):WDI X tg l (iSq tl):=⟨Dl.iC (hl:=hl.h)⟩
def fQ{a:Expr}{ps:Pos}(hm:X.mg "range"=none)(ha:WDA X [a] ta)(hg:Gl X "range":=by rfl)(hs:starEach [a] X.env=[(false,eval a X.env)]:=by rfl):WDI X tg (.Call (.Name "range" ps) [a] [] pos) (iR1 ta):=⟨Dl.fQ (hm:=hm) (ha:=ha.h) (hg:=hg) (hs:=hs)⟩
def lB{a b:Expr}{ps:Pos}(hm:X.mg "range"=none)(ha:WDA X [a,b] ta)(hg:Gl X "range":=by rfl)(hs:starEach [a,b] X.env=[(false,eval a X.env),(false,eval b X.env)]:=by rfl)(hs2:starEach [b] X.env=[(false,eval b X.env)]:=by rfl):WDI X tg (.Call (.Name "range" ps) [a,b] [] pos) (iR2 ta):=⟨Dl.lB (hm:=hm) (ha:=ha.h) (hg:=hg) (hs:=hs) (hs2:=hs2)⟩
def lA{body:List Stmt}(hp:PassesOwn (model X.prog X.w) X.A X.env X.xe)(hc:X.calm=true)(hi:WDI X tg iter ti)(hg:WDG X tg g)(hb:WDSs X body tb)(hs:zF X iter:=by intro _;rfl):WDS X (.For tg iter body [] pos) (Jj ti g tb):=⟨Dl.lA (hp:=hp) (hc:=hc) (hi:=hi.h) (hg:=hg.h) (hb:=hb.h) (hs:=hs)⟩
def bW{X:Cx}:WDTs X [] (λ_ P=>P true):=⟨Dl.bW ⟩
def iZ{X:Cx}{c:Expr}{t:DT}(hc:WDT X c t):WDTs X [c] t:=⟨Dl.iZ (hc:=hc.h)⟩
def gD(own:List Str)(hc:X.calm=true)(hi:WDI X tg iter ti)(hg:∀c,WDG (X.comp own scope c) tg g)(ht:∀c,WDTs (X.comp own scope c) ifs tt)(he:∀c,WD (X.comp own scope c) elt te)(hk:d8 X.env scope X.N=true:=by rfl)(hs:zF X iter:=by intro _;rfl):WD X (.ListComp elt [⟨tg,iter,ifs,0⟩] scope pos) (dLC own.length ti g tt te):=⟨Dl.gD (own:=own) (hc:=hc) (hi:=hi.h) (hg:=λc=>(hg c).h) (ht:=λc=>(ht c).h) (he:=λc=>(he c).h) (hk:=hk) (hs:=hs)⟩
def dR{op}(h:WD X a ta):WD X (.BoolOp op [a] pos) ta:=⟨Dl.dR (h:=h.h)⟩
def cX{rest:List Expr}(ha:WD X a ta)(hb:WD X (.BoolOp .And (b::rest) pos) tb):WD X (.BoolOp .And (a::b::rest) pos) (lF ta tb):=⟨Dl.cX (ha:=ha.h) (hb:=hb.h)⟩
def Dc{rest:List Expr}(ha:WD X a ta)(hb:WD X (.BoolOp .Or (b::rest) pos) tb):WD X (.BoolOp .Or (a::b::rest) pos) (Nk ta tb):=⟨Dl.Dc (ha:=ha.h) (hb:=hb.h)⟩
def nU{ps:Pos}(hc:X.calm=true)(hm:X.mg "all"=none)(hv:bootBuiltins "all"=some (.builtin "all"))(ha:WDA X [a] t)(hg:Gl X "all":=by rfl)(he:zS X a []:=by rfl)(hpl:zP X pos []:=by rfl):WD X (.Call (.Name "all" ps) [a] [] pos) (tCl Ml t):=⟨Dl.nU (hc:=hc) (hm:=hm) (hv:=hv) (ha:=ha.h) (hg:=hg) (he:=he) (hpl:=hpl)⟩
def qX{ps:Pos}(hm:X.mg "list"=none)(ha:WDA X [a] t)(hg:Gl X "list":=by rfl)(he:zS X a []:=by rfl)(hpl:zP X pos []:=by rfl):WD X (.Call (.Name "list" ps) [a] [] pos) (tCl Ip t):=⟨Dl.qX (hm:=hm) (ha:=ha.h) (hg:=hg) (he:=he) (hpl:=hpl)⟩
def iT{ps:Pos}(hm:X.mg "tuple"=none)(ha:WDA X [a] t)(hg:Gl X "tuple":=by rfl)(he:zS X a []:=by rfl)(hpl:zP X pos []:=by rfl):WD X (.Call (.Name "tuple" ps) [a] [] pos) (tCl Fl t):=⟨Dl.iT (hm:=hm) (ha:=ha.h) (hg:=hg) (he:=he) (hpl:=hpl)⟩
def gZ{ps:Pos}(hm:X.mg "sorted"=none)(ha:WDA X [a] t)(hg:Gl X "sorted":=by rfl)(he:zS X a []:=by rfl)(hpl:zP X pos []:=by rfl):WD X (.Call (.Name "sorted" ps) [a] [] pos) (tCl wQ t):=⟨Dl.gZ (hm:=hm) (ha:=ha.h) (hg:=hg) (he:=he) (hpl:=hpl)⟩
def qR(hu:X.A.units+64<cLine)(ha:WD X a ta)(hb:WD X b tb)(hm:behindInMarks .In b=false:=by rfl):WDT X (.Compare a [.In] [b] pos) (cN (t2 (gIn false) ta tb)):=⟨Dl.qR (hu:=hu) (ha:=ha.h) (hb:=hb.h) (hm:=hm)⟩
def bZ :WDO X none JK:=⟨Dl.bZ ⟩
def bY(h:WD X e te):WDO X (some e) (JH te):=⟨Dl.bY (h:=h.h)⟩
def dc{f:List D->(D->Prop)->Prop}(C:Cal X.prog X.w X.K X.mg X.base k x ps (spD f))(hr:Room j X.A)(ha:WDA X (e::es) t)(hk:k<=j:=by decide)(hg:Gl X x:=by rfl)(hdb:zB x:=by decide)(he:zS X e es:=by rfl)(hpl:zP X pos es:=by rfl):WD X (.Call (.Name x p) (e::es) [] pos) (tFn f t):=⟨Dl.dc (C:=C) (hr:=hr) (ha:=ha.h) (hk:=hk) (hg:=hg) (hdb:=hdb) (he:=he) (hpl:=hpl)⟩
def dv(i:Nat){x:Str}{pos:Pos}(hN:X.N[i]?=some x:=by rfl)(hv:Vis X.env.scope x:=by first|exact Ň rfl|exact Or.inr (Ň rfl)|exact Or.inr (Or.inr rfl))(hd:zB x:=by decide)(hcd:(x == ("__classdict__":Str))=false:=by decide):WD X (.Name x pos) (tV i):=⟨Dl.dv (i:=i) (hN:=hN) (hv:=hv) (hd:=hd) (hcd:=hcd)⟩
def qY(ha:WD X a ta)(hb:WD X b tb):WD X (.Compare a [.Is] [b] pos) (t2 Al ta tb):=⟨Dl.qY (ha:=ha.h) (hb:=hb.h)⟩
def qQ(ha:WD X a ta)(hb:WD X b tb):WDT X (.Compare a [.Is] [b] pos) (cN (t2 Al ta tb)):=⟨Dl.qQ (ha:=ha.h) (hb:=hb.h)⟩
def Df(ha:WD X a ta)(hb:WD X b tb)(hs:jZ b:=by exact λ_ _=>rfl):WD X (.Subscript a b pos) (t2 gIx ta tb):=⟨Dl.Df (ha:=ha.h) (hb:=hb.h) (hs:=hs)⟩
def eO(ha:WD X a ta)(hb:WD X b tb):WD X (.BinOp a .Add b pos) (t2 Fp ta tb):=⟨Dl.eO (ha:=ha.h) (hb:=hb.h)⟩
def jC(ha:WD X a ta)(hb:WD X b tb):WD X (.BinOp a .Mult b pos) (t2 wO ta tb):=⟨Dl.jC (ha:=ha.h) (hb:=hb.h)⟩
def vZ(hu:X.A.units+64<cLine)(ha:WD X a ta)(hb:WD X b tb):WD X (.Compare a [.NotEq] [b] pos) (t2 (jk true) ta tb):=⟨Dl.vZ (hu:=hu) (ha:=ha.h) (hb:=hb.h)⟩
def qT(hu:X.A.units+64<cLine)(ha:WD X a ta)(hb:WD X b tb):WDT X (.Compare a [.Eq] [b] pos) (cN (t2 (jk false) ta tb)):=⟨Dl.qT (hu:=hu) (ha:=ha.h) (hb:=hb.h)⟩
def dB(hu:X.A.units+64<cLine)(ha:WD X a ta)(hb:WD X b tb):WDT X (.Compare a [.NotEq] [b] pos) (cN (t2 (jk true) ta tb)):=⟨Dl.dB (hu:=hu) (ha:=ha.h) (hb:=hb.h)⟩
def jV{rest:List Stmt}(js:List Nat)(h:WDSs X rest t):WDSs X rest (wX js t):=⟨Dl.jV (js:=js) (h:=h.h)⟩
def fZ{ps ps':Pos}(hc:X.calm=true)(hml:X.mg "list"=none)(hmr:X.mg "range"=none)(ha:WDA X [a] t)(hgl:Gl X "list":=by rfl)(hgr:Gl X "range":=by rfl)(he:zS X a []:=by rfl)(hpl:(backTo pos' (starEach [] X.env)).any (·.1)=false:=by rfl)(he2:starEach [.Call (.Name "range" ps') [a] [] pos'] X.env=(false,eval (.Call (.Name "range" ps') [a] [] pos') X.env)::starEach [] X.env:=by rfl)(hpl2:zP X pos []:=by rfl):WD X (.Call (.Name "list" ps) [.Call (.Name "range" ps') [a] [] pos'] [] pos) (Nr t):=⟨Dl.fZ (hc:=hc) (hml:=hml) (hmr:=hmr) (ha:=ha.h) (hgl:=hgl) (hgr:=hgr) (he:=he) (hpl:=hpl) (he2:=he2) (hpl2:=hpl2)⟩
def qW(he:WD X e te):WD X (.Subscript e (.Slice none none (some (.UnaryOp .USub (.Constant (.int 1) 0 p1) p2)) p3) pos) (Ng te):=⟨Dl.qW (he:=he.h)⟩
def jD{lo hi:Option Expr}{tl th:DO}(he:WD X e te)(hl:WDO X lo tl)(hh:WDO X hi th):WD X (.Subscript e (.Slice lo hi none p2) pos) (Nb te tl th):=⟨Dl.jD (he:=he.h) (hl:=hl.h) (hh:=hh.h)⟩
def jE{ps:Pos}(hc:X.calm=true)(hm:X.mg "min"=none)(ha:WDA X [a] t)(hg:Gl X "min":=by rfl)(he:zS X a []:=by rfl)(hpl:zP X pos []:=by rfl):WD X (.Call (.Name "min" ps) [a] [] pos) (tCl (Ak (λi j=>if j<i then j else i) (λM a=>M<=a)) t):=⟨Dl.jE (hc:=hc) (hm:=hm) (ha:=ha.h) (hg:=hg) (he:=he) (hpl:=hpl)⟩
def jF{ps:Pos}(hc:X.calm=true)(hm:X.mg "max"=none)(ha:WDA X [a] t)(hg:Gl X "max":=by rfl)(he:zS X a []:=by rfl)(hpl:zP X pos []:=by rfl):WD X (.Call (.Name "max" ps) [a] [] pos) (tCl (Ak (λi j=>if j > i then j else i) (λM a=>a<=M)) t):=⟨Dl.jF (hc:=hc) (hm:=hm) (ha:=ha.h) (hg:=hg) (he:=he) (hpl:=hpl)⟩
def iV(ha:WD X a ta)(hb:WD X b tb):WD X (.Compare a [.IsNot] [b] pos) (t2 p7 ta tb):=⟨Dl.iV (ha:=ha.h) (hb:=hb.h)⟩
def ji(ha:WD X a ta)(hb:WD X b tb):WDT X (.Compare a [.IsNot] [b] pos) (cN (t2 p7 ta tb)):=⟨Dl.ji (ha:=ha.h) (hb:=hb.h)⟩
end
section
def cO[Gr]{T:String}{x:Str}{e:Expr}{te:DE}{ps pt pos:Pos}(hk:∀t:Value,(t=.type "NoneType"\/t=.type "bool"\/t=.type "int"\/t=.type "str"\/t=.type "list"\/t=.type "tuple"\/t=.type "dict")->∃n,t=.type n/\ŭ X.K t (.type T)=some (n == T || (T == "int"&&n == "bool")))(hm:X.mg "isinstance"=none)(he:WD X e te)(hT:WC X (.Name x pt) (.ty T))(hg:Gl X "isinstance":=by rfl)(h1:starEach [e,.Name x pt] X.env=(false,eval e X.env)::starEach [.Name x pt] X.env:=by rfl)(h2:starEach [.Name x pt] X.env=(false,eval (.Name x pt) X.env)::starEach [] X.env:=by rfl)(hpl:(backTo pos (starEach [.Name x pt] X.env)).any (·.1)=false:=by rfl) :
  WD X (.Call (.Name "isinstance" ps) [e,.Name x pt] [] pos) (tIs T te):=⟨Dl.cO hk hm he.h hT.h hg h1 h2 hpl⟩
def qZ[Gr]{x y:Str}{ps pt pt' pp pos:Pos}{kk:Nat}{e:Expr}{te:DE}(hm:X.mg "isinstance"=none)(he:WD X e te)(hT:WC X (.Name x pt) (.ty "list"))(hT':WC X (.Name y pt') (.ty "tuple"))(hg:Gl X "isinstance":=by rfl)(h1:starEach [e,.Tuple [.Name x pt,.Name y pt'] kk pp] X.env=(false,eval e X.env)::starEach [.Tuple [.Name x pt,.Name y pt'] kk pp] X.env:=by rfl)(h2:starEach [.Tuple [.Name x pt,.Name y pt'] kk pp] X.env=(false,eval (.Tuple [.Name x pt,.Name y pt'] kk pp) X.env)::starEach [] X.env:=by rfl)(h3:starEach [.Name x pt,.Name y pt'] X.env=(false,eval (.Name x pt) X.env)::starEach [.Name y pt'] X.env:=by rfl)(h4:starEach [.Name y pt'] X.env=(false,eval (.Name y pt') X.env)::starEach [] X.env:=by rfl)(hpl:(backTo pos (starEach [.Tuple [.Name x pt,.Name y pt'] kk pp] X.env)).any (·.1)=false:=by rfl) :
  WD X (.Call (.Name "isinstance" ps) [e,.Tuple [.Name x pt,.Name y pt'] kk pp] [] pos) (GX te):=⟨Dl.qZ hm he.h hT.h hT'.h hg h1 h2 h3 h4 hpl⟩
end
end Wr
set_option autoImplicit false
set_option autoImplicit true
namespace Wr
open PySem L2 PyProof.Rows Dl
section
variable [Gr] {X:Cx}{tj te:DE}
end
section
variable [Gr] {X:Cx}{tj te te1 te2 ta:DE}{t:DS}
end
end Wr
namespace Dl
open PySem L2 PyProof.Rows
section
variable {X:Cx}{pins:List (Addr×Obj)}{σ:L2.St}{H:Hp}{s:Shared}{ok ok':Addr->Prop}
end
section
variable {X:Cx}{pos:Pos}{a e:Expr}{te:DE}{t:DA} [Gr]
end
section
variable [Gr]
abbrev DR:=(D->Prop)->List Sl->Prop
structure WishR(p:Pn)(own:Addr->Option Nat)(H:Hp)(P:D->Prop)(Q:Ends):Prop where
 rt:∀d v H',P d->p.PI H'->(∀b o,H b=some o->¬p.fp b->own b=none->H' b=some o)->Rp (λa=>¬p.fp a) H' v d->Q.rt v H'
def O2(t:DR):TS:=λQ σ H=>∃p H0 own ρ P,EnvD p H0 own σ H ρ/\t P ρ/\WishR p own H P Q
structure WR(X:Cx)(ss:List Stmt)(t:DR):Prop where
 h:PSs X ss (O2 t)
variable {X:Cx}{pos:Pos}{e:Expr}{te:DE}{st:Stmt}{rest:List Stmt}{t:DS}{u:DR}
variable {k j:Nat}{x:Str}{ps:List Str}{es:List Expr}{ta:DA}{p:Pos}
end
end Dl
namespace Wr
open PySem L2 PyProof.Rows Dl
variable [Gr] {X:Cx}{pos:Pos}{a:Expr}{t:DA}
end Wr
namespace Dl
open PySem L2 PyProof.Rows
variable [Gr]
section
variable {X:Cx}{pos:Pos}{st:Stmt}{rest:List Stmt}{t u:DS}{te tj t1 t2:DE}
end
end Dl
namespace Wr
open PySem L2 PyProof.Rows Dl
section
variable [Gr] {X:Cx}{tj te t1 t2:DE}{t u:DS}
end
end Wr
set_option autoImplicit false
namespace L2
open PySem PySem.Spec PyProof.Rows
section
variable {X:Cx}{k:Nat}{f CF:Addr}{fd:FuncData}{ps:List Str}{sp:Sp}{E:XK}{x hx n:Str}{p np cpos epos hpos pos:Pos}{e:Expr}{es:List Expr}{t:TA}{b₀:Stmt}{suite:List Stmt}{ts:TS}{j:Nat}
end
section
variable {X:Cx}{k:Nat}{f CF:Addr}{fd:FuncData}{ps:List Str}{sp:Sp}{E:XK}{x hx n:Str}{p np cpos epos hpos pos:Pos}{e:Expr}{es:List Expr}{t:TA}{b₀:Stmt}{suite:List Stmt}{ts:TS}{j:Nat}
end
end L2
namespace Dl
open PySem L2 PyProof.Rows
section
variable [Gr] {X:Cx}{pos:Pos}{a:Expr}{t:DA}
end
end Dl
namespace Wr
open PySem L2 PyProof.Rows Dl
section
variable [Gr] {X:Cx}{pos:Pos}{a:Expr}{t:DA}
end
end Wr
namespace Dl
open PySem L2 PyProof.Rows
structure Ext(p q:Pn):Prop where
 pv:q.pv=p.pv
 fp:∀a,p.fp a->q.fp a
 pi:∀H,q.PI H->p.PI H
 go:∀H H',q.PI H->Kp p H H'->p.PI H'->q.PI H'
def CE(C:Pn->Prop)(q:Pn):Prop:=∃p,C p/\Ext p q
section
variable [Gr]
def Jc{C:Pn->Prop}{p:Pn}{H:Hp}{N:List Str}{vs':List V}{ds:List D}(g:Gr.G p H)(c:C p)(pi:p.PI H)(r:Rps (λa=>¬p.fp a) H vs' ds):EnvD p H (λ_=>none) (L2.start N (p.pv::vs')) H (.pen C::(ds.map aG++Ï (N.length - (ds.length+1)) .any)):=by
 have E0:=kY (p:=p) (N:=N.drop 1) g pi r
 refine⟨λ_ _ e _=>e,pi,(λ_ _ e=>nomatch e),λj s e=>?_,by unfold L2.start;simp[r.length],g⟩
 cases j with
 |zero =>
  have e:=ß e
  subst e
  exact⟨rfl,c⟩
 |succ j =>
  rw[Ů] at e
  have hl:N.length - (ds.length+1)=(N.drop 1).length - vs'.length:=by rw[r.length,ċ];omega
  rw[hl] at e
  have q:=E0.slot j s e
  have es:(L2.start N (p.pv::vs'))[j+1]?=(L2.start (N.drop 1) vs')[j]?:=by
   unfold L2.start
   have:N.length - (p.pv::vs').length=(N.drop 1).length - vs'.length:=by rw[ċ,ð];omega
   rw[this]
   simp
  cases s <;> simp only[gB,es] at q ⊢ <;> exact q
variable {X:Cx}{pos:Pos}{c:Expr}{a rest:List Stmt}{tc:DT}{t u:DR}
variable {k j i:Nat}{x y:Str}{ps:List Str}{es:List Expr}{ta:DA}{pp py:Pos}
end
end Dl
namespace L2
open PySem PySem.Spec PyProof.Rows Builtin
section
variable {X:Cx}
end
end L2
namespace Dl
open PySem L2 PyProof.Rows
section
variable [Gr]
variable {X:Cx}{pos:Pos}{a b e:Expr}{ta tb te:DE}{p1 p2 p3:Pos}
end
end Dl
namespace Wr
open PySem L2 PyProof.Rows Dl
section
variable [Gr] {X:Cx}{pos:Pos}{a b e:Expr}{ta tb te:DE}{p1 p2 p3:Pos}
end
end Wr
namespace L2
open PySem PySem.Spec PyProof.Rows Builtin
section
variable {X:Cx}
end
end L2
namespace Dl
open PySem L2 PyProof.Rows
section
variable [Gr] {X:Cx}{pos p2:Pos}{a b e:Expr}{t:DA}{ta tb te:DE}
end
end Dl
namespace Wr
open PySem L2 PyProof.Rows Dl
section
variable [Gr] {X:Cx}{pos p2:Pos}{a b e:Expr}{t:DA}{ta tb te:DE}
end
end Wr
namespace Dl
open PySem L2 PyProof.Rows
variable [Gr]
section
variable {X:Cx}{st st2:Stmt}{rest:List Stmt}{te1 te2:DE}{tt:DT}{tr:TS}{t:DS}
end
section
variable {X:Cx}{own:List Str}{scope:Scope}{tg iter elt:Expr}{ifs:List Expr}{pos:Pos}{g:DG}{tt:DT}{te:DE}
end
end Dl
namespace Wr
open PySem L2 PyProof.Rows Dl
variable [Gr]
section
variable {X:Cx}{te1 te2:DE}{tt:DT}{tr:TS}{t:DS}
end
end Wr
namespace PySem
open PySem.W PyProof.Rows PySem.Spec
section
variable {prog:Program}{w:World}{A:Around}{E:Value->Shared->Prop}{s:Shared}{it l:Addr}{items:Array Value}
end
end PySem
namespace L2
open PySem PySem.Spec PyProof.Rows
section
variable {X:Cx}
end
end L2
namespace Dl
open PySem L2 PyProof.Rows
section
variable [Gr] {X:Cx}{a:Expr}{t:DA}
end
end Dl
namespace Wr
open PySem L2 PyProof.Rows Dl
section
variable [Gr] {X:Cx}{a:Expr}{t:DA}
end
end Wr
namespace L2
open PySem PyProof.Rows
section
variable {X:Cx}{pins:List (Addr×Obj)}{σ:List (Option V)}{H:Hp}{s:Shared}
end
end L2
namespace Dl
open PySem L2 PyProof.Rows
variable [Gr]
section
variable {X:Cx}{pos pos':Pos}{a:Expr}{t:DA}
end
end Dl
namespace Wr
open PySem L2 PyProof.Rows Dl
section
variable [Gr] {X:Cx}{pos pos':Pos}{a:Expr}{t:DA}
end
end Wr
namespace L2
open PySem PySem.Spec PyProof.Rows
open PySem.AutoSeq1 (wpAny_loadPart')
open PySem.MeetsSeq PySem.MeetsSeq3
section
variable {prog:Program}{w:World}{A:Around}{E:Value->Shared->Prop}{s:Shared}
end
section
variable {X:Cx}
end
end L2
namespace Dl
open PySem L2 PyProof.Rows
section
variable {X:Cx}{pos:Pos}{a:Expr}{t:DA} [Gr]
end
end Dl
namespace L2
open PySem PySem.Spec PyProof.Rows
section
variable {prog:Program}{w:World}{A:Around}{E:Value->Shared->Prop}{s:Shared}
end
section
variable {X:Cx}
end
end L2
namespace Dl
open PySem L2 PyProof.Rows
section
variable {X:Cx}{pos:Pos}{a e:Expr}{t:DA} [Gr]
end
end Dl
namespace L2
open PySem PySem.Spec PyProof.Rows
open AutoSeq1 in
section
variable {X:Cx}
end
end L2
namespace Dl
open PySem L2 PyProof.Rows
variable [Gr]
section
variable {X:Cx}{st:Stmt}{te:DE}{pos:Pos}{ta:DA}
end
end Dl
namespace Wr
open PySem L2 PyProof.Rows Dl
section
variable [Gr] {X:Cx}{pos:Pos}{a:Expr}{ta t:DA}{te:DE}
end
end Wr
namespace Dl
open PySem L2 PyProof.Rows
variable [Gr]
section
variable {X:Cx}{st st2:Stmt}{rest:List Stmt}{tj te1 te2:DE}{tt:DT}{t:DS}{K:Ø}
end
end Dl
namespace Wr
open PySem L2 PyProof.Rows Dl
section
variable [Gr] {X:Cx}{tj te1 te2:DE}
end
end Wr
namespace L2
open PySem PySem.Spec PyProof.Rows
structure LamScope(ps ys:List Str)(sc:Scope)(cl:List (Str×Addr)):Prop where
 kind:sc.kind=.function
 co:sc.isCoroutine=false
 gen:sc.isGenerator=false
 nd:(ps++ys).Nodup
 par:∀x∈ps,sc.names.lookup x=some .local
 fre:∀y∈ys,sc.names.lookup y=some .free
 nocell:∀x∈sc.names,x.2≠.cell
 all:∀x,sc.names.lookup x=some .free->∃c,cl.lookup x=some c
 inj:∀x y c,cl.lookup x=some c->cl.lookup y=some c->x=y
def cxL(CX:CXT)(P:Program)(w:World)(K:Ø)(mg:Str->Option Value)(base:Heap)(N:List Str)(qual:Str)(scope:Scope)(f:Addr)(cd:Value)(cl:List (Str×Addr))(A:Around)(outer:List Env)(s:Shared)(H:Hp)(E:XK):Cx where
 prog:=P
 w:=w
 K:=K
 mg:=mg
 base:=base
 A:=A.deeper (W.envX qual scope s.heap.objs.size f cd cl)
 N:=N
 s₀:=s
 H₀:=H
 env:=W.envX qual scope s.heap.objs.size f cd cl
 outer:=outer
 stack:=W.envX qual scope s.heap.objs.size f cd cl::outer
 ex:=[]
 calm:=true
 fn:=λ_=>false
 pn:=[]
 xe:=λe s'=>wpAny (model P w) (A.deeper (W.envX qual scope s.heap.objs.size f cd cl)) (leaving (W.envX qual scope s.heap.objs.size f cd cl) e) (λ_ s''=>CX outer H s E e s'') (λe' s''=>CX outer H s E e' s'') s'
structure Caps(base:Heap)(cl:List (Str×Addr))(ys:List Str)(cvs:List V):Prop where
 len:cvs.length=ys.length
 cells:∀x c,cl.lookup x=some c->∃v,base.IsCell c v
 val:∀(j:Nat) (y:Str) (v:V),ys[j]?=some y->cvs[j]?=some v->∃c u,cl.lookup y=some c/\base.IsCell c (some u)/\RelV v u
def wJ{CX:CXT}{P:Program}{w:World}{K:Ø}{mg:Str->Option Value}{base:Heap}{ps ys:List Str}{qual:Str}{scope:Scope}{f:Addr}{cd:Value}{cl:List (Str×Addr)}{A:Around}{outer:List Env}{s:Shared}{h1:Heap}{tk:Nat}{H:Hp}{E:XK}{us:List Value}{vs cvs:List V}(S:LamScope ps ys scope cl)(hd:A.handled=none)(e0:Env0 P w K mg base A outer s H)(hl:vs.length=ps.length)(r:Vals vs us)(C:Caps base cl ys cvs)(hn:h1.Ns s.heap.objs.size (λx=>(ps.zip us).reverse.lookup x))(hk:∀b o,s.heap.get? b=some o->h1.get? b=some o) :
  Inv (cxL CX P w K mg base (ps++ys) qual scope f cd cl A outer s H E) [] (start (ps++ys) (vs++cvs)) H { s with heap:=h1,toks:=tk }:=by
 have noA:∀b:Addr,b∉(cxL CX P w K mg base (ps++ys) qual scope f cd cl A outer s H E).ex:=λb z=>absurd (show b∈([]:List Addr) from z) (by simp)
 have bk:∀b o,base.get? b=some o->h1.get? b=some o:=λb o e=>hk b o (e0.bs b o e).1
 have cne:∀x c,cl.lookup x=some c->H c=none:=λx c e=>by
  obtain⟨v,o,ho,_⟩:=C.cells x c e
  exact(e0.bs c o ho).2
 refine⟨⟨e0.mod,S.kind,rfl,rfl,Å _,S.inj,λy hy=>?_,(λy c z _=>(nomatch z)),λ_=>hd,Around.frames_deeper e0.frames,.inr ⟨rfl,rfl⟩,λb z=>absurd z (noA b),e0.bs,e0.bsz,λb _ _=>noA b,λb z=>absurd z (noA b),e0.jl,e0.frf,λq z=>nomatch (show q∈([]:List (Addr×Obj×HO)) from z)⟩,
  rfl,e0.bare,Un.kept hk,⟨_,hn,λi y v h1 h2 h3=>?_⟩,λy c h=>?_,e0.hok.fresh (Å _),λy c h=>cne y c h,λp hp=>absurd (show p∈([]:List (Addr×Obj)) from hp) (by simp),e0.hok.kept hk,?_⟩
 ·have hy:scope.names.lookup y=some .cell\/scope.names.lookup y=some .free:=hy
  rcases hy with hy|hy
  ·exact absurd rfl (S.nocell _ (ĉ hy))
  ·exact S.all y hy
 ·have ha:(vs++cvs)[i]?=some v:=by
   unfold start at h2
   by_cases hi:i<(vs++cvs).length
   ·rw[é (by simpa using hi),Þ] at h2
    cases e:(vs++cvs)[i]? with
    |none=>rw[e] at h2;cases h2
    |some a=>rw[e] at h2;cases h2;rfl
   ·rw[ç (by simpa using hi)] at h2
    rw[Į] at h2
    split at h2 <;> cases h2
  have h1:(ps++ys)[i]?=some y:=h1
  by_cases hi:i<ps.length
  ·rw[é (by omega)] at h1 ha
   obtain⟨u,hu,rv⟩:=r.get ha
   have ndP:ps.Nodup:=(List.nodup_append.mp S.nd).1
   refine⟨u,rv,.inl ⟨S.par y (Ò h1),?_⟩⟩
   have rl:∀(l:List (Str×Value)) (x:Str) (u:Value),(l.map (·.1)).Nodup->(x,u)∈l->l.lookup x=some u:=λl x u=>by
    induction l with
    |nil=>intro _ z;cases z
    |cons p l ih =>
     intro nd z
     obtain⟨a,b⟩:=p
     rw[ë,List.nodup_cons] at nd
     rcases Ē.mp z with z|z
     ·cases z;rw[ô];simp
     ·have:x≠a:=λe=>nd.1 (by rw[←e];exact ą.mpr ⟨(x,u),z,rfl⟩)
      rw[ô,show(x == a)=false by simpa using this]
      exact ih nd.2 z
   refine rl _ _ _ ?_ (List.mem_reverse.mpr ?_)
   ·rw[List.map_reverse,List.map_fst_zip (by rw[←r.length,hl];exact Å _)]
    exact List.pairwise_reverse.mpr (ndP.imp λh e=>h e.symm)
   ·exact Ò (i:=i) (by rw[List.getElem?_zip_eq_some];exact⟨h1,hu⟩)
  ·rw[ç (by omega)] at h1 ha
   rw[hl] at ha
   obtain⟨c,u,e,hc,rv⟩:=C.val _ _ _ h1 ha
   exact⟨u,rv,.inr ⟨.inr (S.fre y (Ò h1)),c,e,hc.keeps bk⟩⟩
 ·obtain⟨v,hc⟩:=C.cells y c h
  exact⟨v,hc.keeps bk⟩
 ·unfold start
  show _=(ps++ys).length
  rw[È,Á,ŏ,È,È,C.len,hl]
  omega
def Py(x:Obj)(qual:Str):Prop:=∃vs t,x.data=.fields vs/\vs[1]?=some (.str qual t)
def o9(H:Hp)(c':Addr)(qual:Str):Prop:=∃x φ,H c'=some (.frz x (.ext φ))/\Py x qual
def Mr{CX:CXT}{P:Program}{w:World}{K:Ø}{mg:Str->Option Value}{base:Heap}{k:Nat}{f c':Addr}{name qual:Str}{params:Arguments}{body:Expr}{scope:Scope}{pm ctv:Value}{cl:List (Str×Addr)}{ps ys:List Str}{cvs:List V}{sp:Sp}(lk:base.get? f=some (ţ name qual params body scope cl pm c' ctv))(hcd:∀vs H Q E,sp vs H Q E->o9 H c' qual)(S:LamScope ps ys scope cl)(C:Caps base cl ys cvs)(len:∀vs H Q E,sp vs H Q E->vs.length=ps.length)(hbody:∀(A:Around) (outer:List Env) (s:Shared) (H:Hp) (vs:List V) (Q:VK) (E:XK),Room k (A.deeper (W.envX qual scope s.heap.objs.size f (.ref c') cl))->sp vs H Q E ->
   ∃t,PE (cxL CX P w K mg base (ps++ys) qual scope f (.ref c') cl A outer s H E) body t/\t (start (ps++ys) (vs++cvs)) H Q) :
  FnOk P w K mg base CX (k+1) f (W.kla_fn name qual params body scope cl pm (.ref c') ctv) ps sp:=by
 refine⟨len,λA outer s H args us vs Q E hr e0 hb r hsp=>?_⟩
 have hl:=len _ _ _ _ hsp
 have bk:∀b o,base.get? b=some o->s.heap.get? b=some o:=λb o e=>(e0.bs b o e).1
 have lim:s.heap.NoLimit:=e0.mod.nolimit.keeps bk
 have hcd':s.heap.CodeRec (.ref c') qual:=by
  obtain⟨x,φ,e,vs,t,h1,h2⟩:=hcd _ _ _ _ hsp
  exact⟨c',x,vs,t,rfl,(e0.hok _ _ e).1,h1,h2⟩
 refine W.kla_callFunE hr.depth (bk _ _ lk) rfl S.co S.gen rfl hcd' (hb _ _ _ _ ?_)
 have hloc:∀y∈ps.zip us,scope.names.lookup y.1=some .local:=λ⟨n,v⟩ hy=>S.par n (List.of_mem_zip hy).1
 refine wpAny_newFunctionEnv S.nocell hloc (λh₁ hns hsb=>?_) S.kind
 have hk₁:∀b o,s.heap.get? b=some o->h₁.get? b=some o:=λb o e=>hsb.extBut b o (ã (É e)) (Ç _ e)
 refine⟨lim.keeps hk₁,?_⟩
 show codeAny _ _ (.expr body (W.envX qual scope s.heap.objs.size f (.ref c') cl)) _ _
 obtain⟨t,ht,hq⟩:=hbody A outer s H vs Q E (hr.deeper _) hsp
 have I:Inv (cxL CX P w K mg base (ps++ys) qual scope f (.ref c') cl A outer s H E) [] (start (ps++ys) (vs++cvs)) H { s with heap:=h₁,toks:=s.toks+(ps.zip us).length }:=wJ S hr.hd e0 hl r C hns hk₁
 refine W.kla_codeExpr (Ĵ (ht [] _ _ H _ I hq) (λu s' hs=>?_) λe s' hs=>hs)
 obtain⟨v,H',J,rv,q⟩:=hs
 exact⟨v,H',J.os,J.bare,J.base,J.hok,rv,q⟩
def reb(base h:Heap)(L:List Addr):Heap:=W.hideAll h ((ä h.objs.size).filter λb=>(base.get? b).isNone&&!decide (b∈L))
def qL{base h:Heap}{L:List Addr}{b:Addr}:b∉((ä h.objs.size).filter λb=>(base.get? b).isNone&&!decide (b∈L))↔(h.objs.size<=b\/(∃o,base.get? b=some o)\/b∈L):=by
 rw[ć,List.mem_range,Ý,Option.isNone_iff_eq_none,ģ,decide_eq_false_iff_not]
 constructor
 ·intro z
  by_cases h1:b<h.objs.size
  ·cases e:base.get? b with
   |some o=>exact .inr (.inl ⟨o,rfl⟩)
   |none =>
    by_cases h2:b∈L
    ·exact .inr (.inr h2)
    ·exact absurd ⟨h1,e,h2⟩ z
  ·exact .inl (Nat.le_of_not_lt h1)
 ·rintro(z|⟨o,z⟩|z) ⟨a,b,c⟩
  ·exact absurd a (Nat.not_lt.mpr z)
  ·rw[z] at b;cases b
  ·exact c z
def Cj{base h:Heap}{L:List Addr}{b:Addr}{o:Obj}(e:h.get? b=some o)(m:b∈L):(reb base h L).get? b=some o:=W.hideAll_get _ e (qL.mpr (.inr (.inr m)))
def Ck{base h:Heap}{L:List Addr}(bk:∀b o,base.get? b=some o->h.get? b=some o):∀b o,base.get? b=some o->(reb base h L).get? b=some o:=λb o e=>W.hideAll_get _ (bk b o e) (qL.mpr (.inr (.inl ⟨o,e⟩)))
def Ea{base h:Heap}{L:List Addr}{b:Addr}{o:Obj}(e:(reb base h L).get? b=some o):h.get? b=some o/\((∃o,base.get? b=some o)\/b∈L):=by
 have e1:=W.of_hideAll _ e
 refine⟨e1,?_⟩
 have n:b∉((ä h.objs.size).filter λb=>(base.get? b).isNone&&!decide (b∈L)):=λz=>by
  have:=W.hideAll_none (h:=h) _ z
  rw[show(W.hideAll h ((ä h.objs.size).filter λb=>(base.get? b).isNone&&!decide (b∈L))).get? b=some o from e] at this
  cases this
 exact(qL.mp n).resolve_left (λz=>absurd (É e1) (Nat.not_lt.mpr z))
def Mod.reb{K:Ø}{mg:Str->Option Value}{base h:Heap}{L:List Addr}(m:Mod K mg base)(bk:∀b o,base.get? b=some o->h.get? b=some o):Mod K mg (reb base h L):=by
 have k:=Ck (L:=L) bk
 obtain⟨mb,hb,hx⟩:=m.blt
 exact⟨m.kin.keeps k,m.glob.keeps k,⟨mb,hb.keeps k,hx⟩,m.nolimit.keeps k⟩
def Env0.reb{P:Program}{w:World}{K:Ø}{mg:Str->Option Value}{base:Heap}{A:Around}{outer:List Env}{s:Shared}{H:Hp}{L:List Addr}(e:Env0 P w K mg base A outer s H)(hL:∀b∈L,H b=none)(hf:∀b∈L,b∉frs outer):Env0 P w K mg (reb base s.heap L) A outer s H:=by
 have bk:∀b o,base.get? b=some o->s.heap.get? b=some o:=λb o z=>(e.bs b o z).1
 refine⟨e.frames,e.mod.reb bk,λb o z=>?_,?_,?_,e.frf,e.hok,e.bare⟩
 ·obtain⟨h1,h2⟩:=Ea z
  refine⟨h1,?_⟩
  rcases h2 with ⟨o',h2⟩|h2
  ·exact(e.bs b o' h2).2
  ·exact hL b h2
 ·unfold L2.reb
  rw[W.hideAll_size]
  exact Å _
 ·have all:∀l:List Env,(∀b∈L,b∉frs l)->s.heap.FunFrames base l->s.heap.FunFrames (L2.reb base s.heap L) l:=by
   intro l
   induction l with
   |nil=>intro _ _;trivial
   |cons env r ih =>
    intro hs hl
    obtain⟨hk,⟨F,o,hf,hn,ho,hd⟩,hr⟩:=hl
    refine⟨hk,⟨F,o,hf,?_,ho,hd⟩,ih (λb hb z=>hs b hb ?_) hr⟩
    ·cases q:(L2.reb base s.heap L).get? F with
     |none=>rfl
     |some u =>
      obtain⟨_,h2⟩:=Ea q
      rcases h2 with ⟨o',h2⟩|h2
      ·rw[hn] at h2;cases h2
      ·exact absurd (by unfold frs;rw[Ţ,hf];exact Ú) (hs F h2)
    ·unfold frs at z ⊢
     rw[Ţ,hf]
     exact Õ _ z
  exact all outer hf e.jl
section
variable {X:Cx}{CX:CXT}{k i:Nat}{f:Addr}{fd:FuncData}{ps:List Str}{sp:Sp}{E:XK}{x:Str}{p pos:Pos}{e:Expr}{es:List Expr}{t:TA}
end
def lV(P:Addr)(pos:Pos)(qual:Str)(H:Hp):Prop:=∃ps,H P=some (.tbl ps)/\(ps=#[]\/∃c',ps=#[rawInt pos.line,rawInt pos.col,.ref c']/\o9 H c' qual)
def Pz{h h':Heap}{L:Addr}{m:Str->Option Value}(x:h.Ns L m)(k:∀o,h.get? L=some o->h'.get? L=some o):h'.Ns L m:=by
 obtain⟨o,es,ep,ho,r⟩:=x
 exact⟨o,es,ep,k o ho,r⟩
section
variable {X:Cx}{pins:List (Addr×Obj)}{σ:St}{H:Hp}{s:Shared}{c P:Addr}{pos:Pos}{qual:Str}{params:Arguments}{body:Expr}{scope:Scope}{cl:List (Str×Addr)}{Q:Value->Shared->Prop}{E:Value->Shared->Prop}
def Ab(I:Inv X pins σ H s)(hq:X.env.qual++"<lambda>"=qual)(hdef:defaultsOf params X.env=([],[]))(hcl:closureFor scope X.env=pure cl)(hcode:X.env.code=.ref c)(hC:X.K.In X.base->W.CodeHd X.base c P)(hB:X.K.In X.base->X.base.BuiltinsAt X.mg P)(T:lV P pos qual H)(h:∀f c' ctv pm s' H',Inv X pins σ H' s'->lV P pos qual H'->o9 H' c' qual->H' f=none->s'.heap.get? f=some (ţ "<lambda>" qual params body scope cl pm c' ctv)->f∉frs X.stack->(∀b o,H b=some o->b≠P->H' b=some o) ->
   (∀b o,s.heap.get? b=some o->H b=none->s'.heap.get? b=some o/\H' b=none)->Q (.ref f) s') :
  wpAny (model X.prog X.w) X.A (eval (.Lambda params body scope pos) X.env) Q E s:=by
 have hC:=hC I.ok.mod.kin
 have hB:=hB I.ok.mod.kin
 obtain⟨ps,hP,hps⟩:=T
 have hPh:s.heap.get? P=some (W.tabObj ps):=I.hok P _ hP
 have neP:∀b,H b=none->b≠P:=λb e z=>by rw[z,hP] at e;cases e
 have hgs:s.heap.Ns mainGlobals X.mg:=I.mod.glob.keeps I.bk
 have hgP:mainGlobals≠P:=by
  obtain⟨o,_,_,ho,_⟩:=I.mod.glob
  exact neP _ (I.bs _ _ ho).2
 have hB':s.heap.BuiltinsAt X.mg P:=by
  obtain⟨bm,o,h1,h2,h3,h4,h5,r⟩:=hB
  exact⟨bm,o,h1,h2,h3,h4,I.bk _ _ h5,r⟩
 have fsz:∀b,s.heap.objs.size<=b->b∉frs X.stack:=λb hb z=>by
  obtain⟨_,o,ho,_⟩:=I.stack.mem z
  exact absurd (É ho) (Nat.not_lt.mpr hb)
 refine W.kla_eval hdef ?_
 rw[hq]
 rcases hps with rfl|⟨c',rfl,kn⟩
 ·refine W.kla_makeFunction (mg:=X.mg) hcl I.ok.glob hgs hcode (hC.keeps I.bk) hPh (by trivial) (by rfl) hgP hB' λc' ctv h' tk hx hge hlt hrec htb=>?_
  obtain⟨c₂,oc,vs,t,e2,hoc,hd,hv⟩:=hrec
  cases e2
  have keep:∀b o,b≠P->s.heap.get? b=some o->(h'.push (ţ "<lambda>" qual params body scope cl ((X.mg "__name__").getD .none) c' ctv)).get? b=some o:=λb o n e=>Ç _ (hx b o n e)
  have hc0:H c'=none:=I.hok.fresh hge
  have cP:c'≠P:=neP c' hc0
  have cS:∀b o,s.heap.get? b=some o->b≠c':=λb o e z=>by subst z;exact absurd (É e) (Nat.not_lt.mpr hge)
  have htb':(h'.push (ţ "<lambda>" qual params body scope cl ((X.mg "__name__").getD .none) c' ctv)).get? P=some (W.tabObj (#[]++#[rawInt pos.line,rawInt pos.col,.ref c'])):=Ç _ htb
  have hoc':=Ç (ţ "<lambda>" qual params body scope cl ((X.mg "__name__").getD .none) c' ctv) hoc
  let H':Hp:=upd (upd H P (.tbl #[rawInt pos.line,rawInt pos.col,.ref c'])) c' (.frz oc (.ext λ_=>True))
  have u0:∀b,b≠P->b≠c'->H' b=H b:=λb h1 h2=>by show upd _ _ _ b=_;rw[ak h2,ak h1]
  have uP:H' P=some (.tbl #[rawInt pos.line,rawInt pos.col,.ref c']):=by show upd _ _ _ P=_;rw[ak (ę cP),ao]
  have uc:H' c'=some (.frz oc (.ext λ_=>True)):=ao
  have nc:∀b o,H b=some o->b≠c':=λb o e z=>by rw[z,hc0] at e;cases e
  have kn:o9 H' c' qual:=⟨oc,_,uc,vs,t,hd,hv⟩
  have J:Inv X pins σ H' { s with heap:=h'.push (ţ "<lambda>" qual params body scope cl ((X.mg "__name__").getD .none) c' ctv),toks:=tk }:=by
   refine I.step (g':=s.gens) (d':=s.drawn) (ch:=[]) (λ_ z=>nomatch z) (λb o _ _ _ e n=>keep b o (neP b n) e) (λb o _ _ _ e n=>⟨o.slots,keep b o (neP b n) e⟩) (λb o _ e n=>by rw[u0 b (neP b n) (cS b o e)];exact n) (λb o _ e=>?_) (λb xs e=>?_) (λb o u e=>?_) (λb ps e=>?_) (λm hm=>Pz hm λo e=>keep _ o (neP _ I.free) e) (λa o e=>?_) I.bare
   ·by_cases z:b=P
    ·subst z;exact⟨_,htb'⟩
    ·exact⟨o,keep b o z e⟩
   ·rw[u0 b (λz=>by rw[z,hP] at e;cases e) (nc b _ e)];exact e
   ·rw[u0 b (λz=>by rw[z,hP] at e;cases e) (nc b _ e)];exact e
   ·by_cases z:b=P
    ·subst z
     rw[hP] at e
     cases e
     exact⟨#[rawInt pos.line,rawInt pos.col,.ref c'],by rw[uP];simp⟩
    ·exact⟨#[],by rw[u0 b z (nc b _ e),e];simp⟩
   ·by_cases z:a=c'
    ·subst z
     rw[uc] at e
     cases e
     exact⟨hoc',trivial,⟨_,hoc'⟩,λ_ _ _ _=>trivial⟩
    ·by_cases z2:a=P
     ·subst z2
      rw[uP] at e
      cases e
      exact htb'
     ·rw[u0 a z2 z] at e
      have ow:∀b,H b=some (.own a)->b≠P:=λb q y=>by rw[y,hP] at q;cases q
      exact(I.hok a o e).stay (λb u hb q=>keep b u (hb.elim (λy=>y ▸ z2) (ow b)) q) (λb q=>by rw[u0 b (ow b q) (nc b _ q)];exact q) λb xs q=>by rw[u0 b (λy=>by rw[y,hP] at q;cases q) (nc b _ q)];exact q
  have hsz:s.heap.objs.size<=h'.objs.size:=Nat.le_of_lt (Nat.lt_of_le_of_lt hge hlt)
  have fP:h'.objs.size≠P:=λz=>absurd (É hPh) (Nat.not_lt.mpr (z ▸ hsz))
  refine h h'.objs.size c' ctv _ _ H' J ⟨_,uP,.inr ⟨c',rfl,kn⟩⟩ kn (by rw[u0 _ fP (ŋ hlt)];exact I.hok.fresh hsz) (Û _ rfl) (fsz _ hsz) (λb o e n=>by rw[u0 b n (nc b _ e)];exact e) λb o e n=>⟨keep b o (neP b n) e,by rw[u0 b (neP b n) (cS b o e)];exact n⟩
 ·refine W.kla_makeFunctionHit (mg:=X.mg) (cv:=.ref c') hcl I.ok.glob hgs hcode (hC.keeps I.bk) hPh (by trivial) (codeAmong_snoc (pos:=pos) (c:=.ref c') [] trivial rfl) hB' λctv h' tk hk hsz=>?_
  have keep:∀b o,s.heap.get? b=some o->(h'.push { cls:=.type "function",data:=.func (W.kla_fn "<lambda>" qual params body scope cl ((X.mg "__name__").getD .none) (.ref c') ctv) }).get? b=some o:=λb o e=>Ç _ (hk b o e)
  exact h h'.objs.size c' ctv _ _ H (I.kept (t':=tk) keep) ⟨_,hP,.inr ⟨c',rfl,kn⟩⟩ kn (I.hok.fresh hsz) (Û _ rfl) (fsz _ hsz) (λb o e _=>e) λb o e n=>⟨keep b o e,n⟩
end
structure LamAt(base:Heap)(f c':Addr)(qual:Str)(params:Arguments)(body:Expr)(scope:Scope)(cl:List (Str×Addr))(ys:List Str)(cvs:List V)(H:Hp):Prop where
 fn:∃pm ctv,base.get? f=some (ţ "<lambda>" qual params body scope cl pm c' ctv)
 caps:Caps base cl ys cvs
 kn:o9 H c' qual
section
variable {X:Cx}{k:Nat}{fh c P:Addr}{fdh:FuncData}{ps ys:List Str}{sp:Heap->Sp}{x:Str}{p pos lpos:Pos}{e:Expr}{te:TE}{qual:Str}{params:Arguments}{body:Expr}{scope:Scope}{cl:List (Str×Addr)}
end
end L2
namespace Dl
open PySem L2 PyProof.Rows
def uy(P:Addr)(pos:Pos)(qual:Str):Pn where
 fp:=λb=>b=P
 PI:=lV P pos qual
 pv:=.non
 mono:=λH H' ⟨ps,h,r⟩ k=>⟨ps,k _ _ (.inl rfl) h,r.imp id λ⟨c',e,x,φ,hc,cx⟩=>⟨c',e,x,φ,k _ _ (.inr ⟨x,φ,rfl⟩) hc,cx⟩⟩
 is:=λH b ⟨ps,h,_⟩ hb=>by
  subst hb
  exact⟨_,h,(λxs z=>(nomatch z)),λ⟨_,_,z⟩=>(nomatch z)⟩
def spT(T:Pn)(f:List D->(D->Prop)->Prop):Sp:=λvs H Q _=>∃ds P,T.PI H/\Rps (λa=>¬T.fp a) H vs ds/\f ds P/\∀d v H',P d->Kp T H H'->T.PI H'->Rp (λa=>H a=none) H' v d->Q v H'
def yK{T:Pn}{f:List D->(D->Prop)->Prop}{n:Nat}(hn:∀ds P,f ds P->ds.length=n:=by intro _ _ h;repeat (first|(obtain⟨rfl,_⟩:=h;rfl)|obtain⟨_,h⟩:=h)):∀vs H Q E,spT T f vs H Q E->vs.length=n:=λvs H Q E ⟨ds,P,_,r,t,_⟩=>by
 rw[r.length]
 exact hn ds P t
def Pn.plus(p T:Pn):Pn where
 fp:=λb=>p.fp b\/T.fp b
 PI:=λH=>p.PI H/\T.PI H
 pv:=p.pv
 mono:=λH H' h k=>⟨p.mono H H' h.1 λb o z e=>k b o (z.imp .inl id) e,T.mono H H' h.2 λb o z e=>k b o (z.imp .inr id) e⟩
 is:=λH b h z=>z.elim (p.is H b h.1) (T.is H b h.2)
section
variable [Gr] {X:Cx}{k j:Nat}{x:Str}{ps:List Str}{e:Expr}{es:List Expr}{t:DA}{p pos:Pos}{C:Pn->Prop}{T:Pn}{i:Nat}{f:List D->(D->Prop)->Prop}
end
section
variable {X:Cx}{k j:Nat}{x:Str}{ps:List Str}{e:Expr}{es:List Expr}{t:DA}{p pos:Pos}{Z:Hp->Prop}{i:Nat}{f:Addr}{fd:FuncData}{g:List D->(D->Prop)->Prop}
end
end Dl
namespace Wr
open PySem L2 PyProof.Rows Dl
variable {X:Cx}{k j:Nat}{x:Str}{ps:List Str}{e:Expr}{es:List Expr}{t:DA}{p pos:Pos}{Z:Hp->Prop}{i:Nat}{f:Addr}{fd:FuncData}{g:List D->(D->Prop)->Prop}
end Wr
namespace Dl
open PySem L2 PyProof.Rows
section
variable [Gr] {X:Cx}{st:Stmt}{i k a b:Nat}{f:List D->(D->Prop)->Prop}
end
end Dl
namespace Wr
open PySem L2 PyProof.Rows Dl
section
variable [Gr] {X:Cx}{i k a b lv j:Nat}{f:List D->(D->Prop)->Prop}{x g y z1 z2:Str}{ps:List Str}{apos cpos np pos gp gpos py px pa pb:Pos}
end
end Wr
namespace L2
open PySem PySem.Spec PyProof.Rows
def Ae{P:Program}{w:World}{K:Ø}{mg mb:Str->Option Value}{k:Nat}{fa a c PT:Addr}{fd:FuncData}{x:Str}{sp:Sp}{s₁:Shared}{vs:List Value}{ns:List Int}(KX:K.In s₁.heap)(hKP:K.lookup PT=none)(hC:W.CodeHd s₁.heap c PT)(hPT:s₁.heap.get? PT=some (W.tabObj #[]))(hns:s₁.heap.Ns mainGlobals mg)(hb:s₁.heap.Ns builtinsNs mb)(hbb:∀x:Str,x≠"__name__"->mb x=bootBuiltins x)(hlim:s₁.heap.NoLimit)(hBm:s₁.heap.BuiltinsAt mg PT)(hg:s₁.gens=#[])(ha:s₁.heap.get? a=some { cls:=.type "list",data:=.seq vs.toArray })(hi:IntsAre vs ns)(hl:ns.length<=sizeLine)(hr:Room k callerA)(F:∀base:Heap,K.In base->base.Ns mainGlobals mg->base.BuiltinsAt mg PT->FnOk P w K mg base CX0 k fa fd [x] sp)(hbind:∀(s:Shared) (u:Value),BindsTo s fd ⟨[u],[]⟩ [(x,u)])(hsp:∀H:Hp,SqL K H a (ns.map V.int)->H PT=some (.tbl #[])->sp [.ref a] H (λv _=>v=.bl true) λ_ _ _=>False) :
  codeAny (model P w) callerA (.call (.ref fa) ⟨[.ref a],[]⟩) (λr s'=>r=.ok (.ret (.bool true))/\OldK s₁.heap s'.heap/\s'.os=s₁.os/\AllBare s'.gens) s₁:=by
 have rv:=pH hi
 have lenV:=hi.length
 have aP:a≠PT:=λz=>by rw[z,hPT] at ha;cases ha
 have core:∀H:Hp,SqL K H a (ns.map V.int)->HOk P w H s₁.heap->H PT=some (.tbl #[])->(∀b u,H b=some u->b≠PT->b=a/\K.lookup a=none/\∃o u',u=.frz o u') ->
   codeAny (model P w) callerA (.call (.ref fa) ⟨[.ref a],[]⟩) (λr s'=>r=.ok (.ret (.bool true))/\OldK s₁.heap s'.heap/\s'.os=s₁.os/\AllBare s'.gens) s₁:=by
  intro H hS hok hT hA
  have nD:∀{b:Addr}{o:Obj}{es:Array DictEntry}{ep:Nat},s₁.heap.get? b=some o->o.data=.dict es ep->H b=none:=λ{b o es ep} e d=>by
   cases q:H b with
   |none=>rfl
   |some u =>
    by_cases z:b=PT
    ·rw[z,hPT] at e;cases e;cases d
    ·have:=(hA b u q z).1
     subst this
     rw[ha] at e;cases e;cases d
  have nsK:∀{b:Addr}{m:Str->Option Value},s₁.heap.Ns b m->(rZ s₁.heap H).Ns b m:=λ{b m} ⟨o,es,ep,e,d,r⟩=>⟨o,es,ep,oO e (nD e d),d,r⟩
  have hKb:K.In (rZ s₁.heap H):=λb o e=>oO (KX b o e) (by
   cases q:H b with
   |none=>rfl
   |some u =>
    by_cases z:b=PT
    ·rw[z,hKP] at e;cases e
    ·obtain⟨z1,z2,_⟩:=hA b u q z
     rw[z1,z2] at e;cases e)
  have hM:Mod K mg (rZ s₁.heap H):=⟨hKb,nsK hns,⟨mb,nsK hb,hbb⟩,let ⟨mc,h1,h2⟩:=hlim;⟨mc,nsK h1,h2⟩⟩
  have e0:Env0 P w K mg (rZ s₁.heap H) callerA [] s₁ H:=⟨rfl,hM,λb o e=>HF e,Nat.le_of_eq (Aj _ _),trivial,λb hb=>absurd (show b∈([]:List Addr) from hb) (by simp),hok,.of_eq hg⟩
  have hBb:(rZ s₁.heap H).BuiltinsAt mg PT:=by
   obtain⟨bm,o,h1,h2,h3,h4,h5,h6,h7⟩:=hBm
   refine⟨bm,o,h1,h2,h3,h4,oO h5 ?_,h6,h7⟩
   cases q:H bm with
   |none=>rfl
   |some u =>
    have:=(hA bm u q h4).1
    subst this
    rw[ha] at h5;cases h5
    have h6:ā "list"=ā "module":=h6
    exact absurd h6 (by decide)
  refine codeAny_mono ((F _ hKb (nsK hns) hBb).run callerA [] s₁ H ⟨[.ref a],[]⟩ [.ref a] [.ref a] _ _ hr e0 (hbind s₁ (.ref a)) (.cons rfl .nil) (hsp H hS hT)) λr s' h=>?_
  cases r with
  |error e=>exact h.elim
  |ok fl =>
   cases fl with
   |next=>exact ė h
   |brk=>exact ė h
   |cont=>exact ė h
   |ret u =>
    obtain⟨v,H',os,bare,un,hok',r',q⟩:=h
    have q':v=.bl true:=q
    subst q'
    obtain rfl:u=Ũ true:=r'
    obtain⟨more,hT'⟩:=un.tbls PT _ hT
    have eT:s'.heap.get? PT=some { cls:=.none,data:=.fields (#[]++more) }:=hok' PT _ hT'
    have kept:∀b o,s₁.heap.get? b=some o->b≠PT->s'.heap.get? b=some o:=λb o e nb=>by
     cases q:H b with
     |none=>exact un.keep b o e q (by intro z;exact absurd (show b∈([]:List Addr) from z) (by simp)) (by simp)
     |some u =>
      obtain⟨_,_,ob,u',rfl⟩:=hA b u q nb
      have e1:=(hok b _ q).1
      rw[e] at e1;cases e1
      exact(hok' b _ (un.frzs b _ _ q)).1
    refine⟨rfl,⟨λb o e=>?_,λb o e=>?_⟩,os,bare⟩
    ·by_cases z:b=PT
     ·subst z
      rw[hPT] at e
      cases e
      exact .inr (.inl ⟨(hC.tab hPT).isCodeTable,rfl,#[],more,rfl,eT⟩)
     ·exact .inl (kept b o e z)
    ·by_cases z:b=PT
     ·subst z;exact⟨_,eT⟩
     ·exact⟨o,kept b o e z⟩
 cases hk:K.lookup a with
 |some o =>
  have e:=KX a o hk
  rw[ha] at e
  cases e
  refine core (λb=>if b=PT then some (.tbl #[]) else none) (.inr ⟨_,vs.toArray,_,hk,rfl,rfl,rfl,by rw[Ì,lenV];exact hl,by simpa using rv⟩) (λb u z=>?_) (if_pos rfl) λb u z nb=>?_
  ·by_cases hb:b=PT
   ·have z':=(if_pos hb).symm.trans z
    cases z'
    subst hb
    exact hPT
   ·have z':=(if_neg hb).symm.trans z
    cases z'
  ·have z':=(if_neg nb).symm.trans z
   cases z'
 |none =>
  let H:Hp:=λb=>if b=PT then some (.tbl #[]) else if b=a then some (.frz { cls:=.type "list",data:=.seq vs.toArray } (.lst (ns.map V.int))) else none
  have hP1:H PT=some (.tbl #[]):=if_pos rfl
  have hA1:H a=some (.frz { cls:=.type "list",data:=.seq vs.toArray } (.lst (ns.map V.int))):=(if_neg aP).trans (if_pos rfl)
  have hN1:∀b,b≠PT->b≠a->H b=none:=λb h1 h2=>(if_neg h1).trans (if_neg h2)
  refine core H (.inl (.inr ⟨_,hA1⟩)) (λb u z=>?_) hP1 λb u z nb=>?_
  ·by_cases hb:b=PT
   ·subst hb
    rw[hP1] at z
    cases z
    exact hPT
   ·by_cases hb2:b=a
    ·subst hb2
     rw[hA1] at z
     cases z
     exact⟨ha,by rw[Á];exact hl,vs,_,rv,ha⟩
    ·rw[hN1 b hb hb2] at z;cases z
  ·by_cases hb2:b=a
   ·subst hb2
    rw[hA1] at z
    cases z
    exact⟨rfl,hk,_,_,rfl⟩
   ·rw[hN1 b nb hb2] at z;cases z
def Bq{l:W.OpenLaw}{n k:Nat}{q:Program}{loose:List Str}{XP:(Str->Option Value)->Heap->Prop}{YP:World->Heap->Prop}{d:DefRec}{K:Params->Ø}{x:Str}(hn:l.most=some n)(hn2:n<=sizeLine)(hdf:d.params.defaults=[])(hr:Room k callerA)(hY:∀(w:World) (h:Heap),YP w h->(K w.params).In h)(F:∀(w:World) (mg:Str->Option Value) (fa:Addr) (h:Heap),(K w.params).In h->h.Ns mainGlobals mg->mg d.name=some (.ref fa) ->
   ∃(K':Ø) (c PT:Addr) (fd:FuncData) (sp:Sp),K'.In h/\K'.lookup PT=none/\W.CodeHd h c PT/\h.get? PT=some (W.tabObj #[])/\(∀(s:Shared) (u:Value),BindsTo s fd ⟨[u],[]⟩ [(x,u)]) /\
    (∀base:Heap,K'.In base->base.Ns mainGlobals mg->base.BuiltinsAt mg PT->FnOk l.prog w K' mg base CX0 k fa fd [x] sp)/\∀(H:Hp) (a:Addr) (ns:List Int),SqL K' H a (ns.map V.int)->H PT=some (.tbl #[])->sp [.ref a] H (λv _=>v=.bl true) λ_ _ _=>False) :
  W.WalkO q loose XP YP l.row.toRowW d [] (λf vs=>PySem.call f vs):=by
 refine Att.vh hn hdf λw s₀ s₁ mg mb fa o pm cd doc a vs ns G Y ho hd hcd hmg hobj hints hlen hg=>?_
 obtain⟨K',c,PT,fd,sp,k1,k2,k3,k4,hb,hF,hsp⟩:=F w mg fa _ (hY w _ Y) G.T.g hmg
 have hBm:s₁.heap.BuiltinsAt mg PT:=by
  obtain⟨bm,ob,b1,b2,b3,b4,b5,b6⟩:=G.T.bmain
  have n1:bm≠PT:=λz=>by rw[z,k4] at b3;cases b3;cases b4
  have n2:bm≠mainGlobals:=λz=>by
   obtain⟨o,es,ep,e,hd,_⟩:=G.T.g
   rw[z,e] at b3;cases b3;rw[hd] at b6;cases b6
  exact⟨bm,ob,b1,b2,n2,n1,b3,b4,b5,b6⟩
 exact Ae k1 k2 k3 k4 G.T.g G.T.b G.T.builtins G.T.nolimit hBm hg hobj hints (ï hlen hn2) hr hF hb λH hS hT=>hsp H a ns hS hT
section
variable {K:Ø}{PT b f:Addr}{h:Heap}
end
def Ka{K:Ø}{PT:Addr}{h:Heap}(X:W.Frag.In ((([PT]:List Addr).map λa=>(a,W.tabObj #[]))++K) h)(n:K.lookup PT=none):K.In h/\h.get? PT=some (W.tabObj #[]):=by
 refine⟨λa o e=>X a o ?_,X PT _ ?_⟩
 ·have:a≠PT:=λz=>by rw[z,n] at e;cases e
  show List.lookup a ((PT,W.tabObj #[])::K)=some o
  rw[ô,show(a == PT)=false by simpa using this]
  exact e
 ·show List.lookup PT ((PT,W.tabObj #[])::K)=_
  rw[ô,beq_self_eq_true]
end L2
namespace Dl
open PySem L2 PyProof.Rows
variable [Gr]
section
variable {X:Cx}{tg:Expr}{pos:Pos}{ta:DA}
end
end Dl
namespace Wr
open PySem L2 PyProof.Rows Dl
variable [Gr] {X:Cx}{pos:Pos}{ta:DA}
end Wr
set_option autoImplicit true
namespace Dl
open PySem L2 PyProof.Rows
class Tb where
 T:Pn
instance (priority:=low) noTb:Tb:=⟨gG⟩
def aq[Tb](a:Addr)(n:Nat):Pn where
 fp:=λb=>b=a\/Tb.T.fp b
 PI:=λH=>(∃x y c:Int,H a=some (.lst [.int x,.int y,.int c])/\0<=c/\c+(n:Int)<=1152921504606846976)/\Tb.T.PI H/\¬Tb.T.fp a
 pv:=.ref a
 mono:=λH H' ⟨⟨x,y,c,h,r⟩,t,na⟩ k=>⟨⟨x,y,c,k _ _ (.inl (.inl rfl)) h,r⟩,Tb.T.mono H H' t λb o z e=>k b o (z.imp .inr id) e,na⟩
 is:=λH b ⟨⟨x,y,z,h,_⟩,t,_⟩ hb=>hb.elim (λhb=>by
  subst hb
  exact⟨_,h,(λxs z=>(nomatch z)),λ⟨_,_,z⟩=>(nomatch z)⟩) (Tb.T.is H b t)
def aB[Tb]{a:Addr}{n m:Nat}{H:Hp}(h:(aq a n).PI H)(hm:m<=n):(aq a m).PI H:=by
 obtain⟨⟨x,y,c,h,c0,c1⟩,t⟩:=h
 exact⟨⟨x,y,c,h,c0,by omega⟩,t⟩
def Ho[Tb]{a:Addr}{n:Nat}:aq a n≠gG:=λh=>by
 have:=congrFun (congrArg Pn.fp h) a
 have h2:(a=a\/Tb.T.fp a)=False:=this
 exact cast h2 (.inl rfl)
def TP:Pn->Prop:=λ_=>True
def Ke:Sl->Sl
 |.pen _=>.pen TP
 |s=>s
def stp(ρ:List Sl):List Sl:=ρ.map Ke
def zx(ρ:List Sl):stp (stp ρ)=stp ρ:=by
 unfold stp
 rw[î]
 refine List.map_congr_left λs _=>?_
 cases s <;> rfl
section
variable [Tb] {X:Cx}{a:Addr}{n m m1 m2 m3:Nat}{H0 Hb H H1 H':Hp}{own:Addr->Option Nat}{σ:L2.St}{ρ:List Sl}
def EnvD.lv(E:EnvD (aq a n) H0 own σ H ρ)(h:(aq a m).PI H):EnvD (aq a m) H0 own σ H (stp ρ):=by
 refine⟨E.k0,h,E.ow,λj s e=>?_,by simp[stp,E.len],trivial⟩
 unfold stp at e
 rw[Þ] at e
 cases e1:ρ[j]? with
 |none=>rw[e1] at e;cases e
 |some s1 =>
  rw[e1] at e
  have e:=ß e
  subst e
  have q:=E.slot j s1 e1
  cases s1 with
  |pen C=>exact⟨q.1,trivial⟩
  |scr v b=>exact⟨q.1,λhb=>absurd (q.2 hb) Ho⟩
  |_=>exact q
def At.lv(A:At (aq a n) H0 own Hb H)(h:m<=n):At (aq a m) H0 own Hb H:=⟨A.k0,A.kp,aB A.penb h,aB A.pen h,A.ow⟩
def Li{k:Kd}:okK (aq a n) H0 own Hb k=okK (aq a m) H0 own Hb k:=by cases k <;> rfl
def Cd{k:Kd}{v:V}{d:D}(r:Rp (okK (aq a n) H0 own Hb k) H v d):Rp (okK (aq a m) H0 own Hb k) H v d:=by
 rw[Li (m:=m)] at r
 exact r
structure EnvB(a:Addr)(n m:Nat)(H0:Hp)(own:Addr->Option Nat)(σ:L2.St)(H:Hp)(ρ:List Sl):Prop where
 st:stp ρ=ρ
 pi:(aq a (n+m)).PI H
 env:EnvD (aq a n) H0 own σ H ρ
def EnvB.up(E:EnvB a n m H0 own σ H ρ)(hm:m1+m2<=m):EnvB a (n+m2) m1 H0 own σ H ρ:=⟨E.st,aB E.pi (by omega),by
 have:=E.env.lv (m:=n+m2) (aB E.pi (by omega))
 rw[E.st] at this
 exact this⟩
def EnvB.first(E:EnvB a n (m1+m2) H0 own σ H ρ):EnvB a (n+m2) m1 H0 own σ H ρ:=E.up (Å _)
def EnvB.next(E:EnvB a n m H0 own σ H ρ)(A:At (aq a (n+m2)) H0 own H H1):EnvB a n m2 H0 own σ H1 ρ:=⟨E.st,A.pen,E.env.go A.kp (aB A.pen (by omega))⟩
def EnvB.low(E:EnvB a n m H0 own σ H ρ)(h:m1<=m):EnvB a n m1 H0 own σ H ρ:=⟨E.st,aB E.pi (by omega),E.env⟩
def gq(m:Nat)(t:DE):TE:=λσ H Q=>∃a n H0 own ρ P,EnvB a n m H0 own σ H ρ/\t ρ P/\∀k d v H',P k d->At (aq a n) H0 own H H'->Rp (okK (aq a n) H0 own H k) H' v d->Q v H'
def rO(m:Nat)(t:DA):TA:=λσ H Q=>∃a n H0 own ρ P,EnvB a n m H0 own σ H ρ/\t ρ P/\∀ks vs H',P ks->At (aq a n) H0 own H H'->RpK (aq a n) H0 own H H' vs ks->Q vs H'
def oJ(m:Nat)(t:DT):TT:=λσ H Q=>∃a n H0 own ρ P,EnvB a n m H0 own σ H ρ/\t ρ P/\∀b H',P b->At (aq a n) H0 own H H'->Q b H'
def Es(m:Nat)(t:DI):TI:=λσ H R=>∃a n H0 own ρ P,EnvB a n m H0 own σ H ρ/\t ρ P/\∀k ds J H1 Ok,P k ds->At (aq a n) H0 own H H1->Wlk Ok J ds (okA (aq a n) H0 own H k H1)->Ok H1->R J H1
def wH(m:Nat)(t:DS):TS:=λQ σ H=>∃a n H0 own ρ P,EnvB a n m H0 own σ H ρ/\t P ρ/\Wish (aq a n) H0 own H P Q
end
end Dl
namespace Wb
open PySem L2 PyProof.Rows Dl Wr
section
variable [Tb]
structure BE(X:Cx)(m:Nat)(e:Expr)(t:DE):Prop where
 h:PE X e (gq m t)
structure BA(X:Cx)(m:Nat)(e:List Expr)(t:DA):Prop where
 h:PA X e (rO m t)
structure BT(X:Cx)(m:Nat)(e:Expr)(t:DT):Prop where
 h:PT X e (oJ m t)
structure BW(X:Cx)(m:Nat)(e:Expr)(t:DT):Prop where
 h:PW X e (oJ m t)
structure BTs(X:Cx)(m:Nat)(e:List Expr)(t:DT):Prop where
 h:PTs X e (oJ m t)
structure BI(X:Cx)(m:Nat)(tg e:Expr)(t:DI):Prop where
 h:PI X tg e (Es m t)
structure BS(X:Cx)(m:Nat)(s:Stmt)(t:DS):Prop where
 h:PS X s (wH m t)
structure BSs(X:Cx)(m:Nat)(s:List Stmt)(t:DS):Prop where
 h:PSs X s (wH m t)
end
section
variable [Tb] {X:Cx}{n m m1 m2 m3:Nat}{H0 Hb H H1 H':Hp}{own:Addr->Option Nat}{σ:L2.St}{ρ:List Sl}{pos:Pos}{a b e:Expr}{es:List Expr}{ta tb te:DE}{t:DA}
def e0(h:WD X e te):BE X 0 e te:=⟨PE.wk h.h (by
 rintro σ H Q ⟨a,n,H0,own,ρ,P,E,t,q⟩
 exact⟨aq a n,H0,own,ρ,P,E.env,t,q⟩)⟩
def a0(h:WDA X es t):BA X 0 es t:=⟨PA.wk h.h (by
 rintro σ H Q ⟨a,n,H0,own,ρ,P,E,t,q⟩
 exact⟨aq a n,H0,own,ρ,P,E.env,t,q⟩)⟩
def t0{t:DT}(h:WDT X e t):BT X 0 e t:=⟨PT.wk h.h (by
 rintro σ H Q ⟨a,n,H0,own,ρ,P,E,t,q⟩
 exact⟨aq a n,H0,own,ρ,P,E.env,t,q⟩)⟩
def i0{t:DI}{tg:Expr}(h:WDI X tg e t):BI X 0 tg e t:=⟨PI.wk h.h (by
 rintro σ H Q ⟨a,n,H0,own,ρ,P,E,t,q⟩
 exact⟨aq a n,H0,own,ρ,P,E.env,t,q⟩)⟩
def s0{t:DS}{s:Stmt}(h:WDS X s t):BS X 0 s t:=⟨PS.wk' h.h (by
 rintro Q σ H ⟨a,n,H0,own,ρ,P,E,t,w⟩
 exact⟨aq a n,H0,own,ρ,P,E.env,t,w⟩)⟩
def ss0{t:DS}{s:List Stmt}(h:WDSs X s t):BSs X 0 s t:=⟨PSs.wk' h.h (by
 rintro Q σ H ⟨a,n,H0,own,ρ,P,E,t,w⟩
 exact⟨aq a n,H0,own,ρ,P,E.env,t,w⟩)⟩
def ts1{t:DT}(h:BT X m e t):BTs X m [e] t:=⟨yc h.h⟩
def aQ(ha:BE X m1 e te)(hr:BA X m2 es t)(hs:zS X e es:=by rfl):BA X (m1+m2) (e::es) (iI te t):=⟨PA.wk (cC ha.h hr.h hs) (by
 rintro σ H Q ⟨a,n,H0,own,ρ,P,E,t,q⟩
 refine⟨a,n+m2,H0,own,ρ,_,E.first,t,λk d v H1 h A r=>?_⟩
 refine⟨a,n,H0,own,ρ,_,E.next A,h,λks vs H2 h2 A2 r2=>?_⟩
 have A':=A.lv (m:=n) (by omega)
 exact q _ _ H2 h2 (A'.base A2) (.cons (gR A' A2.kp (Cd r)) (RpK.base A' r2)))⟩
def lst(h:BA X m es t):BE X m (.List es pos) (Bx t):=⟨PE.wk (qO h.h) (by
 rintro σ H Q ⟨a,n,H0,own,ρ,P,E,t,q⟩
 refine⟨a,n,H0,own,ρ,_,E,t,λks vs H1 h A r=>?_⟩
 have h24:=ì
 have hl:=r.length
 refine⟨by have:=h.1;omega,λl hl=>?_⟩
 obtain⟨k2,i2,nw⟩:=A.new hl (.lst vs)
 have j:=cH (joins ks) .new
 refine q _ _ _ _ h.2 (A.go k2 i2) (.lst (aX A j.2 nw) ao ?_)
 exact(aR A k2 (RpK.all A (Kd.le_refl _) r)).mono (λa o=>aX A j.1 o) (λ_ _ _ e=>e) λ_ _ e=>e)⟩
def tup{x1:Nat}(h:BA X m es t):BE X m (.Tuple es x1 pos) (vK t):=⟨PE.wk (vU h.h) (by
 rintro σ H Q ⟨a,n,H0,own,ρ,P,E,t,q⟩
 refine⟨a,n,H0,own,ρ,_,E,t,λks vs H1 h A r=>?_⟩
 have h24:=ì
 have hl:=r.length
 refine⟨by have:=h.1;omega,λl hl=>?_⟩
 obtain⟨k2,i2,nw⟩:=A.new hl (.tup vs)
 exact q _ _ _ _ h.2 (A.go k2 i2) (aM (.tup ao (aR A k2 (RpK.all A (Kd.le_refl _) r)))))⟩
def jN{g:G2}{r:R2}(ok:Ok2 g r):∀σ H Q,gq (m1+m2) (t2 g ta tb) σ H Q->tOp r (gq m1 ta) (gq m2 tb) σ H Q:=by
 rintro σ H Q ⟨a,n,H0,own,ρ,P,E,t,q⟩
 refine⟨a,n+m2,H0,own,ρ,_,E.first,t,λk1 d1 v1 H1 t1 A1 r1=>?_⟩
 refine⟨a,n,H0,own,ρ,_,E.next A1,t1,λk2 d2 v2 H2 t2 A2 r2=>?_⟩
 have A1':=A1.lv (m:=n) (by omega)
 have A:At (aq a n) H0 own H H2:=A1'.base A2
 exact ok (aq a n) H0 own H H2 v1 v2 k1 d1 k2 d2 P Q A (gR A1' A2.kp (Cd r1)) (fX A1' r2) t2 λk d v H' h k3 i3 r3=>q k d v H' h (A.go k3 i3) r3
def op{o:Operator}{r:R2}{g:G2}(ho:OpR X (binaryOp o) r)(ok:Ok2 g r)(ha:BE X m1 a ta)(hb:BE X m2 b tb):BE X (m1+m2) (.BinOp a o b pos) (t2 g ta tb):=⟨PE.wk (aO ho ha.h hb.h) (jN ok)⟩
def iw{t:DE}:∀σ H Q,oJ m (cN t) σ H Q->(gq m t) σ H (λx H'=>∃k,x=.bl k/\Q k H'):=by
 rintro σ H Q ⟨a,n,H0,own,ρ,P,E,t,q⟩
 refine⟨a,n,H0,own,ρ,_,E,t,λk d v H' h A r=>?_⟩
 cases d with
 |bool b=>exact⟨b,r.bl',q b H' h A⟩
 |_=>exact h.elim
def J7{o:CmpOp}{r:R2}{g:G2}(ho:OpR X (compareOp o) r)(ok:Ok2 g r)(ha:BE X m1 a ta)(hb:BE X m2 b tb)(hm:behindInMarks o b=false):BT X (m1+m2) (.Compare a [o] [b] pos) (cN (t2 g ta tb)) :=
 ⟨PT.wk (iR ho ha.h hb.h hm) λσ H Q h=>jN ok σ H _ (iw σ H Q h)⟩
def tval{t:DE}(h:BE X m e t)(he:∀whole,isTrue e X.env whole=(do let v ←whole;standAt e.pos;holding [v] (truthy v)):=by intro _;rfl):BT X m e (cN t) :=
 ⟨PT.wk (Cv h.h he) λσ H Q q=>iw σ H Q q⟩
def M7{t:DT}(ha:BT X m a t):BT X m (.UnaryOp .Not a pos) (Mw t):=⟨PT.wk (Cw ha.h) (by
 rintro σ H Q ⟨a,n,H0,own,ρ,P,E,t,q⟩
 exact⟨a,n,H0,own,ρ,_,E,t,λb H' h A=>q _ H' h A⟩)⟩
section
variable {rest:List Expr}{t u:DT}
def PK(ha:BT X m a t):BW X m (.BoolOp .And [a] pos) t:=⟨xZ ha.h⟩
def or1(ha:BT X m a t):BW X m (.BoolOp .Or [a] pos) t:=⟨Cr ha.h⟩
def PJ(ha:BT X m1 a t)(hb:BW X m2 (.BoolOp .And (b::rest) pos) u):BW X (m1+m2) (.BoolOp .And (a::b::rest) pos) (Gm t u):=⟨PW.wk (Cu ha.h hb.h) (by
 rintro σ H Q ⟨a,n,H0,own,ρ,P,E,t,q⟩
 refine⟨a,n+m2,H0,own,ρ,_,E.first,t,λb H' h A=>?_⟩
 have A':=A.lv (m:=n) (by omega)
 cases b with
 |true=>exact bf ⟨a,n,H0,own,ρ,P,E.next A,by simpa using h,λc H2 h2 A2=>q c H2 h2 (A'.base A2)⟩
 |false=>exact bw (q false H' (by simpa using h) A'))⟩
def or2(ha:BT X m1 a t)(hb:BW X m2 (.BoolOp .Or (b::rest) pos) u):BW X (m1+m2) (.BoolOp .Or (a::b::rest) pos) (dOr t u):=⟨PW.wk (Jv ha.h hb.h) (by
 rintro σ H Q ⟨a,n,H0,own,ρ,P,E,t,q⟩
 refine⟨a,n+m2,H0,own,ρ,_,E.first,t,λb H' h A=>?_⟩
 have A':=A.lv (m:=n) (by omega)
 cases b with
 |true=>exact bf (q true H' (by simpa using h) A')
 |false=>exact bw ⟨a,n,H0,own,ρ,P,E.next A,by simpa using h,λc H2 h2 A2=>q c H2 h2 (A'.base A2)⟩)⟩
def wt(h:BW X m e t):BT X m e t:=⟨PW.pt h.h⟩
end
def rN{f:List D->(D->Prop)->Prop}{t:DA}:∀σ H Q,gq m (tFn f t) σ H Q->tX (spD f) [] E0 (rO m t) σ H Q:=by
 rintro σ H Q ⟨a,n,H0,own,ρ,P,E,t,q⟩
 refine⟨a,n,H0,own,ρ,_,E,t,λks vs H1 h A r=>?_⟩
 show spD f (vs++[]) H1 Q E0
 rw[õ]
 refine⟨ks.map (·.2),_,(RpK.rps A r).mono (λ_ _=>trivial) (λ_ _ _ e=>e) λ_ _ e=>e,h,λd v H' h2 s r2=>?_⟩
 have k2:Kp (aq a n) H1 H':=Kp.of s
 refine q _ d v H' h2 (A.go k2 ((aq a n).mono H1 H' A.pen λb o _ e=>s b o e)) (aM ?_)
 exact r2.mono (λa o=>A.free o) (λ_ _ _ e=>e) λ_ _ e=>e
end
end Wb
namespace Dl
open PySem L2 PyProof.Rows
section
variable [Tb]
def cU(m:Nat)(f:List D->(D->Prop)->Prop):Sp:=λvs H Q _=>∃(a:Addr) (n:Nat) (vs':List V) (ds:List D) (P:D->Prop),vs=.ref a::vs'/\(aq a (n+m)).PI H/\Rps (λb=>¬(aq a n).fp b) H vs' ds/\f ds P/\∀d v H',P d->Kp (aq a n) H H'->(aq a n).PI H'->Rp (λb=>H b=none) H' v d->Q v H'
def fK{m:Nat}{f:List D->(D->Prop)->Prop}{n:Nat}(hn:∀ds P,f ds P->ds.length=n:=by intro _ _ h;repeat (first|(obtain⟨rfl,_⟩:=h;rfl)|obtain⟨_,h⟩:=h)):∀vs H Q E,cU m f vs H Q E->vs.length=n+1:=λvs H Q E h=>by
 obtain⟨p,_,vs',ds,P,rfl,_,r,t,_⟩:=h
 rw[ð,r.length,hn ds P t]
end
end Dl
namespace Wb
open PySem L2 PyProof.Rows Dl Wr
section
variable [Tb]
def dc{f:List D->(D->Prop)->Prop}{t:DA}{ps:List Str}{x:Str}{pp:Pos}{k j:Nat}(C:Cal X.prog X.w X.K X.mg X.base k x ps (spD f))(hr:Room j X.A)(ha:BA X m (e::es) t)(hk:k<=j:=by decide)(hg:Gl X x:=by rfl)(hdb:zB x:=by decide)(he:zS X e es:=by rfl)(hpl:zP X pos es:=by rfl):BE X m (.Call (.Name x pp) (e::es) [] pos) (tFn f t):=⟨PE.wk (pcS C hr ha.h hk hg hdb he hpl) rN⟩
def dcP{f:List D->(D->Prop)->Prop}{t:DA}{ps:List Str}{x y:Str}{pp py:Pos}{k j i:Nat}(C:Cal X.prog X.w X.K X.mg X.base k x ps (cU m f))(hr:Room j X.A)(hi:WV X (.Name y py) i)(ha:BA X m1 es t)(hk:k<=j:=by decide)(hg:Gl X x:=by rfl)(hdb:zB x:=by decide)(he:starEach (.Name y py::es) X.env=(false,eval (.Name y py) X.env)::starEach es X.env:=by rfl)(hpl:zP X pos es:=by rfl):BE X (m1+m) (.Call (.Name x pp) (.Name y py::es) [] pos) (Qp TP f i t):=⟨PE.wk (pcS C hr (cC hi.h ha.h) hk hg hdb he hpl) (by
 rintro σ H Q ⟨a,n,H0,own,ρ,P,E,⟨hp,t⟩,q⟩
 obtain⟨hs,_⟩:=E.env.slot i _ hp
 refine⟨.ref a,hs,a,n+m,H0,own,ρ,_,E.first,t,λks vs H1 h A r=>?_⟩
 show cU m f ((.ref a::vs)++[]) H1 Q E0
 rw[õ]
 have A':=A.lv (m:=n) (by omega)
 have rr:Rps (λb=>¬(aq a n).fp b) H1 vs (ks.map (·.2)):=(RpK.rps A r).mono (λ_ o=>o) (λ_ _ _ e=>e) λ_ _ e=>e
 refine⟨a,n,vs,ks.map (·.2),_,rfl,A.pen,rr,h,λd v H' h2 k2 i2 r2=>?_⟩
 exact q _ d v H' h2 (A'.go k2 i2) (aM (r2.mono (λa o=>A'.free o) (λ_ _ _ e=>e) λ_ _ e=>e)))⟩
def Cp{tg:Expr}{ta:DA}{ps:Pos}(hm:X.mg "range"=none)(ha:BA X m [a] ta)(hg:Gl X "range":=by rfl)(hs:starEach [a] X.env=[(false,eval a X.env)]:=by rfl):BI X m tg (.Call (.Name "range" ps) [a] [] pos) (iR1 ta):=⟨PI.wk (kE hg hm ha.h hs) (by
 rintro σ H R ⟨a,n,H0,own,ρ,P,E,t,q⟩
 refine⟨a,n,H0,own,ρ,_,E,t,λks vs H1 h A r=>?_⟩
 split at h
 ·rename_i k j
  obtain⟨v,rfl,r'⟩:=eY r
  exact⟨j,by rw[r'.int'],h.1.1,h.1.2,q _ _ _ H1 _ h.2 A nj trivial⟩
 ·exact h.elim)⟩
def sT(t:DT):DT:=λρ P=>t (stp ρ) P
def sE(t:DE):DE:=λρ P=>t (stp ρ) P
def uN{l i M:Nat}(h:i<l):(l - i) * M=(l - (i+1)) * M+M:=by
 have:l - i=(l - (i+1))+1:=by omega
 rw[this,Nat.add_mul,Nat.one_mul]
def mU{k0 mi mt me:Nat}{ti:DI}{g:DG}{tt:DT}{te:DE}:∀σ H Q,gq (mi+1000 * (mt+me)) (dLC k0 ti g (sT tt) (sE te)) σ H Q->tLC k0 (Es mi ti) (λ_=>Et g) (λ_=>oJ mt tt) (λ_=>gq me te) σ H Q:=by
 rintro σ H Q ⟨a,n,H0,own,ρ,P,E,t,q⟩
 refine⟨a,n+1000 * (mt+me),H0,own,ρ,_,E.first,t,λk ds J H1 Ok h A W o1=>?_⟩
 obtain⟨hlen,ke,Iv,i0,step,done⟩:=h
 have A0:At (aq a n) H0 own H H1:=A.lv (by omega)
 have okS:∀H',Kp (aq a n) H1 H'->Ok H':=λH' K=>W.stab H1 H' o1 (λb o n e=>K b o e (iW A n.1)) (iz A0 K)
 refine⟨λi m ys H'=>m=ds.length - i/\i<=ds.length/\Kp (aq a n) H1 H'/\(aq a (n+(ds.length - i) * (mt+me))).PI H'/\∃es,Rps (okK (aq a n) H0 own H ke) H' ys es/\es.length<=i/\Iv i es,⟨_,rfl,û _,Kp.refl,aB A.pen (Nat.add_le_add_left (Nat.mul_le_mul_right _ (by omega)) _),[],.nil,Å _,i0⟩,?_⟩
 rintro c i m ys H' ⟨rfl,hi,K',I',es,rs,hl,iv⟩
 have oH:=okS H' K'
 have A':At (aq a n) H0 own H H':=A0.go K' (aB I' (by omega))
 have h24:=ì
 by_cases hlt:i<ds.length
 ·rw[uN hlt] at I'
  refine .inr ⟨W.go i H' oH hlt,by have:=rs.length;omega,λys' H2=>Kp (aq a n) H1 H2/\(aq a (n+(ds.length - (i+1)) * (mt+me))).PI H2/\∃es,Rps (okK (aq a n) H0 own H ke) H2 ys' es/\es.length<=i+1/\Iv (i+1) es,λys' H2 h=>⟨_,by omega,rfl,hlt,h⟩,λx H2 y=>?_⟩
  generalize hN:n+(ds.length - (i+1)) * (mt+me)=N at *
  obtain⟨sm,rx⟩:=W.yld i H' x H2 oH y
  have rx:=rx ds[i] (Ä hlt)
  have I2:(aq a (N+(mt+me))).PI H2:=(aq a (N+(mt+me))).mono H' H2 (by rw[←hN,Nat.add_assoc];exact I') λb o _ e=>sm b o e
  have K2:Kp (aq a n) H1 H2:=K'.trans (Kp.of sm)
  have A2:At (aq a n) H0 own H H2:=A0.go K2 (aB I2 (by omega))
  have E2:EnvD (aq a n) H0 own σ H2 ρ:=E.env.go A2.kp A2.pen
  have rs2:=aR A' (Kp.of sm) rs
  have rxc:Rp (okB (aq a n) H0 own (elC k)) H2 x ds[i]:=JF A rx
  refine⟨aq a n,H0,own,_,_,_,_,E2.comp k0,fB rxc,step i ds[i] es (Ä hlt) iv,λσ3 ρ3 E3 t3=>?_⟩
  have B3:EnvB a (N+me) mt H0 own σ3 H2 (stp ρ3):=⟨zx _,by rw[show N+me+mt=N+(mt+me) by omega];exact I2,E3.lv (aB I2 (by omega))⟩
  refine⟨a,N+me,H0,own,stp ρ3,_,B3,t3,λb H4 h4 A4=>?_⟩
  have A4':At (aq a n) H0 own H2 H4:=A4.lv (by omega)
  have A5:At (aq a n) H0 own H H4:=A2.base A4'
  have rs4:=aR A2 A4'.kp rs2
  cases b with
  |true =>
   have E4:EnvD (aq a N) H0 own σ3 H2 (stp ρ3):=E3.lv (aB I2 (by omega))
   refine bf ⟨a,N,H0,own,stp ρ3,_,⟨zx _,A4.pen,E4.go A4.kp (aB A4.pen (by omega))⟩,(show sE te ρ3 _ by simpa using h4),λk' d' v H6 h6 A6 r6=>?_⟩
   have A6':At (aq a n) H0 own H4 H6:=A6.lv (by omega)
   refine⟨(K2.trans A4'.kp).trans A6'.kp,A6.pen,es++[d'],(aR A5 A6'.kp rs4).snoc (jd (A5.base A6') h6.1 (aM (fX A5 (Cd r6)))),by simp;omega,h6.2⟩
  |false=>exact bw ⟨K2.trans A4'.kp,aB A4.pen (by omega),es,rs4,by omega,by simpa using h4⟩
 ·have e:i=ds.length:=by omega
  subst e
  refine .inl ⟨W.stop H' oH,λl hl'=>?_⟩
  obtain⟨k7,i7,nw⟩:=A'.new hl' (.lst ys)
  have j:=cH ke .new
  refine q _ _ _ _ (done es iv) (A'.go k7 i7) (.lst (aX A' j.2 nw) ao ?_)
  exact(aR A' k7 rs).mono (λa o=>aX A' j.1 o) (λ_ _ _ e=>e) λ_ _ e=>e
def lc{mi mt me:Nat}{tg iter elt:Expr}{ifs:List Expr}{scope:Scope}{ti:DI}{g:DG}{tt:DT}(own:List Str)(hc:X.calm=true)(hi:BI X mi tg iter ti)(hg:∀c,WDG (X.comp own scope c) tg g)(ht:∀c,BTs (X.comp own scope c) mt ifs tt)(he:∀c,BE (X.comp own scope c) me elt te)(hk:d8 X.env scope X.N=true:=by rfl)(hs:zF X iter:=by intro _;rfl) :
  BE X (mi+1000 * (mt+me)) (.ListComp elt [⟨tg,iter,ifs,0⟩] scope pos) (dLC own.length ti g (sT tt) (sE te)):=⟨PE.wk (CV own hc hi.h (λc=>(hg c).h) (λc=>(ht c).h) (λc=>(he c).h) hk hs) mU⟩
end
section
variable [Tb] {X:Cx}{n m m1 m2 m3:Nat}{H0 Hb H H1 H':Hp}{own:Addr->Option Nat}{σ:L2.St}{ρ:List Sl}{pos:Pos}{a b e:Expr}{es:List Expr}{ta tb te:DE}
def QB{K:Ø}:Ok2 gIx (λx y H Q=>N8 K x y H Q\/N7 K x y H Q):=by
 intro p H0 own Hb H x y k1 d1 k2 d2 P Q A r1 r2 t q
 unfold gIx at t
 split at t
 ·rename_i ds i
  obtain⟨d,hd,t⟩:=t
  obtain⟨c,vs,rfl,o,hc,rs⟩:=r1.cJ
  obtain⟨v,hv,rv⟩:=rs.atI hd
  exact .inl ⟨c,vs,i,v,rfl,r2.int',SqL.of hc,hv,q _ _ _ _ t Kp.refl A.pen (aM rv)⟩
 ·rename_i ds i
  obtain⟨d,hd,t⟩:=t
  obtain⟨c,vs,rfl,hc,rs⟩:=r1.fW
  obtain⟨v,hv,rv⟩:=rs.atI hd
  exact .inr ⟨c,vs,i,v,rfl,r2.int',SqT.of hc,hv,q _ _ _ _ t Kp.refl A.pen (aM rv)⟩
 ·exact t.elim
def ix(ha:BE X m1 a ta)(hb:BE X m2 b tb)(hs:jZ b:=by exact λ_ _=>rfl):BE X (m1+m2) (.Subscript a b pos) (t2 gIx ta tb):=⟨PE.wk (eG (IxR.or bO wI) ha.h hb.h hs) (jN QB)⟩
def plus(ha:BE X m1 a ta)(hb:BE X m2 b tb):BE X (m1+m2) (.BinOp a .Add b pos) (t2 Fp ta tb):=op (Dl.OpR.or cY (Dl.OpR.or wu yw)) (by
 intro p H0 own Hb H x y k1 d1 k2 d2 P Q A r1 r2 t q
 cases d1 with
 |int i =>
  cases d2 with
  |int j=>exact .inl ⟨i,j,r1.int',r2.int',q _ _ _ _ t Kp.refl A.pen (.int _)⟩
  |_=>exact t.elim
 |list ds=>exact .inr (.inl (DY p H0 own Hb H x y k1 _ k2 d2 P Q A r1 r2 t q))
 |tuple ds=>exact .inr (.inr (DX p H0 own Hb H x y k1 _ k2 d2 P Q A r1 r2 t q))
 |_=>exact t.elim) ha hb
def times(ha:BE X m1 a ta)(hb:BE X m2 b tb):BE X (m1+m2) (.BinOp a .Mult b pos) (t2 wO ta tb):=op (Dl.OpR.or cD Dj) (by
 intro p H0 own Hb H x y k1 d1 k2 d2 P Q A r1 r2 t q
 cases d1 with
 |int i =>
  cases d2 with
  |int j=>exact .inl ⟨i,j,r1.int',r2.int',t.1,q _ _ _ _ t.2 Kp.refl A.pen (.int _)⟩
  |_=>exact t.elim
 |list ds=>exact .inr (Jz p H0 own Hb H x y k1 _ k2 d2 P Q A r1 r2 t q)
 |_=>exact t.elim) ha hb
def sub(ha:BE X m1 a ta)(hb:BE X m2 b tb):BE X (m1+m2) (.BinOp a .Sub b pos) (t2 (gI0 λi j=>.int (i - j)) ta tb):=op Di (oh λi j _=>.int _) ha hb
def mod(ha:BE X m1 a ta)(hb:BE X m2 b tb):BE X (m1+m2) (.BinOp a .Mod b pos) (t2 (gI (λ_ j=>0<j) λi j=>.int (i % j)) ta tb):=op dX (okI λi j _=>.int _) ha hb
def fdiv(ha:BE X m1 a ta)(hb:BE X m2 b tb):BE X (m1+m2) (.BinOp a .FloorDiv b pos) (t2 (gI Qa λi j=>.int (i / j)) ta tb):=op yu (okI λi j _=>.int _) ha hb
def tgt(ha:BE X m1 a ta)(hb:BE X m2 b tb):BT X (m1+m2) (.Compare a [.Gt] [b] pos) (cN (t2 (gI0 λi j=>.bool (decide (j<i))) ta tb)):=J7 uD (oh λi j _=>.bl _) ha hb (aY _)
def teq(hu:X.A.units+64<cLine)(ha:BE X m1 a ta)(hb:BE X m2 b tb):BT X (m1+m2) (.Compare a [.Eq] [b] pos) (cN (t2 (jk false) ta tb)):=J7 (Dl.OpR.or Jy (Dt hu)) JD ha hb (aY _)
def tne(hu:X.A.units+64<cLine)(ha:BE X m1 a ta)(hb:BE X m2 b tb):BT X (m1+m2) (.Compare a [.NotEq] [b] pos) (cN (t2 (jk true) ta tb)):=J7 (Dl.OpR.or yr (wj hu)) DP ha hb (aY _)
def sEn(P:DEnds):DEnds:={ nx:=λr=>P.nx (stp r),rt:=P.rt,bk:=λr=>P.bk (stp r),ct:=λr=>P.ct (stp r) }
def sS(t:DS):DS:=λP ρ=>t (sEn P) (stp ρ)
def QV(ti:DI):DI:=λρ P=>ti ρ λk ds=>ds.length<=1000/\P k ds
def gw{A:Addr}{o1 o2:Addr->Option Nat}{H H':Hp}(f:FrS (aq A n) o1 H o2 H'):FrS (aq A m) o1 H o2 H':=⟨f.keep,f.tup⟩
def nC{A:Addr}{v:V}{d:D}(r:RPost (aq A n) H0 H v d)(h:m<=n):RPost (aq A m) H0 H v d:=⟨r.k0,aB r.pen h,r.rp⟩
def Gi(t u:DS):DS:=λP ρ=>t { nx:=λr=>u P (stp r),rt:=P.rt,bk:=λr=>P.bk (stp r),ct:=λr=>P.ct (stp r) } ρ
section
variable {st:Stmt}{rest:List Stmt}{t u:DS}
def cons(h1:BS X m1 st t)(h2:BSs X m2 rest u):BSs X (m1+m2) (st::rest) (Gi t u):=⟨PSs.wk' (jB h1.h h2.h) (by
 rintro Q σ H ⟨a,n,H0,own,ρ,P,E,t,w⟩
 refine⟨a,n+m2,H0,own,ρ,_,E.first,t,⟨λo s h r e g nn=>⟨a,n,H0,o,stp r,P,⟨zx _,e.pen,e.lv (aB e.pen (by omega))⟩,nn,w.go (gw g)⟩,λd v H' h r=>w.rt d v H' h (nC r (by omega)),
  λo s h r e g nn=>w.bk o s h (stp r) (e.lv (aB e.pen (by omega))) (gw g) nn,λo s h r e g nn=>w.ct o s h (stp r) (e.lv (aB e.pen (by omega))) (gw g) nn⟩⟩)⟩
def Pu(t u:DS):DS:=λP ρ=>∃Mid:List Sl->Prop,t { nx:=λr=>Mid (stp r),rt:=P.rt,bk:=λr=>P.bk (stp r),ct:=λr=>P.ct (stp r) } ρ/\∀ρ',Mid ρ'->u P ρ'
def gH(h1:BS X m1 st t)(h2:BSs X m2 rest u):BSs X (m1+m2) (st::rest) (Pu t u):=⟨PSs.wk' (jB h1.h h2.h) (by
 rintro Q σ H ⟨a,n,H0,own,ρ,P,E,⟨Mid,t,k⟩,w⟩
 refine⟨a,n+m2,H0,own,ρ,_,E.first,t,⟨λo s h r e g nn=>⟨a,n,H0,o,stp r,P,⟨zx _,e.pen,e.lv (aB e.pen (by omega))⟩,k _ nn,w.go (gw g)⟩,λd v H' h r=>w.rt d v H' h (nC r (by omega)),
  λo s h r e g nn=>w.bk o s h (stp r) (e.lv (aB e.pen (by omega))) (gw g) nn,λo s h r e g nn=>w.ct o s h (stp r) (e.lv (aB e.pen (by omega))) (gw g) nn⟩⟩)⟩
def one(h1:BS X m st t):BSs X m [st] t:=⟨cT h1.h⟩
def xM{j:Nat}{s:Sl}(h:stp ρ=ρ)(hs:Ke s=s):stp (ρ.set j s)=ρ.set j s:=by
 unfold stp at h ⊢
 rw[List.map_set,h,hs]
def pJ:∀(js:List Nat) {ρ:List Sl},stp ρ=ρ->stp (js.foldl (λρ j=>ρ.set j .any) ρ)=js.foldl (λρ j=>ρ.set j .any) ρ
 |[],_,h=>h
 |_::js,_,h=>pJ js (xM h rfl)
def drops(js:List Nat)(h:BSs X m rest t):BSs X m rest (wX js t):=⟨PSs.wk' h.h (by
 rintro Q σ H ⟨a,n,H0,own,ρ,P,E,q,w⟩
 exact⟨a,n,H0,own,_,P,⟨pJ js E.st,E.pi,E.env.drops js⟩,q,w⟩)⟩
def ret(he:BE X m e te):BS X m (.Return (some e) pos) (Gj te):=⟨PS.wk' (jh he.h) (by
 rintro Q σ H ⟨a,n,H0,own,ρ,P,E,t,w⟩
 refine⟨a,n,H0,own,ρ,_,E,t,λk d v H' h A r=>w.rt d v H' h.2 ⟨λb o e n=>A.kp b o (A.k0 b o e n) n,A.pen,?_⟩⟩
 exact jd A h.1 r)⟩
def if_{c:Expr}{a b:List Stmt}{tc:DT}{mc:Nat}(hc:BT X mc c tc)(ha:BSs X m1 a t)(hb:BSs X m2 b u):BS X (mc+(m1+m2)) (.If c a b pos) (dIf tc t u):=⟨PS.wk' (pO hc.h ha.h hb.h) (by
 rintro Q σ H ⟨a,n,H0,own,ρ,P,E,t,w⟩
 refine⟨a,n+(m1+m2),H0,own,ρ,_,E.first,t,λb H' h A=>?_⟩
 have A':=A.lv (m:=n) (by omega)
 have E1:=E.next A
 cases b with
 |true=>exact bf ⟨a,n,H0,own,ρ,P,E1.low (by omega),by simpa using h,w.go A'.frs⟩
 |false=>exact bw ⟨a,n,H0,own,ρ,P,E1.low (by omega),by simpa using h,w.go A'.frs⟩)⟩
def Qq{i:Nat}(rg:Option Nat)(h:PS X st (tY (gq m te) (jf i))):BS X m st (wW i rg te):=⟨PS.wk' h (by
 rintro Q σ H ⟨a,n,H0,own,ρ,P,EB,t,w⟩
 have E:=EB.env
 refine⟨a,n,H0,own,ρ,_,EB,t,λk d v H1 h A r=>?_⟩
 generalize aq a n=p at *
 have r:=aM r
 generalize norm k d=k' at h r
 show Q.nx (σ.set i (some v)) H1
 have E1:=E.go A.kp A.pen
 have fin:∀s,gB p H0 own (σ.set i (some v)) H1 i s\/¬i<σ.length->P.nx (ρ.set i s)->Q.nx (σ.set i (some v)) H1:=λs hs hn =>
  w.nx own _ H1 _ (E1.set λhl=>hs.elim id λz=>absurd hl z) A.frs hn
 have here:i<σ.length->(σ.set i (some v))[i]?=some (some v):=λhl=>ý hl
 by_cases hl:i<σ.length
 ·cases k' with
  |imm=>exact fin (.im d) (.inl ⟨v,here hl,r⟩) h
  |new =>
   cases rg with
   |none=>exact fin (.sn d) (.inl ⟨v,here hl,jd A (k:=.snw) rfl r⟩) h
   |some q =>
    simp only[Dl.stK] at h
    by_cases hf:Ft q ρ i=true
    ·rw[if_pos hf] at h
     have E2:EnvD p H0 (bK q own) σ H (ρ.set i .any):=(E.drop (i:=i)).clear hf
     have A2:At p H0 (bK q own) H H1:=⟨A.k0,A.kp,A.penb,A.pen,E2.ow⟩
     have E3:=E2.adopt q A2
     have r2:Rp (okK p H0 (bK q own) H .new) H1 v d:=r
     have E4:EnvD p H0 (bT q H H1 (bK q own)) (σ.set i (some v)) H1 ((ρ.set i .any).set i (.dw q d)):=E3.set λ_=>⟨v,here hl,vA (k:=.new) rfl A2 r2⟩
     rw[List.set_set] at E4
     exact w.nx _ _ H1 _ E4 (ql.trans (lE A2)) h
    ·rw[if_neg hf] at h
     exact h.elim
  |reg q=>exact fin (.dw q d) (.inl ⟨v,here hl,r⟩) h
  |n0=>exact h.elim
  |snw=>exact fin (.sn d) (.inl ⟨v,here hl,r⟩) h
  |shr=>exact fin (.sh d) (.inl ⟨v,here hl,r⟩) h
  |wk=>exact h.elim
 ·cases hs:stK rg ρ i k' d with
  |none=>rw[hs] at h;exact h.elim
  |some s=>rw[hs] at h;exact fin s (.inr hl) h)⟩
def set{i:Nat}{x:Str}{pos':Pos}(rg:Option Nat)(hN:X.N.Nodup)(hi:X.N[i]?=some x)(hx:Loc X.env.scope x)(he:BE X m e te)(hs:swapsWith e (some (.Name x pos')) pos.line X.env=pure false:=by rfl)(hf:zL X x:=by first|exact .inl rfl|exact .inr rfl|assumption) :
  BS X m (.Assign [.Name x pos'] e pos) (wW i rg te):=Qq rg (cW hN hi hx he.h hs hf)
def Q8{i:Nat}(h:PS X st (xK (tBM X.K "list" qM (vJ i) (rO m (iI te tu))))):BS X m st (wY i te):=⟨PS.wk' h (by
 rintro Q σ H ⟨a,n,H0,own,ρ,P,EB,t,w⟩
 have E:=EB.env
 unfold wY at t
 split at t
 ·rename_i r ds hr
  obtain⟨v,hv,x⟩:=E.slot i _ hr
  obtain⟨l,vs,rfl,hl,ho,rs⟩:=x.cJ
  refine⟨.ref l,hv,.inl ⟨rfl,vs,SqL.of ho⟩,a,n,H0,own,ρ,_,EB,yx t,?_⟩
  rintro ks ws H1 ⟨k,d,rfl,hk,hlen,hn⟩ A rk
  obtain⟨y,rfl,ry⟩:=eY rk
  have ry:=jd A hk (aM ry)
  have h1:H1 l=some (.lst vs):=A.kp l _ ho (E.ow l r hl).2.1
  have h24:=ì
  have hln:=rs.length
  refine⟨l,vs,y,rfl,rfl,h1,by omega,?_⟩
  obtain⟨E2,F2⟩:=E.vP (vs':=vs++[y]) (ds':=ds++[d]) A hv hl ho rs λH2 f g=>(mJ f rs λd hd=>j6 hd).snoc (g ry)
  exact w.nx _ σ _ _ E2 F2 hn
 ·exact t.elim)⟩
def append{i:Nat}{x:Str}{apos cpos np:Pos}(hv:WV X (.Name x np) i)(ha:BA X m (e::es) (iI te tu))(hbase:attributeBase (.Name x np) "append" X.env (eval (.Name x np) X.env)=eval (.Name x np) X.env:=by rfl)(hfew:zW X cpos (e::es):=by rfl)(hline:(apos.endLine == cpos.line)=true:=by rfl)(hst:zS X e es:=by rfl)(hplain:zP X cpos es:=by rfl)(hs:swapsWith (.Call (.Attribute (.Name x np) "append" apos) (e::es) [] cpos) none pos.line X.env=pure false:=by rfl) :
  BS X m (.Expr (.Call (.Attribute (.Name x np) "append" apos) (e::es) [] cpos) pos) (wY i te):=Q8 (mL (yh ŧ PySem.F.slot_list_append PySem.F.type_list_append pR hv.h ha.h hbase hfew hline hst hplain) hs)
def Q0{i:Nat}(h:PS X st (xK (tBM X.K "list" xY (vJ i) (rO m (iI te tu))))):BS X m st (Mx i te):=⟨PS.wk' h (by
 rintro Q σ H ⟨a,n,H0,own,ρ,P,EB,t,w⟩
 have E:=EB.env
 unfold Mx at t
 split at t
 ·rename_i r ds hr
  obtain⟨v,hv,x⟩:=E.slot i _ hr
  obtain⟨l,vs,rfl,hl,ho,rs⟩:=x.cJ
  refine⟨.ref l,hv,.inl ⟨rfl,vs,SqL.of ho⟩,a,n,H0,own,ρ,_,EB,yx t,?_⟩
  rintro ks ws H1 ⟨k,d,rfl,hh⟩ A rk
  cases d with
  |list es =>
   obtain⟨hk,hlen,hn⟩:=hh
   obtain⟨y,rfl,ry⟩:=eY rk
   obtain⟨b,zs,e1,o1,hb,rz⟩:=Rp.cJ ry
   subst e1
   have rz2:Rps (okK (aq a n) H0 own H .new) H1 zs es:=by
    rcases Bool.or_eq_true_iff.mp hk with q|q
    ·exact rz.mono (λa o=>aX A q o) (λ_ _ _ e=>e) λ_ _ e=>e
    ·exact(Rps.imm rz q).mono (λa o=>o.elim) (λ_ _ _ e=>e) λ_ _ e=>e
   have h1:H1 l=some (.lst vs):=A.kp l _ ho (E.ow l r hl).2.1
   have h24:=ì
   have l1:=rs.length
   have l2:=rz.length
   refine⟨l,b,vs,zs,rfl,rfl,h1,hb,by omega,?_⟩
   obtain⟨E2,F2⟩:=E.vP (vs':=vs++zs) (ds':=ds++es) A hv hl ho rs λH2 f g=>(mJ f rs λd hd=>j6 hd).app (ur g rz2)
   exact w.nx _ σ _ _ E2 F2 hn
  |_=>exact hh.elim
 ·exact t.elim)⟩
def extend{i:Nat}{x:Str}{apos cpos np:Pos}(hv:WV X (.Name x np) i)(ha:BA X m (e::es) (iI te tu))(hbase:attributeBase (.Name x np) "extend" X.env (eval (.Name x np) X.env)=eval (.Name x np) X.env:=by rfl)(hfew:zW X cpos (e::es):=by rfl)(hline:(apos.endLine == cpos.line)=true:=by rfl)(hst:zS X e es:=by rfl)(hplain:zP X cpos es:=by rfl)(hs:swapsWith (.Call (.Attribute (.Name x np) "extend" apos) (e::es) [] cpos) none pos.line X.env=pure false:=by rfl) :
  BS X m (.Expr (.Call (.Attribute (.Name x np) "extend" apos) (e::es) [] cpos) pos) (Mx i te):=Q0 (mL (yh ŧ PySem.F.slot_list_extend PySem.F.type_list_extend Aa hv.h ha.h hbase hfew hline hst hplain) hs)
def Lj{A:Addr}{k:Kd}:okB (aq A n) H0 own k=okB (aq A m) H0 own k:=by cases k <;> rfl
def for_{tg iter:Expr}{body:List Stmt}{ti:DI}{g:DG}{tb:DS}{mi mb:Nat}(hp:PassesOwn (model X.prog X.w) X.A X.env X.xe)(hc:X.calm=true)(hi:BI X mi tg iter ti)(hg:WDG X tg g)(hb:BSs X mb body tb)(hs:zF X iter:=by intro _;rfl):BS X (mi+1000 * mb) (.For tg iter body [] pos) (Jj (QV ti) g (sS tb)):=⟨PS.wk' (Cz hp hc hi.h hg.h hb.h hs) (by
 rintro Q σ H ⟨a,n,H0,own,ρ,P,E,t,w⟩
 refine⟨a,n+1000 * mb,H0,own,ρ,_,E.first,t,λk ds J H1 Ok h A W o1=>?_⟩
 obtain⟨hlen,hk,Iv,i0,step,done⟩:=h
 have A0:At (aq a n) H0 own H H1:=A.lv (by omega)
 have w1:=w.go A0.frs
 have okS:∀own' H',FrS (aq a n) own H1 own' H'->Ok H':=λown' H' F=>W.stab H1 H' o1 (λb o n e=>by
  have o2:=aX A (k:=.shr) hk n.1
  exact(F.keep b o e o2.1 o2.2).1) F.tup
 refine⟨λi m σ' H'=>m=ds.length - i/\i<=ds.length/\∃own' ρ',stp ρ'=ρ'/\(aq a (n+(ds.length - i) * mb)).PI H'/\EnvD (aq a n) H0 own' σ' H' ρ'/\FrS (aq a n) own H1 own' H'/\Iv i ρ',⟨_,rfl,û _,own,ρ,E.st,aB A.pen (Nat.add_le_add_left (Nat.mul_le_mul_right _ (by omega)) _),E.env.go A0.kp A0.pen,FrS.refl,i0⟩,?_⟩
 rintro i m σ' H' ⟨rfl,hi,own',ρ',hst,I',E',F',iv⟩
 have oH:=okS own' H' F'
 by_cases hlt:i<ds.length
 ·rw[uN hlt] at I'
  refine .inr ⟨W.go i H' oH hlt,λσ2 H2=>∃own' ρ',stp ρ'=ρ'/\(aq a (n+(ds.length - (i+1)) * mb)).PI H2/\EnvD (aq a n) H0 own' σ2 H2 ρ'/\FrS (aq a n) own H1 own' H2/\Iv (i+1) ρ',λσ2 H2 h=>⟨_,by omega,rfl,hlt,h⟩,λx H2 y=>?_⟩
  generalize hN:n+(ds.length - (i+1)) * mb=N at *
  have nN:n<=N:=by omega
  obtain⟨sm,rx⟩:=W.yld i H' x H2 oH y
  have rx:=rx ds[i] (Ä hlt)
  have I2:(aq a (N+mb)).PI H2:=(aq a (N+mb)).mono H' H2 (by rw[←hN,Nat.add_assoc];exact I') λb o _ e=>sm b o e
  have E2:EnvD (aq a n) H0 own' σ' H2 ρ':=E'.go (Kp.of sm) (aB I2 (by omega))
  have F2:FrS (aq a n) own H1 own' H2:=⟨λb o e n z=>let ⟨x,y⟩:=F'.keep b o e n z;⟨sm b o x,y⟩,λa xs e=>sm a _ (F'.tup a xs e)⟩
  have rb:Rp (okB (aq a n) H0 own' (elK k)) H2 x ds[i]:=by
   have:=JG hk A (gw F2) rx
   rw[Lj (m:=n)] at this
   exact this
  refine⟨aq a n,H0,own',ρ',_,_,_,E2,fB rb,step i ds[i] ρ' (Ä hlt) iv,λσ3 ρ3 E3 t3=>?_⟩
  have nxt:∀own4 σ4 H4 ρ4,EnvD (aq a N) H0 own4 σ4 H4 ρ4->FrS (aq a N) own' H2 own4 H4->Iv (i+1) (stp ρ4)->∃own' ρ',stp ρ'=ρ'/\(aq a N).PI H4/\EnvD (aq a n) H0 own' σ4 H4 ρ'/\FrS (aq a n) own H1 own' H4/\Iv (i+1) ρ':=λown4 σ4 H4 ρ4 E4 F4 v4=>⟨own4,stp ρ4,zx _,E4.pen,E4.lv (aB E4.pen nN),F2.trans (gw F4),v4⟩
  exact⟨a,N,H0,own',stp ρ3,_,⟨zx _,I2,E3.lv (aB I2 (by omega))⟩,t3,⟨nxt,λd v H' h r=>w.rt d v H' h (nC r nN),λo s h r e f nn=>w1.nx o s h (stp r) (e.lv (aB e.pen nN)) (F2.trans (gw f)) nn,nxt⟩⟩
 ·have e:i=ds.length:=by omega
  subst e
  exact .inl ⟨W.stop H' oH,w1.nx own' σ' H' ρ' E' F' (done ρ' iv)⟩)⟩
end
def BK:∀(ds:List D) (k:Nat),stp (ds.map aG++Ï k .any)=ds.map aG++Ï k .any:=λds k=>by
 unfold stp
 rw[â,List.map_replicate,î]
 congr 1
 refine List.map_congr_left λd _=>?_
 show Ke (aG d)=aG d
 unfold aG
 split <;> rfl
def sI{f:List D->(D->Prop)->Prop}{T:DS}{N:List Str}{vs:List V}{H:Hp}{Q:VK}{E:XK}{M M':Nat}(h:cU M' f vs H Q E)(hm:Nat.ble M M'=true)(body:∀ds P,f ds P->∃ρ,ds.map aG++Ï (N.length - (ds.length+1)) .any=ρ/\T { nx:=λ_=>P .none,rt:=P } (.pen TP::ρ)):wH M T { nx:=λ_ H'=>Q .non H',rt:=Q } (L2.start N vs) H:=by
 have hm:=Nat.le_of_ble_eq_true hm
 obtain⟨a,n,vs',ds,P,rfl,pi,r,t,k⟩:=h
 obtain⟨ρ,e,b⟩:=body ds P t
 have E:=Jc (C:=TP) (p:=aq a n) (N:=N) trivial trivial (aB pi (by omega)) r
 rw[e] at E
 have st:stp (.pen TP::ρ)=.pen TP::ρ:=by
  rw[←e]
  exact congrArg (List.cons (Sl.pen TP)) (BK ds _)
 exact⟨a,n,H,λ_=>none,_,_,⟨st,aB pi (by omega),E⟩,b,⟨λo s h' r' e' _ nn=>k _ _ h' nn e'.k0 e'.pen .non,λd v h' nn w=>k d v h' nn w.k0 w.pen (w.rp.mono (λ_ o=>o.1) (λ_ _ _ e=>e) λ_ _ e=>e),λ_ _ _ _ _ _ n=>n.elim,λ_ _ _ _ _ _ n=>n.elim⟩⟩
end
def G3(K:Ø)(pre:List D->Prop):Sp:=λvs H Q _=>∃(sc:Addr) (ns:List Int) (vs':List V) (ds:List D),vs=.ref sc::vs'/\SqL K H sc (ns.map V.int)/\Rps (λ_=>True) H vs' ds/\pre ds /\
 ∀a H',(aq a 1152921504606846976).PI H'->Same H H'->H a=none->Q (.ref a) H'
def Jd{G:Gr}{p:Pn}{H0 H:Hp}{own:Addr->Option Nat}{σ:L2.St}{ρ:List Sl}(E:@EnvD G p H0 own σ H ρ):@EnvD grT p H0 own σ H ρ:=@EnvD.mk grT _ _ _ _ _ _ E.k0 E.pen E.ow E.slot E.len trivial
def FW{G:Gr}{p:Pn}{H0 H:Hp}{own:Addr->Option Nat}{σ:L2.St}{ρ:List Sl}(g:G.G p H0)(E:@EnvD grT p H0 own σ H ρ):@EnvD G p H0 own σ H ρ:=@EnvD.mk G _ _ _ _ _ _ (@EnvD.k0 grT _ _ _ _ _ _ E) (@EnvD.pen grT _ _ _ _ _ _ E) (@EnvD.ow grT _ _ _ _ _ _ E) (@EnvD.slot grT _ _ _ _ _ _ E) (@EnvD.len grT _ _ _ _ _ _ E) g
variable {X:Cx}{K:Ø}{sc:Addr}{ns:List Int}{pre:List D->Prop}
def anyI{G:Gr}{tg e:Expr}{t:DI}(h:@WDI grT X tg e t):@PDI G X tg e t:=PI.wk (@WDI.h grT _ _ _ _ h) (by
 rintro σ H Q ⟨p,H0,own,ρ,P,E,t,q⟩
 exact⟨p,H0,own,ρ,P,Jd E,t,q⟩)
def Q9{G:Gr}{e:Expr}{g:DG}(h:@WDG grT X e g):@PDG G X e g:=PG.wk (@WDG.h grT _ _ _ h) (by
 rintro v σ H Q ⟨p,H0,own,ρ,k,d,P,E,r,t,q⟩
 exact⟨p,H0,own,ρ,k,d,P,Jd E,r,t,λσ' ρ' E' h=>q σ' ρ' (FW E.gr E') h⟩)
def PB{G:Gr}{ss:List Stmt}{t:DS}(h:@WDSs grT X ss t):@j4 G X ss t:=PSs.wk' (@WDSs.h grT _ _ _ h) (by
 rintro Q σ H ⟨p,H0,own,ρ,P,E,t,w⟩
 exact⟨p,H0,own,ρ,P,Jd E,t,@Wish.mk grT _ _ _ _ _ _ (λo s h r e f n=>w.nx o s h r (FW E.gr e) f n) w.rt (λo s h r e f n=>w.bk o s h r (FW E.gr e) f n) (λo s h r e f n=>w.ct o s h r (FW E.gr e) f n)⟩)
def rW:Sl->Sl
 |.im d=>.im d
 |.scr v _=>.scr v false
 |_=>.any
def K8(sc:Addr)(ρ:List Sl):List Sl:=.scr (.ref sc) false::Ï (ρ.length - 1) .any
def Q6(sc:Addr)(pre:List D->Prop)(i:Nat)(t1:DA)(t:DS):DS:=λP ρ=>(∃b,ρ[0]?=some (.scr (.ref sc) b))/\i<ρ.length/\t1 ρ λks=>pre (ks.map (·.2))/\t { nx:=λr=>(∃b,r[0]?=some (.scr (.ref sc) b))/\r.length=ρ.length/\P.nx (K8 sc ρ),rt:=P.rt } ((ρ.map rW).set i (.pen TP))
end Wb
namespace Wr
open PySem L2 PyProof.Rows Dl
variable [Gr] {X:Cx}{pos:Pos}{a b:Expr}{ta tb:DE}
end Wr
namespace Dl
open PySem L2 PyProof.Rows
@[reducible] def grE(a CN:Addr):Gr:=⟨λp H0=>p=gG/\H0 a=some (Q5 a (.ref CN))⟩
variable {X:Cx}{pos:Pos}
structure RefK(K:Ø)(mg:Str->Option Value)(xN:Str)(xs:List Str)(CN CF c1 c2 c3 c4 c5 c6 c7 c8 c9:Addr):Prop where
 mF:mg "FallError"=some (.ref CF)
 mN:mg xN=some (.ref CN)
 m1:mg (xs.getD 0 "")=some (.ref c1)
 m2:mg (xs.getD 1 "")=some (.ref c2)
 m3:mg (xs.getD 2 "")=some (.ref c3)
 m4:mg (xs.getD 3 "")=some (.ref c4)
 m5:mg (xs.getD 4 "")=some (.ref c5)
 m6:mg (xs.getD 5 "")=some (.ref c6)
 m7:mg (xs.getD 6 "")=some (.ref c7)
 m8:mg (xs.getD 7 "")=some (.ref c8)
 m9:mg (xs.getD 8 "")=some (.ref c9)
 mV:mg "ValueError"=none
 exm:W.exmOne K (.ref CN) (.ref CF)=some true
 kx:ExcK K CN
 no:∀c∈[ĕ c1,.ref c2,.ref c3,.ref c4,.ref c5,.ref c6,.ref c7,.ref c8,.ref c9],ŭ K (.ref CN) c=some false
 one:ŭ K (.ref CN) (.ref CN)=some true
 val:ŭ K (.ref CN) (.type "ValueError")=some true
end Dl
namespace L2
open PySem PySem.Spec PyProof.Rows
variable {X:Cx}{k:Nat}{f CF:Addr}{fd:FuncData}{ps:List Str}{sp:Sp}{x hx n:Str}{p np cpos epos hpos:Pos}{e:Expr}{es:List Expr}{t:TA}{b₀:Stmt}{suite:List Stmt}{ts:TS}{j:Nat}
def Ds{X:Cx}:OpR X (binaryOp .FloorDiv) (rI (λ_ j=>0<j/\j<1267650600228229401496703205376) λi j=>.int (i / j)):=opI λi j _ _ _ _ _ hc q=>by
 have h1:(0:Int)<j:=hc.1
 have h2:j<1267650600228229401496703205376:=hc.2
 refine floordiv_int (by omega) (by rw[Int.fdiv_eq_ediv_of_nonneg i (by omega)];exact q) (.inl (PyProof.noPylong_of_log2 ?_))
 have h3:j.natAbs<2 ^ 100:=by
  have:(2:Nat) ^ 100=1267650600228229401496703205376:=by decide
  omega
 have:=(Nat.log2_lt (by omega)).mpr h3
 omega
end L2
namespace Dl
open PySem L2 PyProof.Rows
variable [Gr] {X:Cx}{st:Stmt}{tj:DE}
end Dl
namespace Wr
open PySem L2 PyProof.Rows Dl
variable [Gr] {X:Cx}{pos:Pos}
end Wr
namespace Wb
open PySem L2 PyProof.Rows Dl Wr
section
variable [Tb] {X:Cx}{m1 m2:Nat}{pos:Pos}{te tj:DE}{st:Stmt}
end
end Wb
namespace Dl
open PySem L2 PyProof.Rows
section
variable {X:Cx}{pos:Pos}{a:Expr}{t:DA}
def Aq(hc:X.calm=true):bH X (.builtin "sum") (λxs H Q=>∃(p:Addr) (ns:List Int),xs=[.ref p]/\SqL X.K H p (ns.map V.int)/\Q (.int ns.sum) H):=by
 intro pins s σ H xs us Q I r h
 obtain⟨p,ns,rfl,hp,q⟩:=h
 obtain⟨u,rfl,rx⟩:=vals1 r
 cases rx
 obtain⟨its,rv,pl,hz⟩:=I.list hp
 have hlen:its.length=ns.length:=by have:=rv.length;rw[Á] at this;exact this.symm
 have hlt:p≠s.heap.objs.size:=by obtain⟨o,ho,_⟩:=pl.isList;exact ã (É ho)
 have hltp:p<s.heap.objs.size:=by obtain⟨o,ho,_⟩:=pl.isList;exact É ho
 have at':∀i v,its[i]?=some v->∃t,v=Đ (ns.getD i 0) t:=λi v e=>by
  have hi:i<its.length:=(Ö.mp e).1
  have hv:(ns.map V.int)[i]?=some (V.int ns[i]):=by rw[Þ,Ä (show i<ns.length by omega)];rfl
  obtain⟨u,eu,ru⟩:=rv.get hv
  rw[e] at eu
  cases eu
  obtain⟨t,rfl⟩:=ru
  exact⟨t,by rw[Ü,Ä (show i<ns.length by omega)];rfl⟩
 refine call_sum_walkAnyS (wpAny_pyIter_list pl.isList ?_)
 refine⟨_,_,_,_,_,_,_,λi=>ns.getD i 0,rfl,(Walks.list (A:=X.A.in1) (I.ok.hd hc) _ p hlt _).toS,⟨⟨_,Û _ rfl,rfl,rfl⟩,pl.isList.push _⟩,?_,λi v e=>at' i v (by simpa using e),λs' t' mv=>?_⟩
 ·intro b hb
  show b<(s.heap.push _).objs.size
  rw[Ń]
  simp at hb
  rcases hb with rfl|rfl
  ·exact ś _
  ·exact ă hltp
 ·have e:PySem.preSum (λi=>ns.getD i 0) its.toArray.size=ns.sum:=by
   rw[Ì,hlen,yg ns ns.length (Å _),Ħ]
  rw[e]
  obtain⟨hp',g',d',k',o'⟩:=s'
  obtain⟨m1,m2,m3,m4,m5⟩:=mv
  have m2:g'=s.gens:=m2
  have m3:d'=s.drawn:=m3
  have m4:o'=s.os:=m4
  subst m2 m3 m4
  refine⟨.int ns.sum,H,I.kept λb o eb=>m1 b o ?_ (Ç _ eb),⟨_,rfl⟩,q⟩
  intro hm
  have:b=s.heap.objs.size:=by simpa using hm
  exact absurd (this ▸ É eb) (ó _)
variable [Gr]
def Fo:GC:=λks P=>match ks with
 |[(_,.list ds)]=>∃ns:List Int,ds=ns.map Í/\P .imm (.int ns.sum)
 |_=>False
def qU{ps:Pos}(hc:X.calm=true)(hm:X.mg "sum"=none)(ha:PDA X [a] t)(hg:Gl X "sum":=by rfl)(he:zS X a []:=by rfl)(hpl:zP X pos []:=by rfl):PD X (.Call (.Name "sum" ps) [a] [] pos) (tCl Fo t) :=
 dW (Aq hc) (by
  intro p H0 own Hb H vs ks P Q A r t q
  unfold Fo at t
  split at t
  ·rename_i k ds
   obtain⟨v,rfl,r'⟩:=eY r
   obtain⟨ns,rfl,t⟩:=t
   obtain⟨c,vs,rfl,o,hc,rs⟩:=r'.cJ
   have e:=Rps.ints rs
   subst e
   exact⟨c,ns,rfl,SqL.of hc,q _ _ _ _ t Kp.refl A.pen (.int _)⟩
  ·exact t.elim) hg hm boot_sum ha (by decide) (by decide) he hpl
end
end Dl
namespace Wr
open PySem L2 PyProof.Rows Dl
variable [Gr] {X:Cx}{pos:Pos}{a:Expr}{t:DA}
def qU{ps:Pos}(hc:X.calm=true)(hm:X.mg "sum"=none)(ha:WDA X [a] t)(hg:Gl X "sum":=by rfl)(he:zS X a []:=by rfl)(hpl:zP X pos []:=by rfl):WD X (.Call (.Name "sum" ps) [a] [] pos) (tCl Fo t):=⟨Dl.qU hc hm ha.h hg he hpl⟩
end Wr
namespace Dl
open PySem L2 PyProof.Rows
def grU(T:Pn):Gr:=⟨λp _=>p=T⟩
def GZ(f:List D->(D->Prop)->Prop)(t:DA):DE:=λρ P=>t ρ λks=>f (ks.map (·.2)) λd=>P (norm .new d) d
section
variable {X:Cx}{k j:Nat}{x:Str}{ps:List Str}{e:Expr}{es:List Expr}{t:DA}{p pos:Pos}{T:Pn}{f:List D->(D->Prop)->Prop}
def Ep:∀σ H Q,@cL (grU T) (GZ f t) σ H Q->tX (spT T f) [] E0 (@uQ (grU T) t) σ H Q:=by
 letI:=grU T
 rintro σ H Q ⟨q,H0,own,ρ,P,E,t,k⟩
 have eq:q=T:=E.gr
 subst eq
 refine⟨_,H0,own,ρ,_,E,t,λks vs H1 h A r=>?_⟩
 show spT q f (vs++[]) H1 Q E0
 rw[õ]
 refine⟨ks.map (·.2),_,A.pen,(RpK.rps A r).mono (λ_ o z=>o z) (λ_ _ _ e=>e) (λ_ _ e=>e),h,λd v H' h2 kp pi' r2=>?_⟩
 exact k _ d v H' h2 (A.go kp pi') (aM (r2.mono (λa o=>A.free o) (λ_ _ _ e=>e) λ_ _ e=>e))
def dcU(CC:Cal X.prog X.w X.K X.mg X.base k x ps (spT T f))(hr:Room j X.A)(ha:@PDA (grU T) X (e::es) t)(hk:k<=j:=by decide)(hg:Gl X x:=by rfl)(hdb:zB x:=by decide)(he:zS X e es:=by rfl)(hpl:zP X pos es:=by rfl) :
  @PD (grU T) X (.Call (.Name x p) (e::es) [] pos) (GZ f t):=PE.wk (pcS CC hr ha hk hg hdb he hpl) Ep
def FZ{Tm:DS}{N:List Str}{vs:List V}{H:Hp}{Q:VK}{E:XK}(h:spT T f vs H Q E)(body:∀ds P,f ds P->∃ρ,ds.map aG++Ï (N.length - ds.length) .any=ρ/\Tm { nx:=λ_=>P .none,rt:=P } ρ):@pW (grU T) Tm { nx:=λ_ H'=>Q .non H',rt:=Q } (L2.start N vs) H:=by
 letI:=grU T
 obtain⟨ds,P,pi,r,t,q⟩:=h
 obtain⟨ρ,e,b⟩:=body ds P t
 have E:=kY (p:=T) (N:=N) rfl pi r
 rw[r.length,e] at E
 exact⟨T,H,λ_=>none,_,_,E,b,⟨λo s h' r' e' _ n=>q _ _ h' n e'.k0 e'.pen .non,λd v h' n w=>q d v h' n w.k0 w.pen (w.rp.mono (λ_ o=>o.1) (λ_ _ _ e=>e) λ_ _ e=>e),λ_ _ _ _ _ _ n=>n.elim,λ_ _ _ _ _ _ n=>n.elim⟩⟩
end
end Dl
namespace Wr
open PySem L2 PyProof.Rows Dl
variable {X:Cx}{k j:Nat}{x:Str}{ps:List Str}{e:Expr}{es:List Expr}{t:DA}{p pos:Pos}{T:Pn}{f:List D->(D->Prop)->Prop}
def dcU(CC:Cal X.prog X.w X.K X.mg X.base k x ps (spT T f))(hr:Room j X.A)(ha:@WDA (grU T) X (e::es) t)(hk:k<=j:=by decide)(hg:Gl X x:=by rfl)(hdb:zB x:=by decide)(he:zS X e es:=by rfl)(hpl:zP X pos es:=by rfl) :
  @WD (grU T) X (.Call (.Name x p) (e::es) [] pos) (GZ f t):=@WD.mk (grU T) _ _ _ (Dl.dcU CC hr (@WDA.h (grU T) _ _ _ ha) hk hg hdb he hpl)
end Wr
set_option maxHeartbeats 4000000
namespace L2
open PySem PySem.Spec PyProof.Rows
def yO:Bool->Keyed->Array Keyed->Nat->Nat->Nat->StateT SortSt Sem (Option Nat):=sortPriv% PySem.Builtin.gallop
section
variable {M:Model}{A:Around}{E:Value->Shared->Prop}{s:Shared}
def Lts(M:Model)(A:Around)(E:Value->Shared->Prop)(s:Shared)(κ:SortKind)(mem:Keyed->Prop)(key:Keyed->Int):Prop:=∀(x y:Keyed) (st:SortSt) (Q:Option Bool->SortSt->Prop),mem x->mem y->kindOf st=κ->Q (some (decide (key x<key y))) st->wpS M A E s (lt' x y) Q st
variable {κ:SortKind}{mem:Keyed->Prop}{key:Keyed->Int}
def aH{arr:Array Keyed}{i:Nat}{p:Keyed}{Q:Keyed->SortSt->Prop}{st:SortSt}(e:arr[i]?=some p)(h:Q p st):wpS M A E s (elem' arr i) Q st:=by
 rw[elem'_eq,e]
 exact Ó h
def byd(left:Bool)(key:Keyed->Int)(k x:Keyed):Bool:=if left then decide (key x<key k) else !decide (key k<key x)
def jq(L:Lts M A E s κ mem key){left:Bool}{k:Keyed}{arr:Array Keyed}{i:Nat}{x:Keyed}{Q:Option Bool->SortSt->Prop}{st:SortSt}(hk:kindOf st=κ)(mk:mem k)(mx:mem x)(e:arr[i]?=some x)(h:Q (some (byd left key k x)) st) :
  wpS M A E s (do let x ←elem' arr i;if left then lt' x k else return (←lt' k x).map (!·)) Q st:=by
 refine Î (aH e ?_)
 cases left with
 |true=>exact L x k st Q mx mk hk h
 |false =>
  show wpS M A E s (do let r ←lt' k x;pure (r.map (!·))) Q st
  exact Î (L k x st _ mk mx hk (Ó h))
def ni{F:Nat->Option (Option Nat)×Nat×Nat->StateT SortSt Sem (ForInStep (Option (Option Nat)×Nat×Nat))}{b:Nat->Bool}{n lo hi:Nat}{Q:Option (Option Nat)×Nat×Nat->SortSt->Prop}{st:SortSt}(mono:∀i j,i<=j->j<n->b j=true->b i=true)(hlh:lo<=hi)(hn:hi<=n)(h0:∀i,i<lo->b i=true)(h1:∀i,hi<=i->i<n->b i=false)(f0:∀x lo hi Q',hi<=lo->Q' (.done (none,lo,hi)) st->wpS M A E s (F x (none,lo,hi)) Q' st)(f1:∀x lo hi Q',lo<hi->hi<=n->(b (lo+(hi - lo) / 2)=true->Q' (.yield (none,lo+(hi - lo) / 2+1,hi)) st)->(b (lo+(hi - lo) / 2)=false->Q' (.yield (none,lo,lo+(hi - lo) / 2)) st)->wpS M A E s (F x (none,lo,hi)) Q' st)(h:∀lo r,r<=n->(∀i,i<r->b i=true)->(∀i,r<=i->i<n->b i=false)->Q (none,lo,r) st):wpS M A E s (forIn [:n] (none,lo,hi) F) Q st:=by
 refine Ĉ (I:=λy c st'=>st'=st/\∃l r,c=(none,l,r)/\l<=r/\r<=n/\r - l<=n - y/\(∀i,i<l->b i=true)/\∀i,r<=i->i<n->b i=false) ?_ ?_ ⟨rfl,lo,hi,rfl,hlh,hn,by omega,h0,h1⟩
 ·rintro y c st' _ hy ⟨rfl,l,r,rfl,g1,g2,g3,g4,g5⟩
  by_cases z:r<=l
  ·have e:l=r:=by omega
   subst e
   exact f0 y l l _ z (h l l g2 g4 g5)
  ·refine f1 y l r _ (by omega) g2 (λe=>⟨rfl,_,_,rfl,by omega,g2,by omega,λi hi=>mono i _ (by omega) (by omega) e,g5⟩) (λe=>⟨rfl,_,_,rfl,by omega,by omega,by omega,g4,λi h1 h2=>?_⟩)
   cases eb:b i with
   |false=>rfl
   |true=>rw[mono _ i h1 h2 eb] at e;cases e
 ·rintro c st' ⟨rfl,l,r,rfl,g1,g2,g3,g4,g5⟩
  have e:l=r:=by omega
  subst e
  exact h l l g2 g4 g5
def Gv{left:Bool}{k:Keyed}{n:Nat}{f:Nat->Keyed}(hs:∀i j,i<=j->j<n->key (f i)<=key (f j)):∀i j,i<=j->j<n->byd left key k (f j)=true->byd left key k (f i)=true:=λi j h1 h2 e=>by
 have:=hs i j h1 h2
 unfold byd at e ⊢
 cases left with
 |true =>
  have e:decide (key (f j)<key k)=true:=e
  have e:=of_decide_eq_true e
  exact decide_eq_true (show key (f i)<key k by omega)
 |false =>
  have e:(!decide (key k<key (f j)))=true:=e
  rw[ģ] at e
  have e:=of_decide_eq_false e
  show(!decide (key k<key (f i)))=true
  rw[ģ]
  exact decide_eq_false (by omega)
def vD(L:Lts M A E s κ mem key){left:Bool}{k:Keyed}{arr:Array Keyed}{base n hint:Nat}{f:Nat->Keyed}{Q:Option Nat->SortSt->Prop}{st:SortSt}(hk:kindOf st=κ)(mk:mem k)(hf:∀i,i<n->arr[base+i]?=some (f i)/\mem (f i))(hs:∀i j,i<=j->j<n->key (f i)<=key (f j))(hh:hint<n)(h:∀r,r<=n->(∀i,i<r->byd left key k (f i)=true)->(∀i,r<=i->i<n->byd left key k (f i)=false)->Q (some r) st):wpS M A E s (yO left k arr base n hint) Q st:=by
 have mono:=Gv (left:=left) (k:=k) hs
 refine Î (jq L hk mk (hf hint hh).2 (hf hint hh).1 ?_)
 dsimp only
 by_cases c:byd left key k (f hint)=true
 ·rw[if_pos c]
  refine Î (ŀ (Ĉ (I:=λy r st'=>st'=st/\∃a b,r=(none,a,b)/\a<b/\y+1<=b/\hint+a<n/\byd left key k (f (hint+a))=true) (Q:=λr st'=>st'=st/\∃a b,r=(none,a,b)/\a<b/\hint+a<n/\byd left key k (f (hint+a))=true/\(hint+b<n->byd left key k (f (hint+b))=false)) ?_ ?_ ⟨rfl,0,1,rfl,by omega,by omega,by omega,c⟩) ?_)
  ·rintro y r st' _ hy ⟨rfl,a,b,rfl,g1,g2,g3,g4⟩
   dsimp only
   by_cases z:b ≥ n - hint
   ·rw[if_pos z]
    exact Ó ⟨rfl,a,b,rfl,g1,g3,g4,λz2=>by omega⟩
   ·rw[if_neg z]
    refine Î (jq L hk mk (hf (hint+b) (by omega)).2 (hf (hint+b) (by omega)).1 ?_)
    dsimp only
    cases e:byd left key k (f (hint+b)) with
    |true=>exact Ó ⟨rfl,b,2 * b+1,rfl,by omega,by omega,by omega,e⟩
    |false=>exact Ó ⟨rfl,a,b,rfl,g1,g3,g4,λ_=>e⟩
  ·rintro r st' ⟨rfl,a,b,rfl,g1,g2,g3,g4⟩
   exact⟨rfl,a,b,rfl,g1,g3,g4,λz2=>by omega⟩
  ·rintro r st' ⟨rfl,a,b,rfl,g1,g3,g4,g5⟩
   dsimp only
   refine Î (ni (b:=λi=>byd left key k (f i)) mono (by omega) (by omega) (λi hi=>mono i _ (by omega) g3 g4) (λi h1 h2=>?_) (λx lo hi Q' z q=>?_) (λx lo hi Q' z z2 q1 q2=>?_) (λlo r h1 h2 h3=>Ó (h r h1 h2 h3)))
   ·cases e:byd left key k (f i) with
    |false=>rfl
    |true =>
     have e2:=g5 (by omega)
     rw[mono (hint+b) i (by omega) h2 e] at e2
     cases e2
   ·dsimp only
    rw[if_pos (by omega)]
    exact Ó q
   ·dsimp only
    rw[if_neg (by omega)]
    refine Î (jq L hk mk (hf _ (by omega)).2 (hf _ (by omega)).1 ?_)
    dsimp only
    cases e:byd left key k (f (lo+(hi - lo) / 2)) with
    |true=>exact Ó (q1 e)
    |false=>exact Ó (q2 e)
 ·rw[if_neg c]
  have c:byd left key k (f hint)=false:=Bool.eq_false_iff.mpr c
  refine Î (ŀ (Ĉ (I:=λy r st'=>st'=st/\∃a b,r=(none,a,b)/\a<b/\y+1<=b/\a<=hint/\byd left key k (f (hint - a))=false) (Q:=λr st'=>st'=st/\∃a b,r=(none,a,b)/\a<b/\a<=hint/\byd left key k (f (hint - a))=false/\(b<=hint->byd left key k (f (hint - b))=true)) ?_ ?_ ⟨rfl,0,1,rfl,by omega,by omega,by omega,c⟩) ?_)
  ·rintro y r st' _ hy ⟨rfl,a,b,rfl,g1,g2,g3,g4⟩
   dsimp only
   by_cases z:b ≥ hint+1
   ·rw[if_pos z]
    exact Ó ⟨rfl,a,b,rfl,g1,g3,g4,λz2=>by omega⟩
   ·rw[if_neg z]
    refine Î (jq L hk mk (hf (hint - b) (by omega)).2 (hf (hint - b) (by omega)).1 ?_)
    dsimp only
    cases e:byd left key k (f (hint - b)) with
    |true=>exact Ó ⟨rfl,a,b,rfl,g1,g3,g4,λ_=>e⟩
    |false=>exact Ó ⟨rfl,b,2 * b+1,rfl,by omega,by omega,by omega,e⟩
  ·rintro r st' ⟨rfl,a,b,rfl,g1,g2,g3,g4⟩
   exact⟨rfl,a,b,rfl,g1,g3,g4,λz2=>by omega⟩
  ·rintro r st' ⟨rfl,a,b,rfl,g1,g3,g4,g5⟩
   dsimp only
   refine Î (ni (b:=λi=>byd left key k (f i)) mono (by omega) (by omega) (λi hi=>mono i (hint - b) (by omega) (by omega) (g5 (by omega))) (λi h1 h2=>?_) (λx lo hi Q' z q=>?_) (λx lo hi Q' z z2 q1 q2=>?_) (λlo r h1 h2 h3=>Ó (h r h1 h2 h3)))
   ·cases e:byd left key k (f i) with
    |false=>rfl
    |true =>
     rw[mono (hint - a) i (by omega) h2 e] at g4
     cases g4
   ·dsimp only
    rw[if_pos (by omega)]
    exact Ó q
   ·dsimp only
    rw[if_neg (by omega)]
    refine Î (jq L hk mk (hf _ (by omega)).2 (hf _ (by omega)).1 ?_)
    dsimp only
    cases e:byd left key k (f (lo+(hi - lo) / 2)) with
    |true=>exact Ó (q1 e)
    |false=>exact Ó (q2 e)
end
section
variable {key:Keyed->Int}
def eE(key:Keyed->Int)(l:List Keyed):Prop:=l.Pairwise λx y=>key x<=key y
def Lel(key:Keyed->Int)(l r:List Keyed):Prop:=∀x∈l,∀y∈r,key x<=key y
structure MI(key:Keyed->Int)(T out R S:List Keyed):Prop where
 pm:(out++(R++S)).Perm T
 so:eE key out
 sr:eE key R
 ss:eE key S
 le:Lel key out (R++S)
def fu{l r:List Keyed}:eE key (l++r)↔eE key l/\eE key r/\Lel key l r:=List.pairwise_append
def MI.left{T out u R S:List Keyed}(h:MI key T out (u++R) S)(hu:Lel key u S):MI key T (out++u) R S:=by
 obtain⟨p,so,sr,ss,le⟩:=h
 obtain⟨s1,s2,s3⟩:=fu.mp sr
 refine⟨?_,fu.mpr ⟨so,s1,λx hx y hy=>le x hx y ?_⟩,s2,ss,λx hx y hy=>?_⟩
 ·rw[ď]
  rw[ď] at p
  exact p
 ·exact ĝ _ (ĝ _ hy)
 ·rcases Ù.mp hx with hx|hx
  ·refine le x hx y ?_
   rcases Ù.mp hy with hy|hy
   ·exact ĝ _ (á _ hy)
   ·exact á _ hy
  ·rcases Ù.mp hy with hy|hy
   ·exact s3 x hx y hy
   ·exact hu x hx y hy
def MI.sym{T out R S:List Keyed}(h:MI key T out R S):MI key T out S R :=
 ⟨(List.Perm.append_left out List.perm_append_comm).trans h.pm,h.so,h.ss,h.sr,λx hx y hy=>h.le x hx y (by
  rcases Ù.mp hy with hy|hy
  ·exact á _ hy
  ·exact ĝ _ hy)⟩
def MI.right{T out u R S:List Keyed}(h:MI key T out R (u++S))(hu:Lel key u R):MI key T (out++u) R S:=(h.sym.left hu).sym
def MI.fin{T out R S:List Keyed}(h:MI key T out R S)(hu:Lel key R S):eE key (out++(R++S)):=fu.mpr ⟨h.so,fu.mpr ⟨h.sr,h.ss,hu⟩,h.le⟩
end
def Ei:Array Keyed->Array Keyed->StateT SortSt Sem (Array Keyed):=sortPriv% PySem.Builtin.mergeLo
def Ej:Array Keyed->Array Keyed->StateT SortSt Sem (Array Keyed):=sortPriv% PySem.Builtin.mergeHi
structure Alk(st st':SortSt):Prop where
 a:arrOf st'=arrOf st
 k:kindOf st'=kindOf st
 p:pendingOf st'=pendingOf st
 f:failedOf st'=failedOf st
section
variable {key:Keyed->Int}{a b out:Array Keyed}{ia ib k:Nat}
def MA(key:Keyed->Int)(a b out:Array Keyed)(ia ib:Nat):Prop:=MI key (a.toList++b.toList) out.toList (a.toList.drop ia) (b.toList.drop ib)
def Gd(key:Keyed->Int)(a b r:Array Keyed):Prop:=r.toList.Perm (a.toList++b.toList)/\eE key r.toList
def drop_one(a:Array Keyed)(h:ia<a.size):a.toList.drop ia=[a[ia]]++a.toList.drop (ia+1):=by
 rw[List.drop_eq_getElem_cons (by simpa using h)]
 rfl
def sO(a:Array Keyed)(h:ia+k<=a.size):a.toList.drop ia=(a.extract ia (ia+k)).toList++a.toList.drop (ia+k):=by
 rw[Ž,←List.drop_drop]
 show _=List.extract a.toList ia (ia+k)++_
 rw[ŝ]
 rw[show ia+k - ia=k by omega]
 exact(ķ k _).symm
def mY(a:Array Keyed):(a.extract ia).toList=a.toList.drop ia:=by
 rw[Ž]
 show List.extract a.toList ia a.size=_
 rw[ŝ]
 exact Ģ (by simp)
def mD{x:Keyed}{l:List Keyed}(h:eE key ([x]++l)):Lel key [x] ([x]++l):=λy hy z hz=>by
 rw[Ë.mp hy]
 rcases Ù.mp hz with hz|hz
 ·rw[Ë.mp hz]
  exact ÿ _
 ·exact(fu.mp h).2.2 x (Ë.mpr rfl) z hz
def MA.tB(h:MA key a b out ia ib)(hb:ib<b.size)(ha:ia<a.size)(c:key b[ib]<=key a[ia]):MA key a b (out.push b[ib]) ia (ib+1):=by
 unfold MA at h ⊢
 rw[drop_one b hb] at h
 rw[Ĭ]
 refine h.right λx hx y hy=>?_
 rw[Ë.mp hx]
 have s:=h.sr
 rw[drop_one a ha] at s hy
 exact Ă c (mD s _ (Ë.mpr rfl) y hy)
def MA.tA(h:MA key a b out ia ib)(hb:ib<b.size)(ha:ia<a.size)(c:key a[ia]<=key b[ib]):MA key a b (out.push a[ia]) (ia+1) ib:=by
 unfold MA at h ⊢
 rw[drop_one a ha] at h
 rw[Ĭ]
 refine h.left λx hx y hy=>?_
 rw[Ë.mp hx]
 have s:=h.ss
 rw[drop_one b hb] at s hy
 exact Ă c (mD s _ (Ë.mpr rfl) y hy)
def yI{a:Array Keyed}{x:Keyed}(h:x∈(a.extract ia (ia+k)).toList):∃j,j<k/\∃hj:ia+j<a.size,x=a[ia+j]:=by
 obtain⟨j,hj,rfl⟩:=ī.mp h
 have hj2:j<(a.extract ia (ia+k)).size:=hj
 rw[Ę] at hj2
 exact⟨j,by omega,by omega,by simp⟩
def MA.tAs(h:MA key a b out ia ib)(hb:ib<b.size)(hk:ia+k<=a.size)(c:∀j (hj:ia+j<a.size),j<k->key a[ia+j]<=key b[ib]):MA key a b (out++a.extract ia (ia+k)) (ia+k) ib:=by
 unfold MA at h ⊢
 rw[sO a hk] at h
 rw[ü]
 refine h.left λx hx y hy=>?_
 obtain⟨j,hj,hj2,rfl⟩:=yI hx
 have s:=h.ss
 rw[drop_one b hb] at s hy
 exact Ă (c j hj2 hj) (mD s _ (Ë.mpr rfl) y hy)
def MA.tBs(h:MA key a b out ia ib)(ha:ia<a.size)(hk:ib+k<=b.size)(c:∀j (hj:ib+j<b.size),j<k->key b[ib+j]<=key a[ia]):MA key a b (out++b.extract ib (ib+k)) ia (ib+k):=by
 unfold MA at h ⊢
 rw[sO b hk] at h
 rw[ü]
 refine h.right λx hx y hy=>?_
 obtain⟨j,hj,hj2,rfl⟩:=yI hx
 have s:=h.sr
 rw[drop_one a ha] at s hy
 exact Ă (c j hj2 hj) (mD s _ (Ë.mpr rfl) y hy)
def MA.done(h:MA key a b out ia ib)(c:ia=a.size\/ib=b.size):Gd key a b (out++a.extract ia++b.extract ib):=by
 unfold MA at h
 have e:(out++a.extract ia++b.extract ib).toList=out.toList++(a.toList.drop ia++b.toList.drop ib):=by
  rw[ü,ü,mY,mY,ď]
 refine⟨by rw[e];exact h.pm,?_⟩
 rw[e]
 refine h.fin λx hx y hy=>?_
 rcases c with c|c
 ·rw[List.drop_eq_nil_of_le (by simp[c])] at hx
  cases hx
 ·rw[List.drop_eq_nil_of_le (by simp[c])] at hy
  cases hy
def MA.last(h:MA key a b out ia ib)(c:ia+1=a.size)(h1:∀y∈b.toList,key y<key (a[ia]'(by omega))):Gd key a b (out++b.extract ib++a.extract ia):=by
 unfold MA at h
 have e:(out++b.extract ib++a.extract ia).toList=out.toList++(b.toList.drop ib++a.toList.drop ia):=by
  rw[ü,ü,mY,mY,ď]
 refine⟨by rw[e];exact h.sym.pm,?_⟩
 rw[e]
 refine h.sym.fin λx hx y hy=>?_
 rw[drop_one a (by omega),List.drop_eq_nil_of_le (by simp;omega),õ,Ë] at hy
 rw[hy]
 exact ú (h1 x (List.mem_of_mem_drop hx))
end
section
variable {M:Model}{A:Around}{E:Value->Shared->Prop}{s:Shared}{κ:SortKind}{mem:Keyed->Prop}{key:Keyed->Int}
def aA{α:Type}{c:Prop}[Decidable c]{t u:StateT SortSt Sem α}{Q:α->SortSt->Prop}{st:SortSt}(h1:c->wpS M A E s t Q st)(h2:¬c->wpS M A E s u Q st):wpS M A E s (if c then t else u) Q st:=by
 by_cases h:c
 ·rw[if_pos h]
  exact h1 h
 ·rw[if_neg h]
  exact h2 h
def ga(xs:Array Keyed)(i:Nat):Keyed:=(xs[i]?).getD (.none,.none)
def aW{xs:Array Keyed}{i:Nat}(h:i<xs.size):ga xs i=xs[i]:=by
 unfold ga
 rw[getElem?_pos xs i h]
 rfl
def cR{xs:Array Keyed}{i:Nat}(h:i<xs.size):xs[i]?=some (ga xs i):=by
 rw[aW h,getElem?_pos xs i h]
def jw{xs:Array Keyed}(h:eE key xs.toList):∀i j,i<=j->j<xs.size->key (ga xs i)<=key (ga xs j):=λi j hij hj=>by
 rw[aW hj,aW (by omega)]
 by_cases e:i=j
 ·subst e
  exact ÿ _
 ·have:=Ŝ.mp h i j (by simp;omega) (by simpa using hj) (by omega)
  simpa using this
def qp{k x:Keyed}{c:Bool}(h:byd false key k x=c):if c then key x<=key k else key k<key x:=by
 have h:(!decide (key k<key x))=c:=h
 subst h
 by_cases z:key k<key x
 ·rw[decide_eq_true z]
  exact z
 ·rw[decide_eq_false z]
  exact Ĺ.mp z
def qt{k x:Keyed}{c:Bool}(h:byd true key k x=c):if c then key x<key k else key k<=key x:=by
 have h:decide (key x<key k)=c:=h
 subst h
 by_cases z:key x<key k
 ·rw[decide_eq_true z]
  exact z
 ·rw[decide_eq_false z]
  exact Ĺ.mp z
def iM(L:Lts M A E s κ mem key){left:Bool}{k:Keyed}{arr:Array Keyed}{base n hint:Nat}{Q:Option Nat->SortSt->Prop}{st:SortSt}(hk:kindOf st=κ)(mk:mem k)(ma:∀x∈arr.toList,mem x)(hs:∀i j,base<=i->i<=j->j<base+n->key (ga arr i)<=key (ga arr j))(hb:base+n<=arr.size)(hh:hint<n)(h:∀r,r<=n->(∀i,i<r->byd left key k (ga arr (base+i))=true)->(∀i,r<=i->i<n->byd left key k (ga arr (base+i))=false)->Q (some r) st):wpS M A E s (yO left k arr base n hint) Q st :=
 vD L (f:=λi=>ga arr (base+i)) hk mk (λi hi=>⟨cR (by omega),by rw[aW (by omega)];exact ma _ (by simp)⟩) (λi j h1 h2=>hs _ _ (by omega) (by omega) (by omega)) hh h
def tL(hr:∀(t:String) (Q:Unit->Shared->Prop),Q () s->wpAny M A (rule t) Q E s)(L:Lts M A E s κ mem key){a b:Array Keyed}{Q:Array Keyed->SortSt->Prop}{st:SortSt}(hk:kindOf st=κ)(ma:∀x∈a.toList,mem x)(mb:∀x∈b.toList,mem x)(sa:eE key a.toList)(sb:eE key b.toList)(na:0<a.size)(nb:0<b.size)(h0:∀y∈a.toList,key b[0]<key y)(h1:∀y∈b.toList,key y<key a[a.size - 1])(h:∀out st',Alk st st'->out.toList.Perm (a.toList++b.toList)->eE key out.toList->Q out st'):wpS M A E s (Ei a b) Q st:=by
 refine Î (wpS_lift (hr _ _ ⟨rfl,?_⟩))
 refine Î (aH (p:=b[0]) (by rw[getElem?_pos]) ?_)
 dsimp only
 have e0:MA key a b #[b[0]] 0 1:=by
  show MI key _ [b[0]] a.toList (b.toList.drop 1)
  have eb:b.toList=[b[0]]++b.toList.drop 1:=by
   have:=drop_one b nb
   rwa [List.drop_zero] at this
  have s2:=sb
  rw[eb] at s2
  obtain⟨q1,q2,q3⟩:=fu.mp s2
  refine⟨?_,List.pairwise_singleton _ _,sa,q2,λx hx y hy=>?_⟩
  ·conv=>rhs;rw[eb]
   rw[←ď,←ď]
   exact List.Perm.append_right _ List.perm_append_comm
  ·rcases Ù.mp hy with hy|hy
   ·rw[Ë.mp hx]
    exact ú (h0 y hy)
   ·exact q3 x hx y hy
 have fin:∀r st',Gd key a b r->Alk st st'->Q r st':=λr st' g k=>h r st' k g.1 g.2
 by_cases c1:1=b.size
 ·rw[if_pos (by simpa using c1)]
  exact Ó (fin _ _ (e0.done (.inr c1)) ⟨rfl,rfl,rfl,rfl⟩)
 rw[if_neg (by simpa using c1)]
 have h1':∀(i:Nat) (hi:i<a.size),i+1=a.size->∀y∈b.toList,key y<key a[i]:=λi hi e y hy=>by
  have:=h1 y hy
  have e2:a.size - 1=i:=by omega
  simpa only[e2] using this
 by_cases c2:0+1=a.size
 ·rw[if_pos (by simpa using c2)]
  exact Ó (fin _ _ (e0.last c2 (h1' 0 na c2)) ⟨rfl,rfl,rfl,rfl⟩)
 rw[if_neg (by simpa using c2)]
 refine Î (wpS_get ?_)
 refine Î (ŀ (Ĉ (I:=λx c st'=>Alk st st'/\∃out ia ib g,c=(none,out,ia,ib,g)/\MA key a b out ia ib/\ia+1<a.size/\ib<b.size/\x+1<=ia+ib) (Q:=λc st'=>Alk st st'/\∃r u,c=(some r,u)/\Gd key a b r) ?step ?fin ⟨⟨rfl,rfl,rfl,rfl⟩,_,_,_,_,rfl,e0,by omega,by omega,by omega⟩) ?post)
 case fin =>
  rintro c st' ⟨_,out,ia,ib,g,rfl,q,q1,q2,q3⟩
  omega
 case post =>
  rintro c st' ⟨k,r,u,rfl,g⟩
  exact Ó (fin r st' g k)
 case step =>
  rintro x c st' _ hx ⟨k,out,ia,ib,g,rfl,q,q1,q2,q3⟩
  dsimp only
  refine Î (ŀ (Ĉ (I:=λy c st2=>st2=st'/\∃out ia ib ac bc,c=(none,out,ia,ib,ac,bc)/\MA key a b out ia ib/\ia+1<a.size/\ib<b.size/\x+1+y<=ia+ib) (Q:=λc st2=>st2=st'/\((∃r u,c=(some r,u)/\Gd key a b r)\/∃out ia ib ac bc,c=(none,out,ia,ib,ac,bc)/\MA key a b out ia ib/\ia+1<a.size/\ib<b.size/\x+2<=ia+ib)) ?istep ?ifin ⟨rfl,_,_,_,_,_,rfl,q,q1,q2,by omega⟩) ?ipost)
  case ifin =>
   rintro c st2 ⟨rfl,out,ia,ib,ac,bc,rfl,q,q1,q2,q3⟩
   exact⟨rfl,.inr ⟨_,_,_,_,_,rfl,q,q1,q2,by omega⟩⟩
  case istep =>
   rintro y c st2 _ hy ⟨rfl,out,ia,ib,ac,bc,rfl,q,q1,q2,q3⟩
   dsimp only
   have hia:ia<a.size:=by omega
   refine Î (aH (p:=b[ib]) (by rw[getElem?_pos]) ?_)
   refine Î (aH (p:=a[ia]) (by rw[getElem?_pos]) ?_)
   refine Î (L _ _ _ _ (mb _ (by simp)) (ma _ (by simp)) (k.k.trans hk) ?_)
   dsimp only
   by_cases cc:key b[ib]<key a[ia]
   ·rw[if_pos (decide_eq_true cc)]
    refine Î (aH (p:=b[ib]) (by rw[getElem?_pos]) ?_)
    have q':=q.tB q2 hia (ú cc)
    by_cases c3:ib+1=b.size
    ·rw[if_pos (by simpa using c3)]
     exact Ó ⟨rfl,.inl ⟨_,_,rfl,q'.done (.inr c3)⟩⟩
    ·rw[if_neg (by simpa using c3)]
     split
     ·exact Ó ⟨rfl,.inr ⟨_,_,_,_,_,rfl,q',q1,by omega,by omega⟩⟩
     ·exact Ó ⟨rfl,_,_,_,_,_,rfl,q',q1,by omega,by omega⟩
   ·rw[if_neg (by simpa using cc)]
    refine Î (aH (p:=a[ia]) (by rw[getElem?_pos]) ?_)
    have q':=q.tA q2 hia (Ĺ.mp cc)
    by_cases c3:ia+1+1=a.size
    ·rw[if_pos (by simpa using c3)]
     exact Ó ⟨rfl,.inl ⟨_,_,rfl,q'.last c3 (h1' _ _ c3)⟩⟩
    ·rw[if_neg (by simpa using c3)]
     split
     ·exact Ó ⟨rfl,.inr ⟨_,_,_,_,_,rfl,q',by omega,q2,by omega⟩⟩
     ·exact Ó ⟨rfl,_,_,_,_,_,rfl,q',by omega,q2,by omega⟩
  case ipost =>
   rintro c st2 ⟨rfl,(⟨r,u,rfl,gd⟩|⟨out,ia,ib,ac,bc,rfl,q,q1,q2,q3⟩)⟩
   ·exact Ó ⟨k,_,_,rfl,gd⟩
   dsimp only
   refine Î (wpS_lift (hr _ _ ⟨rfl,?_⟩))
   refine Î (ŀ (Ĉ (I:=λy c st2=>Alk st st2/\∃out ia ib g ac bc,c=(none,out,ia,ib,g,ac,bc)/\MA key a b out ia ib/\ia+1<a.size/\ib<b.size/\x+2<=ia+ib) (Q:=λc st2=>Alk st st2/\((∃r u,c=(some r,u)/\Gd key a b r)\/∃out ia ib g ac bc,c=(none,out,ia,ib,g,ac,bc)/\MA key a b out ia ib/\ia+1<a.size/\ib<b.size/\x+2<=ia+ib)) ?gstep ?gfin ⟨k,_,_,_,_,_,_,rfl,q,q1,q2,by omega⟩) ?gpost)
   case gfin =>
    rintro c st2 ⟨k2,out,ia,ib,g,ac,bc,rfl,q,q1,q2,q3⟩
    exact⟨k2,.inr ⟨_,_,_,_,_,_,rfl,q,q1,q2,q3⟩⟩
   case gpost =>
    rintro c st2 ⟨k2,(⟨r,u,rfl,gd⟩|⟨out,ia,ib,g,ac,bc,rfl,q,q1,q2,q3⟩)⟩
    ·exact Ó ⟨k2,_,_,rfl,gd⟩
    ·dsimp only
     refine Î (ĵ (Ó ⟨⟨k2.a,k2.k,k2.p,k2.f⟩,_,_,_,_,rfl,q,q1,q2,by omega⟩))
   case gstep =>
    rintro y c st2 _ hy ⟨k2,out,ia,ib,g,ac,bc,rfl,q,q1,q2,q3⟩
    dsimp -zeta only
    have hia:ia<a.size:=by omega
    refine aA (λ_=>?_) (λ_=>?_)
    all_goals
     refine Î (ĵ ?_)
     refine Î (aH (p:=b[ib]) (by rw[getElem?_pos]) ?_)
     refine Î (iM L (left:=false) (hk:=k2.k.trans hk) (mb _ (by simp)) ma (λi j _ h2 h3=>jw sa i j h2 (by omega)) (by omega) (by omega) λr r0 r1 r2=>?_)
     dsimp only
     have q4:MA key a b (out++a.extract ia (ia+r)) (ia+r) ib:=q.tAs q2 (by omega) λj hj hr2=>by
      have:=qp (r1 j hr2)
      rw[aW hj] at this
      exact this
     have b4:ia+r<a.size->key b[ib]<key (ga a (ia+r)):=λh2=>qp (r2 r (Å _) (by omega))
     refine aA (λc3=>aA (λc4=>Ó ⟨⟨k2.a,k2.k,k2.p,k2.f⟩,.inl ⟨_,_,rfl,q4.last (by simpa using c4) (h1' _ _ (by simpa using c4))⟩⟩) (λc4=>aA (λc5=>Ó ⟨⟨k2.a,k2.k,k2.p,k2.f⟩,.inl ⟨_,_,rfl,q4.done (.inl (by simpa using c5))⟩⟩) λc5=>?_)) (λc3=>?_)
     all_goals first
      | (have c4:¬ia+r+1=a.size:=by simpa using c4
         have c5:¬ia+r=a.size:=by simpa using c5
         have w9:ia+r+1<a.size:=by omega
         have b9:=b4 (by omega)
         have x9:x+2<=ia+r+ib:=by omega
         generalize out++a.extract ia (ia+r)=out9 at q4 ⊢
         generalize ia+r=ia9 at q4 w9 b9 x9 ⊢)
      | (have e9:r=0:=by omega
         subst e9
         have w9:ia+1<a.size:=q1
         have b9:key b[ib]<key (ga a ia):=b4 (by omega)
         have x9:x+2<=ia+ib:=q3
         replace q4:=q
         generalize out=out9 at q4 ⊢
         generalize ia=ia9 at q4 w9 b9 x9 ⊢)
     all_goals
      have a9:ia9<a.size:=by omega
      refine Î (aH (p:=b[ib]) (by rw[getElem?_pos]) ?_)
      have q10:=q4.tB q2 a9 (by rw[←aW a9];exact ú b9)
      refine aA (λc6=>Ó ⟨⟨k2.a,k2.k,k2.p,k2.f⟩,.inl ⟨_,_,rfl,q10.done (.inr (by simpa using c6))⟩⟩) (λc6=>?_)
      have c6:¬ib+1=b.size:=by simpa using c6
      refine Î (aH (p:=a[ia9]) (by rw[getElem?_pos]) ?_)
      refine Î (iM L (left:=true) (hk:=k2.k.trans hk) (ma _ (by simp)) mb (λi j _ h2 h3=>jw sb i j h2 (by omega)) (by omega) (by omega) λt t0 t1 t2=>?_)
      dsimp only
      have q11:=q10.tBs (k:=t) a9 (by omega) λj hj ht=>by
       have:=qt (t1 j ht)
       rw[aW hj] at this
       exact ú this
      have b11:ib+1+t<b.size->key a[ia9]<=key (ga b (ib+1+t)):=λh2=>qt (t2 t (Å _) (by omega))
      refine aA (λc7=>aA (λc8=>Ó ⟨⟨k2.a,k2.k,k2.p,k2.f⟩,.inl ⟨_,_,rfl,q11.done (.inr (by simpa using c8))⟩⟩) λc8=>?_) (λc7=>?_)
      all_goals first
       | (have c8:¬ib+1+t=b.size:=by simpa using c8
          have w12:ib+1+t<b.size:=by omega
          have b12:=b11 w12
          have x12:x+2<=ia9+(ib+1+t):=by omega
          generalize out9.push b[ib]++b.extract (ib+1) (ib+1+t)=out12 at q11 ⊢
          generalize ib+1+t=ib12 at q11 w12 b12 x12 ⊢)
       | (have e9:t=0:=by omega
          subst e9
          have w12:ib+1<b.size:=by omega
          have b12:key a[ia9]<=key (ga b (ib+1)):=b11 (by omega)
          have x12:x+2<=ia9+(ib+1):=by omega
          replace q11:=q10
          generalize out9.push b[ib]=out12 at q11 ⊢
          generalize ib+1=ib12 at q11 w12 b12 x12 ⊢)
      all_goals
       refine Î (aH (p:=a[ia9]) (by rw[getElem?_pos]) ?_)
       have q13:=q11.tA w12 a9 (by rw[←aW w12];exact b12)
       refine aA (λc9=>Ó ⟨⟨k2.a,k2.k,k2.p,k2.f⟩,.inl ⟨_,_,rfl,q13.last (by simpa using c9) (h1' _ _ (by simpa using c9))⟩⟩) (λc9=>?_)
       have c9:¬ia9+1+1=a.size:=by simpa using c9
       exact aA (λ_=>Ó ⟨⟨k2.a,k2.k,k2.p,k2.f⟩,.inr ⟨_,_,_,_,_,_,rfl,q13,by omega,w12,by omega⟩⟩) (λ_=>Ó ⟨⟨k2.a,k2.k,k2.p,k2.f⟩,_,_,_,_,_,_,rfl,q13,by omega,w12,by omega⟩)
end
section
variable {key:Keyed->Int}{a b out:Array Keyed}{na nb k:Nat}
def ng(key:Keyed->Int)(x:Keyed):Int:=- key x
def oF{x y:Keyed}:ng key x<=ng key y↔key y<=key x:=by
 unfold ng
 omega
def ju{l:List Keyed}:eE (ng key) l↔eE key l.reverse:=by
 unfold eE
 rw[List.pairwise_reverse]
 exact⟨λh=>h.imp λq=>oF.mp q,λh=>h.imp λq=>oF.mpr q⟩
def tk(a:Array Keyed)(n:Nat):List Keyed:=(a.toList.take n).reverse
def MB(key:Keyed->Int)(a b out:Array Keyed)(na nb:Nat):Prop:=MI (ng key) (a.toList++b.toList) out.toList (tk a na) (tk b nb)
def M8(a:Array Keyed){m:Nat}(h1:k<=m)(h2:m<=a.size):tk a m=(a.extract k m).reverse.toList++tk a k:=by
 unfold tk
 rw[ż,←Ł,Ž]
 congr 1
 show _=a.toList.take k++List.extract a.toList k m
 rw[ŝ,←ķ k (a.toList.take m),List.take_take,Nat.min_eq_left h1,List.drop_take]
def Bv(a:Array Keyed){m:Nat}(h:m<a.size):tk a (m+1)=[a[m]]++tk a m:=by
 unfold tk
 rw[List.take_succ_eq_append_getElem (by simpa using h),Ł]
 rfl
def kJ{x:Keyed}{m:Nat}(hm:m<=a.size)(h:x∈tk a m):∃j,j<m/\x=ga a j:=by
 unfold tk at h
 obtain⟨j,hj,rfl⟩:=ī.mp (List.mem_reverse.mp h)
 have hj2:j<min m a.size:=by simpa using hj
 refine⟨j,by omega,?_⟩
 rw[aW (by omega)]
 simp
def yJ{x:Keyed}{m:Nat}(h:x∈(a.extract k m).reverse.toList):∃j,k<=j/\j<m/\j<a.size/\x=ga a j:=by
 rw[ż,List.mem_reverse] at h
 obtain⟨j,hj,rfl⟩:=ī.mp h
 have hj2:j<(a.extract k m).size:=hj
 rw[Ę] at hj2
 refine⟨k+j,by omega,by omega,by omega,?_⟩
 rw[aW (by omega)]
 simp
def MB.tA(h:MB key a b out (na+1) nb)(ha:na<a.size)(hb:nb<=b.size)(c:∀j,j<nb->key (ga b j)<=key a[na]):MB key a b (out.push a[na]) na nb:=by
 unfold MB at h ⊢
 rw[Bv a ha] at h
 rw[Ĭ]
 refine h.left λx hx y hy=>?_
 rw[Ë.mp hx]
 obtain⟨j,hj,rfl⟩:=kJ hb hy
 exact oF.mpr (c j hj)
def MB.tB(h:MB key a b out na (nb+1))(hb:nb<b.size)(ha:na<=a.size)(c:∀j,j<na->key (ga a j)<=key b[nb]):MB key a b (out.push b[nb]) na nb:=by
 unfold MB at h ⊢
 rw[Bv b hb] at h
 rw[Ĭ]
 refine h.right λx hx y hy=>?_
 rw[Ë.mp hx]
 obtain⟨j,hj,rfl⟩:=kJ ha hy
 exact oF.mpr (c j hj)
def MB.tAs(h:MB key a b out na nb)(hk:k<=na)(ha:na<=a.size)(hb:nb<=b.size)(c:∀i j,k<=i->i<na->j<nb->key (ga b j)<=key (ga a i)):MB key a b (out++(a.extract k na).reverse) k nb:=by
 unfold MB at h ⊢
 rw[M8 a hk ha] at h
 rw[ü]
 refine h.left λx hx y hy=>?_
 obtain⟨i,h1,h2,_,rfl⟩:=yJ hx
 obtain⟨j,hj,rfl⟩:=kJ hb hy
 exact oF.mpr (c i j h1 h2 hj)
def MB.tBs(h:MB key a b out na nb)(hk:k<=nb)(ha:na<=a.size)(hb:nb<=b.size)(c:∀i j,k<=i->i<nb->j<na->key (ga a j)<=key (ga b i)):MB key a b (out++(b.extract k nb).reverse) na k:=by
 unfold MB at h ⊢
 rw[M8 b hk hb] at h
 rw[ü]
 refine h.right λx hx y hy=>?_
 obtain⟨i,h1,h2,_,rfl⟩:=yJ hx
 obtain⟨j,hj,rfl⟩:=kJ ha hy
 exact oF.mpr (c i j h1 h2 hj)
def MB.tA1(h:MB key a b out na nb)(h1:1<=na)(ha:na<=a.size)(hb:nb<=b.size)(c:∀j,j<nb->key (ga b j)<=key (ga a (na - 1))):MB key a b (out.push (ga a (na - 1))) (na - 1) nb:=by
 rw[aW (by omega)] at c ⊢
 refine MB.tA ?_ (by omega) hb c
 rw[show na - 1+1=na by omega]
 exact h
def MB.tB1(h:MB key a b out na nb)(h1:1<=nb)(ha:na<=a.size)(hb:nb<=b.size)(c:∀j,j<na->key (ga a j)<=key (ga b (nb - 1))):MB key a b (out.push (ga b (nb - 1))) na (nb - 1):=by
 rw[aW (by omega)] at c ⊢
 refine MB.tB ?_ (by omega) ha c
 rw[show nb - 1+1=nb by omega]
 exact h
def jQ(a:Array Keyed)(n:Nat):(a.extract 0 n).toList=a.toList.take n:=by
 rw[Ž]
 show List.extract a.toList 0 n=_
 rw[ŝ]
 rfl
def MB.done(h:MB key a b out na nb)(c:na=0\/nb=0):Gd key a b (a.extract 0 na++b.extract 0 nb++out.reverse):=by
 unfold MB at h
 have e:(a.extract 0 na++b.extract 0 nb++out.reverse).toList=(out.toList++(tk b nb++tk a na)).reverse:=by
  unfold tk
  rw[ü,ü,jQ,jQ,ż,Ł,Ł,Ľ,Ľ]
 refine⟨by rw[e];exact(List.reverse_perm _).trans h.sym.pm,?_⟩
 rw[e]
 refine ju.mp (h.sym.fin λx hx y hy=>?_)
 rcases c with rfl|rfl
 ·cases hy
 ·cases hx
def MB.first(h:MB key a b out na nb)(c:nb=1)(hb:0<b.size)(ha:na<=a.size)(h0:∀y∈a.toList,key b[0]<key y):Gd key a b (b.extract 0 nb++a.extract 0 na++out.reverse):=by
 unfold MB at h
 have e:(b.extract 0 nb++a.extract 0 na++out.reverse).toList=(out.toList++(tk a na++tk b nb)).reverse:=by
  unfold tk
  rw[ü,ü,jQ,jQ,ż,Ł,Ł,Ľ,Ľ]
 refine⟨by rw[e];exact(List.reverse_perm _).trans h.pm,?_⟩
 rw[e]
 refine ju.mp (h.fin λx hx y hy=>?_)
 subst c
 obtain⟨j,hj,rfl⟩:=kJ (by omega) hy
 obtain⟨i,hi,rfl⟩:=kJ ha hx
 have:j=0:=by omega
 subst this
 rw[oF,aW hb,aW (by omega)]
 exact ú (h0 _ (by simp))
end
section
variable {M:Model}{A:Around}{E:Value->Shared->Prop}{s:Shared}{κ:SortKind}{mem:Keyed->Prop}{key:Keyed->Int}
def tM(hr:∀(t:String) (Q:Unit->Shared->Prop),Q () s->wpAny M A (rule t) Q E s)(L:Lts M A E s κ mem key){a b:Array Keyed}{Q:Array Keyed->SortSt->Prop}{st:SortSt}(hk:kindOf st=κ)(ma:∀x∈a.toList,mem x)(mb:∀x∈b.toList,mem x)(sa:eE key a.toList)(sb:eE key b.toList)(za:0<a.size)(zb:0<b.size)(h0:∀y∈a.toList,key b[0]<key y)(h1:∀y∈b.toList,key y<key a[a.size - 1])(h:∀out st',Alk st st'->out.toList.Perm (a.toList++b.toList)->eE key out.toList->Q out st'):wpS M A E s (Ej a b) Q st:=by
 have ua:=jw sa
 have ub:=jw sb
 refine Î (wpS_lift (hr _ _ ⟨rfl,?_⟩))
 refine Î (aH (p:=a[a.size - 1]) (by rw[getElem?_pos]) ?_)
 dsimp only
 have tall:∀c:Array Keyed,tk c c.size=c.toList.reverse:=λc=>by
  unfold tk
  rw[Ģ (by simp)]
 have e0:MB key a b #[a[a.size - 1]] (a.size - 1) b.size:=by
  have g0:MB key a b #[] (a.size - 1+1) b.size:=by
   unfold MB
   rw[show a.size - 1+1=a.size by omega,tall,tall]
   refine⟨?_,List.Pairwise.nil,ju.mpr (by rw[Ľ];exact sa),ju.mpr (by rw[Ľ];exact sb),λx hx=>nomatch hx⟩
   exact(List.reverse_perm _).append (List.reverse_perm _)
  exact g0.tA (by omega) (Å _) λj hj=>by
   rw[aW hj]
   exact ú (h1 _ (by simp))
 have fin:∀r st',Gd key a b r->Alk st st'->Q r st':=λr st' g k=>h r st' k g.1 g.2
 by_cases c1:a.size - 1=0
 ·rw[if_pos (by simpa using c1)]
  exact Ó (fin _ _ (e0.done (.inl c1)) ⟨rfl,rfl,rfl,rfl⟩)
 rw[if_neg (by simpa using c1)]
 by_cases c2:b.size=1
 ·rw[if_pos (by simpa using c2)]
  exact Ó (fin _ _ (e0.first c2 zb (by omega) h0) ⟨rfl,rfl,rfl,rfl⟩)
 rw[if_neg (by simpa using c2)]
 refine Î (wpS_get ?_)
 refine Î (ŀ (Ĉ (I:=λx c st'=>Alk st st'/\∃na nb out g,c=(none,na,nb,out,g)/\MB key a b out na nb/\1<=na/\na<=a.size/\2<=nb/\nb<=b.size/\na+nb+x+1<=a.size+b.size) (Q:=λc st'=>Alk st st'/\∃r u,c=(some r,u)/\Gd key a b r) ?step ?fin ⟨⟨rfl,rfl,rfl,rfl⟩,_,_,_,_,rfl,e0,by omega,by omega,by omega,by omega,by omega⟩) ?post)
 case fin =>
  rintro c st' ⟨_,na,nb,out,g,rfl,q,q1,q2,q3,q4,q5⟩
  omega
 case post =>
  rintro c st' ⟨k,r,u,rfl,g⟩
  exact Ó (fin r st' g k)
 case step =>
  rintro x c st' _ hx ⟨k,na,nb,out,g,rfl,q,q1,q2,q3,q4,q5⟩
  dsimp only
  refine Î (ŀ (Ĉ (I:=λy c st2=>st2=st'/\∃na nb out ac bc,c=(none,na,nb,out,ac,bc)/\MB key a b out na nb/\1<=na/\na<=a.size/\2<=nb/\nb<=b.size/\na+nb+x+1+y<=a.size+b.size) (Q:=λc st2=>st2=st'/\((∃r u,c=(some r,u)/\Gd key a b r)\/∃na nb out ac bc,c=(none,na,nb,out,ac,bc)/\MB key a b out na nb/\1<=na/\na<=a.size/\2<=nb/\nb<=b.size/\na+nb+x+2<=a.size+b.size)) ?istep ?ifin ⟨rfl,_,_,_,_,_,rfl,q,q1,q2,q3,q4,by omega⟩) ?ipost)
  case ifin =>
   rintro c st2 ⟨rfl,na,nb,out,ac,bc,rfl,q,q1,q2,q3,q4,q5⟩
   exact⟨rfl,.inr ⟨_,_,_,_,_,rfl,q,q1,q2,q3,q4,by omega⟩⟩
  case istep =>
   rintro y c st2 _ hy ⟨rfl,na,nb,out,ac,bc,rfl,q,q1,q2,q3,q4,q5⟩
   dsimp only
   refine Î (aH (cR (by omega)) ?_)
   refine Î (aH (cR (by omega)) ?_)
   refine Î (L _ _ _ _ (mb _ (by rw[aW (by omega)];simp)) (ma _ (by rw[aW (by omega)];simp)) (k.k.trans hk) ?_)
   dsimp only
   by_cases cc:key (ga b (nb - 1))<key (ga a (na - 1))
   ·rw[if_pos (decide_eq_true cc)]
    refine Î (aH (cR (by omega)) ?_)
    have q':=q.tA1 q1 q2 q4 λj hj=>ú (Int.lt_of_le_of_lt (ub j (nb - 1) (by omega) (by omega)) cc)
    refine aA (λc3=>Ó ⟨rfl,.inl ⟨_,_,rfl,q'.done (.inl (by simpa using c3))⟩⟩) (λc3=>?_)
    have c3:¬na - 1=0:=by simpa using c3
    exact aA (λ_=>Ó ⟨rfl,.inr ⟨_,_,_,_,_,rfl,q',by omega,by omega,q3,q4,by omega⟩⟩) (λ_=>Ó ⟨rfl,_,_,_,_,_,rfl,q',by omega,by omega,q3,q4,by omega⟩)
   ·rw[if_neg (by simpa using cc)]
    refine Î (aH (cR (by omega)) ?_)
    have q':=q.tB1 (by omega) q2 q4 λj hj=>Ă (ua j (na - 1) (by omega) (by omega)) (Ĺ.mp cc)
    refine aA (λc3=>Ó ⟨rfl,.inl ⟨_,_,rfl,q'.first (by simpa using c3) zb q2 h0⟩⟩) (λc3=>?_)
    have c3:¬nb - 1=1:=by simpa using c3
    exact aA (λ_=>Ó ⟨rfl,.inr ⟨_,_,_,_,_,rfl,q',q1,q2,by omega,by omega,by omega⟩⟩) (λ_=>Ó ⟨rfl,_,_,_,_,_,rfl,q',q1,q2,by omega,by omega,by omega⟩)
  case ipost =>
   rintro c st2 ⟨rfl,(⟨r,u,rfl,gd⟩|⟨na,nb,out,ac,bc,rfl,q,q1,q2,q3,q4,q5⟩)⟩
   ·exact Ó ⟨k,_,_,rfl,gd⟩
   dsimp only
   refine Î (wpS_lift (hr _ _ ⟨rfl,?_⟩))
   refine Î (ŀ (Ĉ (I:=λy c st2=>Alk st st2/\∃na nb out g ac bc,c=(none,na,nb,out,g,ac,bc)/\MB key a b out na nb/\1<=na/\na<=a.size/\2<=nb/\nb<=b.size/\na+nb+x+2<=a.size+b.size) (Q:=λc st2=>Alk st st2/\((∃r u,c=(some r,u)/\Gd key a b r)\/∃na nb out g ac bc,c=(none,na,nb,out,g,ac,bc)/\MB key a b out na nb/\1<=na/\na<=a.size/\2<=nb/\nb<=b.size/\na+nb+x+2<=a.size+b.size)) ?gstep ?gfin ⟨k,_,_,_,_,_,_,rfl,q,q1,q2,q3,q4,by omega⟩) ?gpost)
   case gfin =>
    rintro c st2 ⟨k2,na,nb,out,g,ac,bc,rfl,q,q1,q2,q3,q4,q5⟩
    exact⟨k2,.inr ⟨_,_,_,_,_,_,rfl,q,q1,q2,q3,q4,q5⟩⟩
   case gpost =>
    rintro c st2 ⟨k2,(⟨r,u,rfl,gd⟩|⟨na,nb,out,g,ac,bc,rfl,q,q1,q2,q3,q4,q5⟩)⟩
    ·exact Ó ⟨k2,_,_,rfl,gd⟩
    ·dsimp only
     refine Î (ĵ (Ó ⟨⟨k2.a,k2.k,k2.p,k2.f⟩,_,_,_,_,rfl,q,q1,q2,q3,q4,by omega⟩))
   case gstep =>
    rintro y c st2 _ hy ⟨k2,na,nb,out,g,ac,bc,rfl,q,q1,q2,q3,q4,q5⟩
    dsimp -zeta only
    refine aA (λ_=>?_) (λ_=>?_)
    all_goals
     refine Î (ĵ ?_)
     refine Î (aH (cR (by omega)) ?_)
     refine Î (iM L (left:=false) (hk:=k2.k.trans hk) (mb _ (by rw[aW (by omega)];simp)) ma (λi j _ h2 h3=>ua i j h2 (by omega)) (by omega) (by omega) λr r0 r1 r2=>?_)
     simp only[Nat.zero_add] at r1 r2
     dsimp only
     have t4:MB key a b (out++(a.extract r na).reverse) r nb:=q.tAs r0 q2 q4 λi j h2 h3 h4=>ú (Int.lt_of_le_of_lt (ub j (nb - 1) (by omega) (by omega)) (qp (r2 i h2 h3)))
     have b4:∀j,j<r->key (ga a j)<=key (ga b (nb - 1)):=λj hj=>qp (r1 j hj)
     refine aA (λc3=>aA (λc4=>Ó ⟨⟨k2.a,k2.k,k2.p,k2.f⟩,.inl ⟨_,_,rfl,t4.done (.inl (by simpa using c4))⟩⟩) (λc4=>?_)) (λc3=>?_)
     all_goals first
      | (have c4:¬r=0:=by simpa using c4
         have w9:1<=r:=by omega
         have v9:r<=a.size:=by omega
         have x9:r+nb+x+2<=a.size+b.size:=by omega
         generalize out++(a.extract r na).reverse=out9 at t4 ⊢
         generalize r=na9 at t4 w9 v9 b4 x9 ⊢)
      | (have e9:r=na:=by omega
         subst e9
         have w9:1<=r:=q1
         have v9:r<=a.size:=q2
         have x9:r+nb+x+2<=a.size+b.size:=q5
         replace t4:=q
         generalize out=out9 at t4 ⊢
         generalize r=na9 at t4 w9 v9 b4 x9 ⊢)
     all_goals
      refine Î (aH (cR (by omega)) ?_)
      have q10:=t4.tB1 (by omega) v9 q4 b4
      refine aA (λc6=>Ó ⟨⟨k2.a,k2.k,k2.p,k2.f⟩,.inl ⟨_,_,rfl,q10.first (by simpa using c6) zb v9 h0⟩⟩) (λc6=>?_)
      have c6:¬nb - 1=1:=by simpa using c6
      refine Î (aH (cR (by omega)) ?_)
      refine Î (iM L (left:=true) (hk:=k2.k.trans hk) (ma _ (by rw[aW (by omega)];simp)) mb (λi j _ h2 h3=>ub i j h2 (by omega)) (by omega) (by omega) λt t0 t1 t2=>?_)
      simp only[Nat.zero_add] at t1 t2
      dsimp only
      have q11:=q10.tBs (k:=t) t0 v9 (by omega) λi j h2 h3 h4=>Ă (ua j (na9 - 1) (by omega) (by omega)) (qt (t2 i h2 h3))
      have b11:∀j,j<t->key (ga b j)<=key (ga a (na9 - 1)):=λj hj=>ú (qt (t1 j hj))
      refine aA (λc7=>aA (λc8=>Ó ⟨⟨k2.a,k2.k,k2.p,k2.f⟩,.inl ⟨_,_,rfl,q11.first (by simpa using c8) zb v9 h0⟩⟩) (λc8=>aA (λc9=>Ó ⟨⟨k2.a,k2.k,k2.p,k2.f⟩,.inl ⟨_,_,rfl,q11.done (.inr (by simpa using c9))⟩⟩) (λc9=>?_))) (λc7=>?_)
      all_goals first
       | (have c8:¬t=1:=by simpa using c8
          have c9:¬t=0:=by simpa using c9
          have w12:2<=t:=by omega
          have v12:t<=b.size:=by omega
          have x12:na9+t+x+2<=a.size+b.size:=by omega
          generalize out9.push (ga b (nb - 1))++(b.extract t (nb - 1)).reverse=out12 at q11 ⊢
          generalize t=nb12 at q11 w12 v12 b11 x12 ⊢)
       | (have e9:t=nb - 1:=by omega
          have w12:2<=nb - 1:=by omega
          have v12:nb - 1<=b.size:=by omega
          have x12:na9+(nb - 1)+x+2<=a.size+b.size:=by omega
          rw[e9] at b11
          replace q11:=q10
          generalize out9.push (ga b (nb - 1))=out12 at q11 ⊢
          generalize nb - 1=nb12 at q11 w12 v12 b11 x12 ⊢)
      all_goals
       refine Î (aH (cR (by omega)) ?_)
       have q13:=q11.tA1 w9 v9 v12 b11
       refine aA (λc9=>Ó ⟨⟨k2.a,k2.k,k2.p,k2.f⟩,.inl ⟨_,_,rfl,q13.done (.inl (by simpa using c9))⟩⟩) (λc9=>?_)
       have c9:¬na9 - 1=0:=by simpa using c9
       exact aA (λ_=>Ó ⟨⟨k2.a,k2.k,k2.p,k2.f⟩,.inr ⟨_,_,_,_,_,_,rfl,q13,by omega,by omega,w12,v12,by omega⟩⟩) (λ_=>Ó ⟨⟨k2.a,k2.k,k2.p,k2.f⟩,_,_,_,_,_,_,rfl,q13,by omega,by omega,w12,v12,by omega⟩)
end
section
variable {key:Keyed->Int}{xs ys l:Array Keyed}{off i j:Nat}
def Seg(key:Keyed->Int)(xs:Array Keyed)(i j:Nat):Prop:=∀u v,i<=u->u<=v->v<j->key (ga xs u)<=key (ga xs v)
def wrt(xs:Array Keyed)(off:Nat)(l:List (Keyed×Nat)):Array Keyed:=l.foldl (λa (p,j)=>a.setIfInBounds (off+j) p) xs
def qD:∀(l:List Keyed) (n:Nat) (xs:Array Keyed) (i:Nat),off+n+l.length<=xs.size->(wrt xs off (l.zipIdx n))[i]?=if off+n<=i/\i<off+n+l.length then l[i - (off+n)]? else xs[i]?
 |[],n,xs,i,_=>by
  rw[if_neg (by simp)]
  rfl
 |p::l,n,xs,i,h=>by
  rw[ð] at h
  show(wrt (xs.setIfInBounds (off+n) p) off (l.zipIdx (n+1)))[i]?=_
  rw[qD l (n+1) _ i (by rw[Array.size_setIfInBounds];omega),ð]
  by_cases h1:off+(n+1)<=i/\i<off+(n+1)+l.length
  ·rw[if_pos h1,if_pos (by omega)]
   obtain⟨q,hq⟩:∃q,i - (off+n)=q+1:=⟨i - (off+n) - 1,by omega⟩
   rw[hq,Ů]
   congr 1
   omega
  ·rw[if_neg h1,Array.getElem?_setIfInBounds]
   by_cases h2:off+n=i
   ·rw[if_pos h2,if_pos (by omega),if_pos (by omega),show i - (off+n)=0 by omega]
    rfl
   ·rw[if_neg h2,if_neg (by omega)]
def Bl{l:List Keyed}(h:off+l.length<=xs.size):(wrt xs off l.zipIdx).toList=xs.toList.take off++(l++xs.toList.drop (off+l.length)):=by
 apply List.ext_getElem?
 intro i
 have e:=qD (off:=off) l 0 xs i (by omega)
 rw[Nat.add_zero] at e
 rw[č,e]
 by_cases h1:i<off
 ·rw[if_neg (by omega),é (by simp;omega),List.getElem?_take_of_lt h1,č]
 ·have lt:(xs.toList.take off).length=off:=by simp;omega
  rw[ç (by omega),lt]
  by_cases h2:i<off+l.length
  ·rw[if_pos (by omega),é (by omega)]
  ·rw[if_neg (by omega),ç (by omega),List.getElem?_drop,č]
   congr 1
   omega
def Mh{l:Array Keyed}(h:off+l.size<=xs.size)(i:Nat):ga (wrt xs off l.toList.zipIdx) i=if off<=i/\i<off+l.size then ga l (i - off) else ga xs i:=by
 have e:=qD (off:=off) l.toList 0 xs i (by simpa using h)
 rw[Nat.add_zero,æ] at e
 unfold ga
 rw[e]
 by_cases c:off<=i/\i<off+l.size
 ·rw[if_pos c,if_pos c,č]
 ·rw[if_neg c,if_neg c]
def Jb{a b:Nat}(h1:a<=b)(h2:b<=xs.size):xs.toList=xs.toList.take a++((xs.extract a b).toList++xs.toList.drop b):=by
 have e:=sO (ia:=a) (k:=b - a) xs (by omega)
 rw[show a+(b - a)=b by omega] at e
 rw[←e]
 exact(ķ a _).symm
def fJ{a b:Nat}{x:Keyed}(h:x∈(xs.extract a b).toList):∃w,a<=w/\w<b/\w<xs.size/\x=ga xs w:=by
 obtain⟨j,hj,rfl⟩:=ī.mp h
 have hj2:j<(xs.extract a b).size:=hj
 rw[Ę] at hj2
 refine⟨a+j,by omega,by omega,by omega,?_⟩
 rw[aW (by omega)]
 simp
def wM{a b i:Nat}(hb:b<=xs.size)(h:a+i<b):ga (xs.extract a b) i=ga xs (a+i):=by
 have hs:i<(xs.extract a b).size:=by rw[Ę];omega
 rw[aW hs,aW (by omega)]
 simp
def lG{a b:Nat}(hb:b<=xs.size)(h:Seg key xs a b):eE key (xs.extract a b).toList:=by
 refine List.pairwise_iff_getElem.mpr λi j hi hj hij=>?_
 have hj2:j<(xs.extract a b).size:=hj
 have hi2:i<(xs.extract a b).size:=hi
 have q:(xs.extract a b).size=min b xs.size - a:=Ę ..
 have e:∀t (ht:t<(xs.extract a b).toList.length),t<(xs.extract a b).size->(xs.extract a b).toList[t]=ga xs (a+t):=λt ht h2=>by
  rw[←wM hb (by omega),aW h2]
  simp
 rw[e i hi hi2,e j hj hj2]
 exact h _ _ (by omega) (by omega) (by omega)
end
section
variable {key:Keyed->Int}
def zH{X m:Array Keyed}{sa off sb t e:Nat}(o1:sa<=off)(o2:off<sb)(t1:1<=t)(o3:sb+t<=e)(he:e<=X.size)(s1:Seg key X sa sb)(s2:Seg key X sb e)(pre:∀i,sa<=i->i<off->key (ga X i)<=key (ga X sb))(pos:∀i,off<=i->i<sb->key (ga X sb)<key (ga X i))(lo:∀i,sb<=i->i<sb+t->key (ga X i)<key (ga X (sb - 1)))(hi:∀i,sb+t<=i->i<e->key (ga X (sb - 1))<=key (ga X i))(pm:m.toList.Perm ((X.extract off sb).toList++(X.extract sb (sb+t)).toList))(sm:eE key m.toList):(wrt X off m.toList.zipIdx).toList.Perm X.toList/\Seg key (wrt X off m.toList.zipIdx) sa e/\∀j,j<sa\/e<=j->ga (wrt X off m.toList.zipIdx) j=ga X j:=by
 have z1:(X.extract off sb).size=min sb X.size - off:=Ę ..
 have z2:(X.extract sb (sb+t)).size=min (sb+t) X.size - sb:=Ę ..
 have z3:m.size=sb+t - off:=by
  have:=pm.length_eq
  rw[È,æ,æ,æ,z1,z2] at this
  omega
 have hw:=Mh (xs:=X) (off:=off) (l:=m) (by omega)
 have md:∀j,j<m.size->key (ga X sb)<=key (ga m j)/\key (ga m j)<=key (ga X (sb - 1)):=λj hj=>by
  have:ga m j∈m.toList:=by
   rw[aW hj]
   simp
  rcases Ù.mp (pm.mem_iff.mp this) with q|q
  ·obtain⟨w,w1,w2,_,e2⟩:=fJ q
   rw[e2]
   exact⟨ú (pos w w1 w2),s1 w (sb - 1) (by omega) (by omega) (by omega)⟩
  ·obtain⟨w,w1,w2,_,e2⟩:=fJ q
   rw[e2]
   exact⟨s2 sb w (Å _) w1 (by omega),ú (lo w w1 w2)⟩
 refine⟨?_,λu v h1 h2 h3=>?_,λj hj=>?_⟩
 ·rw[Bl (by rw[æ];omega),æ,show off+m.size=sb+t by omega]
  have x1:=Jb (xs:=X) (a:=off) (b:=sb) (by omega) (by omega)
  have x2:=sO (ia:=sb) (k:=t) X (by omega)
  rw[x2] at x1
  conv=>rhs;rw[x1]
  refine List.Perm.append_left _ ?_
  rw[←ď]
  exact List.Perm.append_right _ pm
 ·rw[hw u,hw v]
  by_cases cu:off<=u/\u<off+m.size
  ·rw[if_pos cu]
   by_cases cv:off<=v/\v<off+m.size
   ·rw[if_pos cv]
    exact jw sm _ _ (by omega) (by omega)
   ·rw[if_neg cv]
    exact Ă (md _ (by omega)).2 (hi v (by omega) h3)
  ·rw[if_neg cu]
   by_cases cv:off<=v/\v<off+m.size
   ·rw[if_pos cv]
    exact Ă (pre u h1 (by omega)) (md _ (by omega)).1
   ·rw[if_neg cv]
    by_cases c2:v<off
    ·exact s1 u v h1 h2 (by omega)
    ·by_cases c3:u<off
     ·exact Ă (pre u h1 c3) (s2 sb v (Å _) (by omega) h3)
     ·exact s2 u v (by omega) h2 h3
 ·rw[hw j,if_neg (by omega)]
def uh{X:Array Keyed}{sa sb e:Nat}(s1:Seg key X sa sb)(s2:Seg key X sb e)(j:∀u v,sa<=u->u<sb->sb<=v->v<e->key (ga X u)<=key (ga X v)):Seg key X sa e:=λu v h1 h2 h3=>by
 by_cases c1:v<sb
 ·exact s1 u v h1 h2 c1
 ·by_cases c2:u<sb
  ·exact j u v h1 c2 (by omega) h3
  ·exact s2 u v (by omega) h2 h3
end
structure Kep(a₀:Array Keyed)(κ:SortKind)(st:SortSt):Prop where
 perm:(arrOf st).toList.Perm a₀.toList
 kind:kindOf st=κ
 fail:failedOf st=none
def Kep.size{a₀:Array Keyed}{κ:SortKind}{st:SortSt}(h:Kep a₀ κ st):(arrOf st).size=a₀.size:=by
 have:=h.perm.length_eq
 simpa using this
section
variable {M:Model}{A:Around}{E:Value->Shared->Prop}{s:Shared}{κ:SortKind}{key:Keyed->Int}{a₀:Array Keyed}
def GK{σ:Type}{M:Model}{st st':σ}{Q:PUnit->σ->Prop}(h:Q ⟨⟩ st'):wpS M A E s (set st':StateT σ Sem PUnit) Q st:=by
 unfold wpS
 rw[StateT.run_set]
 exact Ñ ⟨rfl,h⟩
def tQ(hr:∀(t:String) (Q:Unit->Shared->Prop),Q () s->wpAny M A (rule t) Q E s)(L:Lts M A E s κ (·∈a₀.toList) key){i sa na pa sb nb pb:Nat}{Q:Bool->SortSt->Prop}{st:SortSt}(K:Kep a₀ κ st)(e1:(pendingOf st)[i]?=some (sa,na,pa))(e2:(pendingOf st)[i+1]?=some (sb,nb,pb))(hb:sb=sa+na)(za:1<=na)(zb:1<=nb)(hn:sb+nb<=a₀.size)(s1:Seg key (arrOf st) sa sb)(s2:Seg key (arrOf st) sb (sb+nb))(h:∀st',Kep a₀ κ st'->pendingOf st'=((pendingOf st).setIfInBounds i (sa,na+nb,pa)).eraseIdxIfInBounds (i+1)->Seg key (arrOf st') sa (sb+nb)->(∀j,j<sa\/sb+nb<=j->ga (arrOf st') j=ga (arrOf st) j)->Q true st'):wpS M A E s (mergeAt' i) Q st:=by
 refine Î (wpS_get ?_)
 dsimp only
 rw[e1,e2]
 dsimp only
 refine Î (GK ?_)
 have hz:=K.size
 have mX:∀x∈(arrOf st).toList,x∈a₀.toList:=λx hx=>K.perm.mem_iff.mp hx
 have mG:∀j,j<a₀.size->ga (arrOf st) j∈a₀.toList:=λj hj=>mX _ (by rw[aW (by omega)];simp)
 refine Î (aH (cR (xs:=arrOf st) (by omega)) ?_)
 refine Î (iM L (arr:=arrOf st) (left:=false) (hk:=K.kind) (mG _ (by omega)) mX (λi j h1 h2 h3=>s1 i j h1 h2 (by omega)) (by omega) (by omega) λr r0 r1 r2=>?_)
 dsimp only
 have p1:∀i,sa<=i->i<sa+r->key (ga (arrOf st) i)<=key (ga (arrOf st) sb):=λi h1 h2=>by
  have:=qp (r1 (i - sa) (by omega))
  rw[show sa+(i - sa)=i by omega] at this
  exact this
 have p2:∀i,sa+r<=i->i<sb->key (ga (arrOf st) sb)<key (ga (arrOf st) i):=λi h1 h2=>by
  have:=qp (r2 (i - sa) (by omega) (by omega))
  rw[show sa+(i - sa)=i by omega] at this
  exact this
 refine aA (λc=>?_) (λc=>?_)
 ·have c:na - r=0:=by simpa using c
  exact Ó (h _ ⟨K.perm,K.kind,K.fail⟩ rfl (uh s1 s2 λu v h1 h2 h3 h4=>Ă (p1 u h1 (by omega)) (s2 sb v (Å _) h3 h4)) λ_ _=>rfl)
 have c:¬na - r=0:=by simpa using c
 have es:sa+r+(na - r) - 1=sb - 1:=by omega
 rw[es]
 refine Î (aH (cR (xs:=arrOf st) (by omega)) ?_)
 refine Î (iM L (arr:=arrOf st) (left:=true) (hk:=K.kind) (mG _ (by omega)) mX (λi j h1 h2 h3=>s2 i j h1 h2 (by omega)) (by omega) (by omega) λt t0 t1 t2=>?_)
 dsimp only
 have p3:∀i,sb<=i->i<sb+t->key (ga (arrOf st) i)<key (ga (arrOf st) (sb - 1)):=λi h1 h2=>by
  have:=qt (t1 (i - sb) (by omega))
  rw[show sb+(i - sb)=i by omega] at this
  exact this
 have p4:∀i,sb+t<=i->i<sb+nb->key (ga (arrOf st) (sb - 1))<=key (ga (arrOf st) i):=λi h1 h2=>by
  have:=qt (t2 (i - sb) (by omega) (by omega))
  rw[show sb+(i - sb)=i by omega] at this
  exact this
 refine aA (λc2=>?_) (λc2=>?_)
 ·have c2:t=0:=by simpa using c2
  exact Ó (h _ ⟨K.perm,K.kind,K.fail⟩ rfl (uh s1 s2 λu v h1 h2 h3 h4=>Ă (s1 u (sb - 1) h1 (by omega) (by omega)) (p4 v (by omega) h4)) λ_ _=>rfl)
 have c2:¬t=0:=by simpa using c2
 have z1:((arrOf st).extract (sa+r) sb).size=min sb (arrOf st).size - (sa+r):=Ę ..
 have z2:((arrOf st).extract sb (sb+t)).size=min (sb+t) (arrOf st).size - sb:=Ę ..
 have y1:∀x∈((arrOf st).extract (sa+r) sb).toList,x∈a₀.toList:=λx hx=>by
  obtain⟨w,_,h2,_,rfl⟩:=fJ hx
  exact mG w (by omega)
 have y2:∀x∈((arrOf st).extract sb (sb+t)).toList,x∈a₀.toList:=λx hx=>by
  obtain⟨w,_,h2,_,rfl⟩:=fJ hx
  exact mG w (by omega)
 have y3:=lG (a:=sa+r) (b:=sb) (by omega) λu v h1 h2 h3=>s1 u v (by omega) h2 h3
 have y4:=lG (a:=sb) (b:=sb+t) (by omega) λu v h1 h2 h3=>s2 u v h1 h2 (by omega)
 have y5:0<((arrOf st).extract (sa+r) sb).size:=by omega
 have y6:0<((arrOf st).extract sb (sb+t)).size:=by omega
 have y7:∀y∈((arrOf st).extract (sa+r) sb).toList,key ((arrOf st).extract sb (sb+t))[0]<key y:=λy hy=>by
  obtain⟨w,h1,h2,_,rfl⟩:=fJ hy
  rw[←aW y6,wM (by omega) (by omega)]
  exact p2 w h1 h2
 have y8:∀y∈((arrOf st).extract sb (sb+t)).toList,key y<key ((arrOf st).extract (sa+r) sb)[((arrOf st).extract (sa+r) sb).size - 1]:=λy hy=>by
  obtain⟨w,h1,h2,_,rfl⟩:=fJ hy
  rw[←aW (by omega),wM (by omega) (by omega),show sa+r+(((arrOf st).extract (sa+r) sb).size - 1)=sb - 1 by omega]
  exact p3 w h1 h2
 have fin:∀(m:Array Keyed) (st':SortSt),kindOf st'=κ->arrOf st'=arrOf st->pendingOf st'=((pendingOf st).setIfInBounds i (sa,na+nb,pa)).eraseIdxIfInBounds (i+1)->failedOf st'=none->m.toList.Perm (((arrOf st).extract (sa+r) sb).toList++((arrOf st).extract sb (sb+t)).toList)->eE key m.toList->Q (failedOf st').isNone (setArr st' (wrt (arrOf st') (sa+r) m.toList.zipIdx)):=λm st' k1 k2 k3 k4 pm sm=>by
  obtain⟨w1,w2,w3⟩:=zH (sa:=sa) (e:=sb+nb) (by omega) (by omega) (by omega) (by omega) (by omega) s1 s2 p1 p2 p3 p4 pm sm
  rw[k4,k2]
  exact h _ ⟨w1.trans K.perm,k1,k4⟩ k3 w2 w3
 refine aA (λ_=>?_) (λ_=>?_)
 ·refine Î (tL hr L (hk:=K.kind) y1 y2 y3 y4 y5 y6 y7 y8 λm st' k pm sm=>?_)
  refine Î (ĵ (Î (wpS_get (Ó ?_))))
  exact fin m st' (k.k.trans K.kind) k.a k.p (k.f.trans K.fail) pm sm
 ·refine Î (tM hr L (hk:=K.kind) y1 y2 y3 y4 y5 y6 y7 y8 λm st' k pm sm=>?_)
  refine Î (ĵ (Î (wpS_get (Ó ?_))))
  exact fin m st' (k.k.trans K.kind) k.a k.p (k.f.trans K.fail) pm sm
end
def uU{xs ys:Array Keyed}{i j:Nat}(h:xs[i]?=ys[j]?):ga xs i=ga ys j:=by
 unfold ga
 rw[h]
def su{xs:Array Keyed}{i j:Nat}(hj:j<=xs.size)(k:Nat):ga (mirror xs i j ((j - i) / 2)) k=if i<=k/\k<j then ga xs (i+j - 1 - k) else ga xs k:=by
 have e:=getElem?_mirror_all (i:=i) hj k
 by_cases c:i<=k/\k<j
 ·rw[if_pos c] at e ⊢
  exact uU e
 ·rw[if_neg c] at e ⊢
  exact uU e
def wN{xs:Array Keyed}{src d:Nat}(hs:src<xs.size)(hd:d<=src)(k:Nat):ga (bubble xs src d) k=if k=src - d then ga xs src else if src - d<k/\k<=src then ga xs (k - 1) else ga xs k:=by
 have e:=getElem?_bubble hs d hd k
 by_cases c:k=src - d
 ·rw[if_pos c] at e ⊢
  exact uU e
 ·rw[if_neg c] at e ⊢
  by_cases c2:src - d<k/\k<=src
  ·rw[if_pos c2] at e ⊢
   exact uU e
  ·rw[if_neg c2] at e ⊢
   exact uU e
structure Rn(a₀:Array Keyed)(κ:SortKind)(P:Array (Nat×Nat×Nat))(X:Array Keyed)(lo hi:Nat)(st:SortSt):Prop where
 k:Kep a₀ κ st
 p:pendingOf st=P
 o:∀j,j<lo\/hi<=j->ga (arrOf st) j=ga X j
section
variable {M:Model}{A:Around}{E:Value->Shared->Prop}{s:Shared}{κ:SortKind}{key:Keyed->Int}{a₀ X:Array Keyed}{P:Array (Nat×Nat×Nat)}{lo hi:Nat}
def Rn.mir{st:SortSt}(h:Rn a₀ κ P X lo hi st){i j:Nat}(h1:lo<=i)(h2:j<=hi)(h3:hi<=a₀.size):Rn a₀ κ P X lo hi (setArr st (mirror (arrOf st) i j ((j - i) / 2))) :=
 ⟨⟨(ŗ.mp (mirror_perm _ _ _ _)).trans h.k.perm,h.k.kind,h.k.fail⟩,h.p,λt ht=>by
  show ga (mirror (arrOf st) i j ((j - i) / 2)) t=_
  rw[su (by rw[h.k.size];omega),if_neg (by omega)]
  exact h.o t ht⟩
def Rn.bub{st:SortSt}(h:Rn a₀ κ P X lo hi st){src d:Nat}(h1:lo<=src - d)(h2:src<hi)(h3:hi<=a₀.size)(h4:d<=src):Rn a₀ κ P X lo hi (setArr st (bubble (arrOf st) src d)) :=
 ⟨⟨(ŗ.mp (bubble_perm _ _ _)).trans h.k.perm,h.k.kind,h.k.fail⟩,h.p,λt ht=>by
  show ga (bubble (arrOf st) src d) t=_
  rw[wN (by rw[h.k.size];omega) h4,if_neg (by omega),if_neg (by omega)]
  exact h.o t ht⟩
def iK(L:Lts M A E s κ (·∈a₀.toList) key){st:SortSt}(K:Kep a₀ κ st){i j:Nat}(hi:i<a₀.size)(hj:j<a₀.size){Q:Option Bool->SortSt->Prop}(h:Q (some (decide (key (ga (arrOf st) i)<key (ga (arrOf st) j)))) st):wpS M A E s (ltAt' i j) Q st:=by
 have hz:=K.size
 have mG:∀j,j<a₀.size->ga (arrOf st) j∈a₀.toList:=λj hj=>K.perm.mem_iff.mp (by rw[aW (by omega)];simp)
 refine Î (wpS_get ?_)
 refine Î (aH (cR (xs:=arrOf st) (by omega)) (Î (aH (cR (xs:=arrOf st) (by omega)) ?_)))
 exact L _ _ _ _ (mG i hi) (mG j hj) K.kind h
def zp(L:Lts M A E s κ (·∈a₀.toList) key){n ok:Nat}{Q:Bool->SortSt->Prop}{st:SortSt}(R:Rn a₀ κ P X lo hi st)(hh:lo+n<=hi)(hn:hi<=a₀.size)(hok:ok<=n)(hs:Seg key (arrOf st) lo (lo+ok))(h:∀st',Rn a₀ κ P X lo hi st'->Seg key (arrOf st') lo (lo+n)->Q true st'):wpS M A E s (binarySort' lo n ok) Q st:=by
 refine Î (ŀ (Ĉ (I:=λk c st'=>c=(none,())/\Rn a₀ κ P X lo hi st'/\Seg key (arrOf st') lo (lo+min k n)) (Q:=λc st'=>c=(none,())/\Rn a₀ κ P X lo hi st'/\Seg key (arrOf st') lo (lo+n)) ?step ?fin ⟨rfl,R,?init⟩) ?post)
 case init =>
  intro u v h1 h2 h3
  by_cases c:ok=0
  ·have:u=v:=by omega
   subst this
   exact ÿ _
  ·exact hs u v h1 h2 (by omega)
 case fin =>
  rintro c st' ⟨rfl,R',g⟩
  exact⟨rfl,R',λu v h1 h2 h3=>g u v h1 h2 (by omega)⟩
 case post =>
  rintro c st' ⟨rfl,R',g⟩
  exact Ó (h st' R' g)
 case step =>
  rintro k c st' hk1 hk2 ⟨rfl,R',g⟩
  dsimp only
  have g:Seg key (arrOf st') lo (lo+k):=λu v h1 h2 h3=>g u v h1 h2 (by omega)
  have hz:=R'.k.size
  refine Î (ŀ (Ĉ (I:=λy c st2=>st2=st'/\∃l r,c=(none,l,r)/\l<=r/\r<=k/\r - l<=k - y/\(∀i,i<l->key (ga (arrOf st') (lo+i))<=key (ga (arrOf st') (lo+k)))/\∀i,r<=i->i<k->key (ga (arrOf st') (lo+k))<key (ga (arrOf st') (lo+i))) (Q:=λc st2=>st2=st'/\∃l r,c=(none,l,r)/\l<=k/\(∀i,i<l->key (ga (arrOf st') (lo+i))<=key (ga (arrOf st') (lo+k)))/\∀i,l<=i->i<k->key (ga (arrOf st') (lo+k))<key (ga (arrOf st') (lo+i))) ?istep ?ifin ⟨rfl,0,k,rfl,by omega,by omega,by omega,(λi hi=>by omega),(λi h1 h2=>by omega)⟩) ?ipost)
  case ifin =>
   rintro c st2 ⟨rfl,l,r,rfl,q1,q2,q3,q4,q5⟩
   have e:l=r:=by omega
   subst e
   exact⟨rfl,l,l,rfl,q2,q4,q5⟩
  case istep =>
   rintro y c st2 _ hy ⟨rfl,l,r,rfl,q1,q2,q3,q4,q5⟩
   dsimp only
   refine aA (λc=>?_) (λc=>?_)
   ·have e:l=r:=by omega
    subst e
    exact Ó ⟨rfl,l,l,rfl,q2,q4,q5⟩
   ·refine Î (iK L R'.k (by omega) (by omega) ?_)
    dsimp only
    by_cases z:key (ga (arrOf st2) (lo+k))<key (ga (arrOf st2) (lo+(l+r) / 2))
    ·rw[if_pos (decide_eq_true z)]
     exact Ó ⟨rfl,l,(l+r) / 2,rfl,by omega,by omega,by omega,q4,λi h1 h2=>Int.lt_of_lt_of_le z (g _ _ (by omega) (by omega) (by omega))⟩
    ·rw[if_neg (by simpa using z)]
     exact Ó ⟨rfl,(l+r) / 2+1,r,rfl,by omega,by omega,by omega,λi h1=>Ă (g _ (lo+(l+r) / 2) (by omega) (by omega) (by omega)) (Ĺ.mp z),q5⟩
  case ipost =>
   rintro c st2 ⟨rfl,l,r,rfl,q2,q4,q5⟩
   dsimp only
   refine Î (ĵ (Ó ⟨rfl,R'.bub (src:=lo+k) (d:=lo+k - (lo+l)) (by omega) (by omega) hn (by omega),λu v h1 h2 h3=>?_⟩))
   show key (ga (bubble (arrOf st2) (lo+k) (lo+k - (lo+l))) u)<=key (ga (bubble (arrOf st2) (lo+k) (lo+k - (lo+l))) v)
   have q4':∀j,lo<=j->j<lo+l->key (ga (arrOf st2) j)<=key (ga (arrOf st2) (lo+k)):=λj h1 h2=>by
    have:=q4 (j - lo) (by omega)
    rwa [show lo+(j - lo)=j by omega] at this
   have q5':∀j,lo+l<=j->j<lo+k->key (ga (arrOf st2) (lo+k))<key (ga (arrOf st2) j):=λj h1 h2=>by
    have:=q5 (j - lo) (by omega) (by omega)
    rwa [show lo+(j - lo)=j by omega] at this
   rw[wN (by omega) (by omega),wN (by omega) (by omega),show lo+k - (lo+k - (lo+l))=lo+l by omega]
   by_cases cu:u=lo+l
   ·rw[if_pos cu]
    by_cases cv:v=lo+l
    ·rw[if_pos cv]
     exact ÿ _
    ·rw[if_neg cv,if_pos (by omega)]
     exact ú (q5' _ (by omega) (by omega))
   ·rw[if_neg cu]
    by_cases cu2:lo+l<u/\u<=lo+k
    ·rw[if_pos cu2,if_neg (by omega),if_pos (by omega)]
     exact g _ _ (by omega) (by omega) (by omega)
    ·rw[if_neg cu2]
     by_cases cv:v=lo+l
     ·rw[if_pos cv]
      exact q4' u h1 (by omega)
     ·rw[if_neg cv]
      by_cases cv2:lo+l<v/\v<=lo+k
      ·rw[if_pos cv2]
       exact g _ _ h1 (by omega) (by omega)
      ·rw[if_neg cv2]
       exact g _ _ h1 h2 (by omega)
def Fal(key:Keyed->Int)(xs:Array Keyed)(i j:Nat):Prop:=∀u v,i<=u->u<=v->v<j->key (ga xs v)<=key (ga xs u)
def ug{xs:Array Keyed}{i j:Nat}(h:Seg key xs i j)(hij:i<j)(c:key (ga xs (j - 1))<=key (ga xs j)):Seg key xs i (j+1):=λu v h1 h2 h3=>by
 by_cases e:v=j
 ·subst e
  by_cases e2:u=v
  ·subst e2
   exact ÿ _
  ·exact Ă (h u (v - 1) h1 (by omega) (by omega)) c
 ·exact h u v h1 h2 (by omega)
def uX{xs:Array Keyed}{i j:Nat}(h:Fal key xs i j)(hij:i<j)(c:key (ga xs j)<=key (ga xs (j - 1))):Fal key xs i (j+1):=λu v h1 h2 h3=>by
 by_cases e:v=j
 ·subst e
  by_cases e2:u=v
  ·subst e2
   exact ÿ _
  ·exact Ă c (h u (v - 1) h1 (by omega) (by omega))
 ·exact h u v h1 h2 (by omega)
def I9{xs:Array Keyed}{i j:Nat}(h:Fal key xs i j)(hj:j<=xs.size):Seg key (mirror xs i j ((j - i) / 2)) i j:=λu v h1 h2 h3=>by
 rw[su hj,su hj,if_pos (by omega),if_pos (by omega)]
 exact h _ _ (by omega) (by omega) (by omega)
def wV{xs:Array Keyed}{i j:Nat}(hj:j<=xs.size)(h:∀k,i<=k->k<j->key (ga xs k)=key (ga xs (j - 1)))(k:Nat):key (ga (mirror xs i j ((j - i) / 2)) k)=key (ga xs k):=by
 rw[su hj]
 by_cases c:i<=k/\k<j
 ·rw[if_pos c,h _ (by omega) (by omega),h k c.1 c.2]
 ·rw[if_neg c]
def xH{α:Type}{c0 c:StateT SortSt Sem α}{Pr:SortSt->Prop}{Q:α->SortSt->Prop}{st:SortSt}(tl:∀st1,Pr st1->wpS M A E s c Q st1)(main:(∀st1,Pr st1->wpS M A E s c Q st1)->wpS M A E s c0 Q st):wpS M A E s c0 Q st:=main tl
def GP(hr:∀(t:String) (Q:Unit->Shared->Prop),Q () s->wpAny M A (rule t) Q E s)(L:Lts M A E s κ (·∈a₀.toList) key){nrem:Nat}{Q:Option Nat->SortSt->Prop}{st:SortSt}(R:Rn a₀ κ P X lo (lo+nrem) st)(hn:lo+nrem<=a₀.size)(h1:1<=nrem)(h:∀n st',1<=n->n<=nrem->Rn a₀ κ P X lo (lo+nrem) st'->Seg key (arrOf st') lo (lo+n)->Q (some n) st'):wpS M A E s (countRun' lo nrem) Q st:=by
 have hz:=R.k.size
 have one:∀xs:Array Keyed,Seg key xs lo (lo+1):=λxs u v h1 h2 h3=>by
  have:u=v:=by omega
  subst this
  exact ÿ _
 refine Î (ŀ (Ĉ (I:=λy c st'=>st'=st/\c=(none,y)/\Seg key (arrOf st) lo (lo+y)) (Q:=λc st'=>st'=st/\∃n,c=(none,n)/\1<=n/\n<=nrem/\Seg key (arrOf st) lo (lo+n)/\(n<nrem->key (ga (arrOf st) (lo+n))<key (ga (arrOf st) (lo+n - 1)))) ?step ?fin ⟨rfl,rfl,one _⟩) ?post)
 case fin =>
  rintro c st' ⟨rfl,rfl,g⟩
  exact⟨rfl,_,rfl,by omega,by omega,g,λz=>by omega⟩
 case step =>
  rintro y c st' hy hy2 ⟨rfl,rfl,g⟩
  dsimp only
  refine Î (iK L R.k (by omega) (by omega) ?_)
  dsimp only
  by_cases z:key (ga (arrOf st') (lo+y))<key (ga (arrOf st') (lo+y - 1))
  ·rw[if_pos (decide_eq_true z)]
   exact Ó ⟨rfl,y,rfl,hy,by omega,g,λ_=>z⟩
  ·rw[if_neg (by simpa using z)]
   exact Ó ⟨rfl,rfl,show Seg key _ lo (lo+y+1) from ug g (by omega) (Ĺ.mp z)⟩
 case post =>
  rintro c st' ⟨rfl,n,rfl,n1,n2,g,gz⟩
  dsimp only
  refine aA (λc=>Ó (h n _ n1 n2 R g)) (λc=>?_)
  have c:¬n=nrem:=by simpa using c
  have gz:=gz (by omega)
  apply xH (Pr:=λst1=>Rn a₀ κ P X lo (lo+nrem) st1/\Fal key (arrOf st1) lo (lo+n+1))
  case main =>
   intro tail
   refine aA (λc2=>?_) (λc2=>?_)
   ·refine Î (iK L R.k (by omega) (by omega) ?_)
    dsimp only
    by_cases z:key (ga (arrOf st') lo)<key (ga (arrOf st') (lo+n - 1))
    ·rw[if_pos (decide_eq_true z)]
     exact Ó (h n _ n1 n2 R g)
    ·rw[if_neg (by simpa using z)]
     have z:=Ĺ.mp z
     have al:∀k,lo<=k->k<lo+n->key (ga (arrOf st') k)=key (ga (arrOf st') (lo+n - 1)):=λk h1 h2=>by
      have a1:=g k (lo+n - 1) h1 (by omega) (by omega)
      have a2:=g lo k (Å _) h1 h2
      omega
     have em:=wV (xs:=arrOf st') (i:=lo) (j:=lo+n) (by omega) al
     refine Î (ĵ (tail _ ⟨R.mir (i:=lo) (j:=lo+n) (Å _) (by omega) hn,λu v h1 h2 h3=>?_⟩))
     show key (ga (mirror (arrOf st') lo (lo+n) ((lo+n - lo) / 2)) v)<=key (ga (mirror (arrOf st') lo (lo+n) ((lo+n - lo) / 2)) u)
     rw[em,em]
     by_cases e:v=lo+n
     ·subst e
      by_cases e2:u=lo+n
      ·subst e2
       exact ÿ _
      ·have:=al u h1 (by omega)
       omega
     ·have a1:=al u h1 (by omega)
      have a2:=al v (by omega) (by omega)
      omega
   ·refine tail _ ⟨R,λu v h1 h2 h3=>?_⟩
    have e:n=1:=by omega
    subst e
    rw[show lo+1 - 1=lo by omega] at gz
    by_cases e:u=v
    ·subst e
     exact ÿ _
    ·have e1:u=lo:=by omega
     have e2:v=lo+1:=by omega
     rw[e1,e2]
     exact ú gz
  case tl =>
   rintro st1 ⟨R1,F1⟩
   refine Î (wpS_lift (hr _ _ ⟨rfl,?_⟩))
   refine Î (ŀ (Ĉ (I:=λy c st2=>Rn a₀ κ P X lo (lo+nrem) st2/\∃q,c=(none,y,q)/\q+1<=y/\Fal key (arrOf st2) lo (lo+y)/\∀k,lo+y - (q+1)<=k->k<lo+y->key (ga (arrOf st2) k)=key (ga (arrOf st2) (lo+y - 1))) (Q:=λc st2=>Rn a₀ κ P X lo (lo+nrem) st2/\∃y q,c=(none,y,q)/\1<=y/\y<=nrem/\q+1<=y/\Fal key (arrOf st2) lo (lo+y)/\∀k,lo+y - (q+1)<=k->k<lo+y->key (ga (arrOf st2) k)=key (ga (arrOf st2) (lo+y - 1))) ?dstep ?dfin ⟨R1,0,rfl,by omega,F1,λk h1 h2=>?dinit⟩) ?dpost)
   case dinit =>
    have e:k=lo+(n+1) - 1:=by omega
    rw[e]
   case dfin =>
    rintro c st2 ⟨R2,q,rfl,q1,F2,e2⟩
    exact⟨R2,_,q,rfl,by omega,by omega,q1,F2,e2⟩
   case dstep =>
    rintro y c st2 hy hy2 ⟨R2,q,rfl,q1,F2,e2⟩
    dsimp only
    have hz2:=R2.k.size
    refine Î (iK L R2.k (by omega) (by omega) ?_)
    dsimp only
    by_cases z:key (ga (arrOf st2) (lo+y))<key (ga (arrOf st2) (lo+y - 1))
    ·rw[if_pos (decide_eq_true z)]
     have F3:Fal key (arrOf st2) lo (lo+y+1):=uX F2 (by omega) (ú z)
     refine aA (λc3=>?_) (λc3=>?_)
     ·have em:=wV (xs:=arrOf st2) (i:=lo+y - (q+1)) (j:=lo+y) (by omega) e2
      refine Î (ĵ (Ó ⟨R2.mir (i:=lo+y - (q+1)) (j:=lo+y) (by omega) (by omega) hn,0,rfl,by omega,λu v h1 h2 h3=>?_,λk h1 h2=>?_⟩))
      ·show key (ga (mirror (arrOf st2) _ _ _) v)<=key (ga (mirror (arrOf st2) _ _ _) u)
       rw[em,em]
       exact F3 u v h1 h2 h3
      ·have e:k=lo+(y+1) - 1:=by omega
       rw[e]
     ·refine Ó ⟨R2,0,rfl,by omega,F3,λk h1 h2=>?_⟩
      have e:k=lo+(y+1) - 1:=by omega
      rw[e]
    ·rw[if_neg (by simpa using z)]
     refine Î (iK L R2.k (by omega) (by omega) ?_)
     dsimp only
     by_cases z2:key (ga (arrOf st2) (lo+y - 1))<key (ga (arrOf st2) (lo+y))
     ·rw[if_pos (decide_eq_true z2)]
      exact Ó ⟨R2,y,q,rfl,by omega,by omega,q1,F2,e2⟩
     ·rw[if_neg (by simpa using z2)]
      have z3:key (ga (arrOf st2) (lo+y))=key (ga (arrOf st2) (lo+y - 1)):=by omega
      have F3:Fal key (arrOf st2) lo (lo+y+1):=uX F2 (by omega) (Int.le_of_eq z3)
      refine Ó ⟨R2,q+1,rfl,by omega,F3,λk h1 h2=>?_⟩
      rw[show lo+(y+1) - 1=lo+y by omega,z3]
      by_cases e:k=lo+y
      ·rw[e,z3]
      ·exact e2 k (by omega) (by omega)
   case dpost =>
    rintro c st2 ⟨R2,y,q,rfl,y1,y2,q1,F2,e2⟩
    dsimp only
    have hz2:=R2.k.size
    apply xH (Pr:=λst1=>Rn a₀ κ P X lo (lo+nrem) st1/\Fal key (arrOf st1) lo (lo+y))
    case main =>
     intro tail
     refine aA (λc3=>?_) (λc3=>tail _ ⟨R2,F2⟩)
     have em:=wV (xs:=arrOf st2) (i:=lo+y - (q+1)) (j:=lo+y) (by omega) e2
     refine Î (ĵ (tail _ ⟨R2.mir (i:=lo+y - (q+1)) (j:=lo+y) (by omega) (by omega) hn,λu v h1 h2 h3=>?_⟩))
     show key (ga (mirror (arrOf st2) _ _ _) v)<=key (ga (mirror (arrOf st2) _ _ _) u)
     rw[em,em]
     exact F2 u v h1 h2 h3
    case tl =>
     rintro st3 ⟨R3,F3⟩
     have hz3:=R3.k.size
     refine Î (ĵ ?_)
     have R4:=R3.mir (i:=lo) (j:=lo+y) (Å _) (by omega) hn
     have S4:Seg key (arrOf (setArr st3 (mirror (arrOf st3) lo (lo+y) ((lo+y - lo) / 2)))) lo (lo+y):=I9 F3 (by omega)
     refine Î (ŀ (Ĉ (I:=λx c st4=>Rn a₀ κ P X lo (lo+nrem) st4/\c=(none,x)/\Seg key (arrOf st4) lo (lo+x)) (Q:=λc st4=>Rn a₀ κ P X lo (lo+nrem) st4/\∃x,c=(none,x)/\1<=x/\x<=nrem/\Seg key (arrOf st4) lo (lo+x)) ?estep ?efin ⟨R4,rfl,S4⟩) ?epost)
     case efin =>
      rintro c st4 ⟨R5,rfl,S5⟩
      exact⟨R5,_,rfl,by omega,by omega,S5⟩
     case estep =>
      rintro x c st4 hx hx2 ⟨R5,rfl,S5⟩
      dsimp only
      have hz4:=R5.k.size
      refine Î (iK L R5.k (by omega) (by omega) ?_)
      dsimp only
      by_cases z:key (ga (arrOf st4) (lo+x))<key (ga (arrOf st4) (lo+x - 1))
      ·rw[if_pos (decide_eq_true z)]
       exact Ó ⟨R5,x,rfl,by omega,by omega,S5⟩
      ·rw[if_neg (by simpa using z)]
       exact Ó ⟨R5,rfl,show Seg key _ lo (lo+x+1) from ug S5 (by omega) (Ĺ.mp z)⟩
     case epost =>
      rintro c st4 ⟨R5,x,rfl,x1,x2,S5⟩
      exact Ó (h x st4 x1 x2 R5 S5)
end
section
variable {key:Keyed->Int}{xs ys:Array Keyed}
def Rs(key:Keyed->Int)(xs:Array Keyed):Nat->List (Nat×Nat)->Nat->Prop
 |s,[],e=>s=e
 |s,(t,n)::r,e=>t=s/\1<=n/\Seg key xs s (s+n)/\Rs key xs (s+n) r e
def j9:∀{l r:List (Nat×Nat)}{s e:Nat},Rs key xs s (l++r) e↔∃m,Rs key xs s l m/\Rs key xs m r e
 |[],r,s,e=>⟨λh=>⟨s,rfl,h⟩,λ⟨m,h1,h2⟩=>by have h1:s=m:=h1;subst h1;exact h2⟩
 |(t,n)::l,r,s,e=>by
  constructor
  ·rintro⟨h1,h2,h3,h4⟩
   obtain⟨m,q1,q2⟩:=j9.mp h4
   exact⟨m,⟨h1,h2,h3,q1⟩,q2⟩
  ·rintro⟨m,⟨h1,h2,h3,h4⟩,q⟩
   exact⟨h1,h2,h3,j9.mpr ⟨m,h4,q⟩⟩
def uq:∀{l:List (Nat×Nat)}{s e:Nat},Rs key xs s l e->s+l.length<=e
 |[],s,e,h=>Nat.le_of_eq h
 |(t,n)::l,s,e,⟨h1,h2,h3,h4⟩=>by
  have:=uq h4
  rw[ð]
  omega
def BX{i j:Nat}(h:Seg key xs i j)(c:∀t,i<=t->t<j->ga ys t=ga xs t):Seg key ys i j:=λu v h1 h2 h3=>by
 rw[c u h1 (by omega),c v (by omega) h3]
 exact h u v h1 h2 h3
def xU:∀{l:List (Nat×Nat)}{s e:Nat},Rs key xs s l e->(∀t,s<=t->t<e->ga ys t=ga xs t)->Rs key ys s l e
 |[],s,e,h,_=>h
 |(t,n)::l,s,e,⟨h1,h2,h3,h4⟩,c=>by
  have:=uq h4
  exact⟨h1,h2,BX h3 λt q1 q2=>c t q1 (by omega),xU h4 λt q1 q2=>c t (by omega) q2⟩
def rl(p:Array (Nat×Nat×Nat)):List (Nat×Nat):=p.toList.map λt=>(t.1,t.2.1)
def xW(p:Array (Nat×Nat×Nat))(t:Nat×Nat×Nat):rl (p.push t)=rl p++[(t.1,t.2.1)]:=by
 unfold rl
 rw[Ĭ,â]
 rfl
def qJ(p:Array (Nat×Nat×Nat)):(rl p).length=p.size:=by
 unfold rl
 rw[Á]
 rfl
def zN(p:Array (Nat×Nat×Nat))(i:Nat)(f:Nat×Nat×Nat->Nat×Nat×Nat)(hf:∀t,((f t).1,(f t).2.1)=(t.1,t.2.1)):rl (p.modify i f)=rl p:=by
 unfold rl
 apply List.ext_getElem?
 intro j
 rw[Þ,Þ,č,č,Array.getElem?_modify]
 split
 ·rw[Option.map_map]
  congr 1
  funext t
  exact hf t
 ·rfl
def NZ(p:Array (Nat×Nat×Nat))(i pw:Nat)(t:Nat×Nat×Nat):rl ((p.modify i λx=>(x.1,x.2.1,pw)).push t)=rl p++[(t.1,t.2.1)]:=by
 rw[xW,zN p i (λx=>(x.1,x.2.1,pw)) λt=>rfl]
def Cg{p:Array (Nat×Nat×Nat)}{i:Nat}{x y v:Nat×Nat×Nat}(h1:p[i]?=some x)(h2:p[i+1]?=some y):∃l r,rl p=l++(x.1,x.2.1)::(y.1,y.2.1)::r/\rl ((p.setIfInBounds i v).eraseIdxIfInBounds (i+1))=l++(v.1,v.2.1)::r:=by
 have g1:p.toList[i]?=some x:=by rw[č];exact h1
 have g2:p.toList[i+1]?=some y:=by rw[č];exact h2
 have z:i+1<p.size:=by
  have:=(Ö.mp g2).1
  simpa using this
 obtain⟨q1,e1⟩:=Ö.mp g1
 obtain⟨q2,e2⟩:=Ö.mp g2
 have e:p.toList=p.toList.take i++x::y::p.toList.drop (i+2):=by
  have d1:p.toList.drop i=x::p.toList.drop (i+1):=by rw[List.drop_eq_getElem_cons q1,e1]
  have d2:p.toList.drop (i+1)=y::p.toList.drop (i+2):=by rw[List.drop_eq_getElem_cons q2,e2]
  rw[←d2,←d1]
  exact(ķ i _).symm
 refine⟨(p.toList.take i).map λt=>(t.1,t.2.1),(p.toList.drop (i+2)).map λt=>(t.1,t.2.1),?_,?_⟩
 ·unfold rl
  conv=>lhs;rw[e]
  rw[â]
  rfl
 ·unfold rl
  have lt:(p.toList.take i).length=i:=by simp;omega
  have e3:((p.setIfInBounds i v).eraseIdxIfInBounds (i+1)).toList=p.toList.take i++v::p.toList.drop (i+2):=by
   rw[Array.toList_eraseIdxIfInBounds,Array.toList_setIfInBounds]
   conv=>lhs;rw[e]
   rw[List.set_append_right _ _ (by omega),lt,Nat.sub_self,List.set_cons_zero,List.eraseIdx_append_of_length_le (by omega),lt,show i+1 - i=1 by omega]
   rfl
  rw[e3,â]
  rfl
end
section
variable {M:Model}{A:Around}{E:Value->Shared->Prop}{s:Shared}{κ:SortKind}{key:Keyed->Int}{a₀:Array Keyed}
def Mf{c:Prop}[Decidable c]{a b n:Nat}(h1:a+1<n)(h2:b+1<n):(if c then a else b)+1<n:=by
 split
 ·exact h1
 ·exact h2
def Bo(hr:∀(t:String) (Q:Unit->Shared->Prop),Q () s->wpAny M A (rule t) Q E s)(L:Lts M A E s κ (·∈a₀.toList) key){i e:Nat}{Q:Bool->SortSt->Prop}{st:SortSt}(K:Kep a₀ κ st)(he:e<=a₀.size)(R:Rs key (arrOf st) 0 (rl (pendingOf st)) e)(hi:i+1<(pendingOf st).size)(h:∀st',Kep a₀ κ st'->Rs key (arrOf st') 0 (rl (pendingOf st')) e->(pendingOf st').size+1=(pendingOf st).size->(∀j,e<=j->ga (arrOf st') j=ga (arrOf st) j)->Q true st'):wpS M A E s (mergeAt' i) Q st:=by
 have h1:(pendingOf st)[i]?=some (pendingOf st)[i]:=getElem?_pos ..
 have h2:(pendingOf st)[i+1]?=some (pendingOf st)[i+1]:=getElem?_pos ..
 obtain⟨⟨sa,na,pa⟩,e1⟩:∃t,t=(pendingOf st)[i]:=⟨_,rfl⟩
 obtain⟨⟨sb,nb,pb⟩,e2⟩:∃t,t=(pendingOf st)[i+1]:=⟨_,rfl⟩
 rw[←e1] at h1
 rw[←e2] at h2
 obtain⟨l,r,g1,g2⟩:=Cg (v:=(sa,na+nb,pa)) h1 h2
 rw[g1] at R
 replace R:Rs key (arrOf st) 0 (l++(sa,na)::(sb,nb)::r) e:=R
 obtain⟨m,q1,⟨x1,x2,x3,⟨y1,y2,y3,y4⟩⟩⟩:=j9.mp R
 subst x1
 subst y1
 have l4:=uq y4
 have l1:=uq q1
 refine tQ hr L K h1 h2 rfl x2 y2 (by omega) x3 y3 λst' K' p' s' o'=>?_
 refine h st' K' ?_ ?_ λj hj=>o' j (by omega)
 ·rw[p',g2]
  exact j9.mpr ⟨sa,xU q1 λt t1 t2=>o' t (.inl t2),rfl,show 1<=na+nb by omega,by rw[←Nat.add_assoc];exact s',by rw[←Nat.add_assoc];exact xU y4 λt t1 t2=>o' t (.inr t1)⟩
 ·have a1:=qJ (pendingOf st)
  have a2:=qJ (pendingOf st')
  rw[g1] at a1
  rw[p',g2] at a2
  rw[p',←a2,←a1,È,È,ð,ð,ð]
  omega
def Bm(hr:∀(t:String) (Q:Unit->Shared->Prop),Q () s->wpAny M A (rule t) Q E s)(L:Lts M A E s κ (·∈a₀.toList) key){Q:Unit->SortSt->Prop}{st:SortSt}(K:Kep a₀ κ st)(hp:pendingOf st=#[])(h2:1<=a₀.size)(h:∀st',Kep a₀ κ st'->Seg key (arrOf st') 0 a₀.size->Q () st'):wpS M A E s sortRuns' Q st:=by
 refine Î (wpS_get ?_)
 have hz:=K.size
 refine Î (ŀ (Ĉ (I:=λx c st'=>Kep a₀ κ st'/\∃lo,c=(none,lo)/\x<=lo/\lo<=a₀.size/\Rs key (arrOf st') 0 (rl (pendingOf st')) lo) (Q:=λc st'=>Kep a₀ κ st'/\c=(none,a₀.size)/\Rs key (arrOf st') 0 (rl (pendingOf st')) a₀.size) ?step ?fin ⟨K,0,rfl,by omega,by omega,by rw[hp];rfl⟩) ?post)
 case fin =>
  rintro c st' ⟨K',lo,rfl,l1,l2,R⟩
  have hz2:(arrOf st).size=a₀.size:=hz
  have e:lo=a₀.size:=by
   have l1:max 0 (arrOf st).size<=lo:=l1
   omega
  subst e
  exact⟨K',rfl,R⟩
 case step =>
  rintro x c st' hx hx2 ⟨K',lo,rfl,l1,l2,R⟩
  have hx2:x<(arrOf st).size:=hx2
  dsimp only
  simp only[hz]
  refine aA (λc=>?_) (λc=>?_)
  ·have e:lo=a₀.size:=by omega
   subst e
   exact Ó ⟨K',rfl,R⟩
  refine Î (GP hr L (lo:=lo) (nrem:=a₀.size - lo) (P:=pendingOf st') (X:=arrOf st') ⟨K',rfl,λ_ _=>rfl⟩ (by omega) (by omega) λn st2 n1 n2 R2 S2=>?_)
  dsimp only
  refine aA (λc3=>?_) (λc3=>?_)
  all_goals first
   | (refine Î (wpS_lift (hr _ _ ⟨rfl,?_⟩))
      have c3:n<minRun' a₀.size a₀.size 0:=c3
      refine Î (zp L (n:=min (a₀.size - lo) (minRun' a₀.size a₀.size 0)) (ok:=n) R2 (by omega) (by omega) (by omega) S2 λst3 R3 S3=>?_)
      refine aA (λc4=>absurd c4 (by decide)) (λ_=>?_)
      have m1:1<=min (a₀.size - lo) (minRun' a₀.size a₀.size 0):=by omega
      have m2:lo+min (a₀.size - lo) (minRun' a₀.size a₀.size 0)<=a₀.size:=by omega
      obtain⟨N,hN⟩:∃N,N=min (a₀.size - lo) (minRun' a₀.size a₀.size 0):=⟨_,rfl⟩
      rw[←hN] at S3 m1 m2)
   | (have R3:=R2
      have S3:=S2
      have m1:=n1
      have m2:lo+n<=a₀.size:=by omega
      obtain⟨N,hN⟩:∃N,N=n:=⟨_,rfl⟩
      rw[←hN] at S3 m1 m2)
  all_goals
   have R4:=xU R (λt _ t2=>R3.o t (.inl t2))
   rw[←R3.p] at R4
   have K3:=R3.k
   refine Î (wpS_get ?_)
   split
   ·refine Î (ŀ (Ĉ (I:=λ_ c st4=>c=(none,())/\Kep a₀ κ st4/\Rs key (arrOf st4) 0 (rl (pendingOf st4)) lo/\Seg key (arrOf st4) lo (lo+N)) (Q:=λc st4=>c=(none,())/\Kep a₀ κ st4/\Rs key (arrOf st4) 0 (rl (pendingOf st4)) lo/\Seg key (arrOf st4) lo (lo+N)) ?_ (λc st4 z=>z) ⟨rfl,K3,R4,S3⟩) ?_)
    ·rintro y c st4 _ hy ⟨rfl,K4,R5,S4⟩
     refine Î (wpS_get ?_)
     by_cases cp:(pendingOf st4).size > 1
     ·rw[if_pos cp,show(pendingOf st4)[(pendingOf st4).size - 2]?=some (pendingOf st4)[(pendingOf st4).size - 2] from getElem?_pos ..]
      dsimp only
      refine aA (λ_=>Ó ⟨rfl,K4,R5,S4⟩) (λ_=>?_)
      refine Î (Bo hr L K4 l2 R5 (show(pendingOf st4).size - 2+1<(pendingOf st4).size by omega) λst5 K5 R6 _ o5=>?_)
      exact aA (λc4=>absurd c4 (by decide)) (λ_=>Ó ⟨rfl,K5,R6,BX S4 λt t1 _=>o5 t t1⟩)
     ·rw[if_neg cp]
      exact Ó ⟨rfl,K4,R5,S4⟩
    ·rintro c st4 ⟨rfl,K4,R5,S4⟩
     refine Î (ĵ (Î (ĵ (Ó ⟨⟨K4.perm,K4.kind,K4.fail⟩,lo+N,by first|(rw[hN];done)|(rw[hN];rfl),by omega,m2,?_⟩))))
     rw[hN] at S4 m1 ⊢
     refine Eq.subst (motive:=λl=>Rs key (arrOf st4) 0 l _) (NZ (pendingOf st4) _ _ _).symm ?_
     exact j9.mpr ⟨lo,R5,rfl,m1,S4,rfl⟩
   ·refine Î (ĵ (Ó ⟨⟨K3.perm,K3.kind,K3.fail⟩,lo+N,by first|(rw[hN];done)|(rw[hN];rfl),by omega,m2,?_⟩))
    rw[hN] at S3 m1 ⊢
    refine Eq.subst (motive:=λl=>Rs key _ 0 l _) (xW _ _).symm ?_
    exact j9.mpr ⟨lo,R4,rfl,m1,S3,rfl⟩
 case post =>
  rintro c st' ⟨K',rfl,R⟩
  dsimp only
  simp only[hz]
  refine Î (ŀ (Ĉ (I:=λx c st2=>c=(none,())/\Kep a₀ κ st2/\Rs key (arrOf st2) 0 (rl (pendingOf st2)) a₀.size/\((pendingOf st2).size+x<=a₀.size\/(pendingOf st2).size<=1)) (Q:=λc st2=>c=(none,())/\Kep a₀ κ st2/\Rs key (arrOf st2) 0 (rl (pendingOf st2)) a₀.size/\(pendingOf st2).size<=1) ?pstep ?pfin ⟨rfl,K',R,?pinit⟩) ?ppost)
  case pinit =>
   have:=uq R
   rw[qJ] at this
   omega
  case pfin =>
   rintro c st2 ⟨rfl,K2,R2,z⟩
   exact⟨rfl,K2,R2,by omega⟩
  case pstep =>
   rintro x c st2 _ hx ⟨rfl,K2,R2,z⟩
   refine Î (wpS_get ?_)
   refine aA (λc=>Ó ⟨rfl,K2,R2,c⟩) (λc=>?_)
   have c:¬(pendingOf st2).size<=1:=c
   refine Î (Bo hr L K2 (Å _) R2 ?_ λst3 K3 R3 z3 _=>?_)
   ·exact Mf (show(pendingOf st2).size - 2 - 1+1<(pendingOf st2).size by omega) (show(pendingOf st2).size - 2+1<(pendingOf st2).size by omega)
   ·exact aA (λc4=>absurd c4 (by decide)) (λ_=>Ó ⟨rfl,K3,R3,by omega⟩)
  case ppost =>
   rintro c st2 ⟨rfl,K2,R2,z⟩
   refine Ó (h st2 K2 ?_)
   have el:=qJ (pendingOf st2)
   cases e:rl (pendingOf st2) with
   |nil =>
    rw[e] at R2
    have:0=a₀.size:=R2
    omega
   |cons t l =>
    cases l with
    |nil =>
     rw[e] at R2
     obtain⟨t1,t2⟩:=t
     obtain⟨_,_,s3,s4⟩:=R2
     have s4:0+t2=a₀.size:=s4
     rw[s4] at s3
     exact s3
    |cons t2 l =>
     rw[e] at el
     simp at el
     omega
end
section
variable {X:Cx}{pins:List (Addr×Obj)}{σ:St}{H:Hp}{s:Shared}{it:Addr}
structure Mine(X:Cx)(pins:List (Addr×Obj))(H:Hp)(it:Addr):Prop where
 h0:H it=none
 h1:it≠X.env.locals
 h2:X.s₀.heap.objs.size<=it
 h3:∀x c,X.env.cells.lookup x=some c->c≠it
 h4:∀p∈X.pn++pins,p.1≠it
 h5:it∉frs X.stack
def Inv.mine(I:Inv X pins σ H s)(h:s.heap.objs.size<=it):Mine X pins H it :=
 have no:∀o,s.heap.get? it≠some o:=λo e=>absurd (É e) (Nat.not_lt.mpr h)
 ⟨I.hok.fresh h,ŋ (à I.lt h),ï I.sz h,λx c e z=>by
  obtain⟨v,o,ho,_⟩:=I.cell x c e
  exact no o (z ▸ ho),λp hp z=>no p.2 (z ▸ (I.pin p hp).1),λz=>by
  obtain⟨_,o,ho,_⟩:=I.stack.mem z
  exact no o ho⟩
def Inv.yH{h':Heap}{t':Nat}(I:Inv X pins σ H s)(m:Mine X pins H it)(k:∀b o,b≠it->s.heap.get? b=some o->h'.get? b=some o):Inv X pins σ H { s with heap:=h',toks:=t' }:=I.turned k m.h0 m.h1 (.inr m.h2) m.h3 m.h4
structure Gro(X:Cx)(ex:List Addr)(H:Hp)(h:Heap)(H1:Hp)(h1:Heap):Prop where
 sm:∀b o,H b=some o->H1 b=some o
 kp:∀b o,h.get? b=some o->H b=none->b≠X.env.locals->b∉frs X.stack->b∉ex->h1.get? b=some o/\H1 b=none
def Gro.refl{ex:List Addr}{h:Heap}:Gro X ex H h H h:=⟨λ_ _ e=>e,λ_ _ e n _ _ _=>⟨e,n⟩⟩
def Gro.trans{ex:List Addr}{H1 H2:Hp}{h h1 h2:Heap}(a:Gro X ex H h H1 h1)(b:Gro X ex H1 h1 H2 h2):Gro X ex H h H2 h2 :=
 ⟨λc o e=>b.sm c o (a.sm c o e),λc o e n l f x=>by
  obtain⟨e1,n1⟩:=a.kp c o e n l f x
  exact b.kp c o e1 n1 l f x⟩
def Gro.more{ex ex':List Addr}{H1:Hp}{h h1:Heap}(a:Gro X ex H h H1 h1)(k:∀b∈ex,b∈ex'):Gro X ex' H h H1 h1:=⟨a.sm,λc o e n l f x=>a.kp c o e n l f λz=>x (k c z)⟩
def Gro.mine{H1:Hp}{h h1:Heap}{o:Obj}(a:Gro X [] H h H1 h1)(m:Mine X pins H it)(e:h.get? it=some o):Mine X pins H1 it/\h1.get? it=some o:=by
 obtain⟨e1,n1⟩:=a.kp it o e m.h0 m.h1 m.h5 (λz=>nomatch z)
 exact⟨⟨n1,m.h1,m.h2,m.h3,m.h4,m.h5⟩,e1⟩
end
section
variable {X:Cx}{pins:List (Addr×Obj)}{σ:St}{H:Hp}{s:Shared}{A:Around}{a kS:Addr}{its:List Value}{vs:List V}{kz:List Int}{e e1:Nat}{P:PySem.Fin->Shared->Prop}{E:Value->Shared->Prop}{keys:Array Value}
def HY{prog:Program}{w:World}{A:Around}{E:Value->Shared->Prop}{s:Shared}{a₀:Array Keyed}(h0:IntKeys a₀):Lts (model prog w) A E s oneType' (·∈a₀.toList) (λp=>numOf p.1):=λx y st Q mx my hk h=>by
 obtain⟨n,t,ex⟩:=h0 x mx
 obtain⟨m,u,ey⟩:=h0 y my
 obtain⟨x1,x2⟩:=x
 obtain⟨y1,y2⟩:=y
 have ex:x1=.int n t:=ex
 have ey:y1=.int m u:=ey
 subst ex
 subst ey
 rw[lt'_eq]
 refine Î (wpS_get ?_)
 rw[hk,keyLt'_oneType]
 exact Î (wpS_lift (wpAny_attempt (oneLt_int ⟨rfl,Ó h⟩)))
def Ko{xs:Array Keyed}{n:Nat}(h:Seg (λp=>numOf p.1) xs 0 n)(hn:n<=xs.size):SortedTo xs n:=λi j hij hj=>by
 have:=h i j (û _) hij hj
 rw[aW (by omega),aW (by omega)] at this
 rw[K_eq (by omega),K_eq (by omega)]
 exact this
def Km(I:Inv X pins σ H s)(ma:Mine X pins H a)(mk:Mine X pins H kS)(hka:kS≠a)(hk:s.heap.get? kS=some (seqObj "list" keys e))(ha:s.heap.get? a=some (seqObj "list" #[] e1))(hi:IntsAre keys.toList kz)(hlen:kz.length=its.length)(h64:its.length<=1000)(h:∀h' tk out c,Inv X pins σ H { s with heap:=h',toks:=tk }->Gro X [a,kS] H s.heap H h'->h'.get? a=some (seqObj "list" out c)->KskOut false kz its out.toList->P (.done (.ret .none)) { s with heap:=h',toks:=tk }) :
  wpAny (model X.prog X.w) A (ksk_end a false its.toArray e1 (.ref kS) keys) P E s:=by
 have h24:=ì
 have hsz:keys.size=its.length:=by
  have:=hi.length
  rw[æ] at this
  omega
 have hzs:(keys.zip its.toArray).size=its.length:=by
  rw[Array.size_zip,hsz,Ì]
  omega
 have fin:∀st:SortSt,(arrOf st).Perm (keys.zip its.toArray)->SortedTo (arrOf st) (arrOf st).size->failedOf st=none->wpAny (model X.prog X.w) A (ksk_tail a false e1 (.ref kS) st) P E s:=λst hp hs hf=>by
  have z:(arrOf st).size=its.length:=hp.size_eq.trans hzs
  have u1:=ŷ s.heap kS (Ô λ_=>(#[]:Array Value))
  have ha1:=(u1.2 a hka.symm).trans ha
  have u2:=ŷ (s.heap.update kS (Ô λ_=>(#[]:Array Value))) a (Ô λ_=>(arrOf st).map (·.2))
  unfold ksk_tail
  dsimp only
  refine Ã (ř hk rfl (Ã (wpAny_letGo ?_)) (by omega) (û _))
  refine Ã (seqEpoch_at ha1 rfl (Ã (ř ha1 rfl ?_ (û _) (by show((arrOf st).map (·.2)).size<=_;rw[Array.size_map];omega))))
  rw[hf]
  simp only[bne_self_eq_false,ħ,if_false]
  have kp:∀b o,b≠kS->b≠a->s.heap.get? b=some o->((s.heap.update kS (Ô λ_=>(#[]:Array Value))).update a (Ô λ_=>(arrOf st).map (·.2))).get? b=some o:=λb o n1 n2 e=>(u2.2 b n2).trans ((u1.2 b n1).trans e)
  have I1:=I.yH (t':=s.toks) mk λb o n e=>(u1.2 b n).trans e
  have I2:=I1.yH (t':=s.toks) ma λb o n e=>(u2.2 b n).trans e
  obtain⟨c,hc⟩:∃c,((s.heap.update kS (Ô λ_=>(#[]:Array Value))).update a (Ô λ_=>(arrOf st).map (·.2))).get? a=some (seqObj "list" ((arrOf st).map (·.2)) c):=⟨_,get?_update_seq ha1 λ_=>(arrOf st).map (·.2)⟩
  refine Ñ (h _ s.toks _ c I2 ⟨λ_ _ e=>e,λb o e n l f x=>⟨kp b o (λz=>x ?_) (λz=>x ?_) e,n⟩⟩ hc (ksk_out (b:=false) hi hp hs))
  ·rw[z]
   exact Õ _ (Ë.mpr rfl)
  ·rw[z]
   exact Ú
 unfold ksk_end
 dsimp only
 rw[if_neg Ð,if_neg Ð]
 by_cases h2:its.toArray.size<2
 ·rw[if_pos h2,if_pos h2]
  refine Ã (Ñ ?_)
  rw[StateT.run_pure]
  refine Ã (Ñ (fin _ (Array.Perm.refl _) (λi j hij hj=>?_) rfl))
  have hj:j<(keys.zip its.toArray).size:=hj
  rw[Ì] at h2
  have e:i=j:=by omega
  subst e
  exact ÿ _
 ·rw[if_neg h2,if_neg h2]
  rw[Ì] at h2
  rw[ksk_kind hi (by omega)]
  refine Ã (Ñ ?_)
  refine Ã (Ĵ (Bm (a₀:=keys.zip its.toArray) (κ:=oneType') (st:=SortSt.mk' oneType' (keys.zip its.toArray) #[] 7 none) (Q:=λ_ st'=>(arrOf st').Perm (keys.zip its.toArray)/\failedOf st'=none/\SortedTo (arrOf st') (arrOf st').size) (λt Q h=>wpAny_rule h) (HY (ksk_intKeys hi)) ⟨List.Perm.refl _,rfl,rfl⟩ rfl (by omega) λst' K S=>⟨Array.perm_iff_toList_perm.mpr K.perm,K.fail,by rw[K.size];exact Ko S (Nat.le_of_eq K.size.symm)⟩) ?_ λ_ _ e=>e)
  rintro⟨⟨⟩,st'⟩ s' ⟨rfl,hp,hf,hs⟩
  exact fin st' hp hs hf
def Gro.own{H1:Hp}{h h1 h2:Heap}{b:Addr}(g:Gro X [a,kS] H h H1 h1)(hb:b=a\/b=kS)(k:∀c o,c≠b->h1.get? c=some o->h2.get? c=some o):Gro X [a,kS] H h H1 h2:=⟨g.sm,λc o e n l f x=>by
 obtain⟨e1,n1⟩:=g.kp c o e n l f x
 refine⟨k c o (λz=>x ?_) e1,n1⟩
 rcases hb with rfl|rfl
 ·rw[z];exact Ú
 ·rw[z];exact Õ _ (Ë.mpr rfl)⟩
def G6{f:Value}(rv:Vals vs its)(I:Inv X pins σ H s)(ma:Mine X pins H a)(mk:Mine X pins H kS)(hka:kS≠a)(hk:s.heap.get? kS=some (seqObj "list" #[] 0))(ha:s.heap.get? a=some (seqObj "list" #[] e1))(hlen:kz.length=vs.length)(h64:vs.length<=1000)(turn:∀(i:Nat) (v:V) (u:Value) (k:Int) (H1:Hp) (s1:Shared),vs[i]?=some v->kz[i]?=some k->RelV v u->Inv X pins σ H1 s1->Gro X [a,kS] H s.heap H1 s1.heap->wpAny (model X.prog X.w) A (call f [u]) (λr s2=>(∃t,r=Đ k t)/\∃H2,Inv X pins σ H2 s2/\Gro X [] H1 s1.heap H2 s2.heap) (λ_ _=>False) s1)(h:∀H2 s2 out c,Inv X pins σ H2 s2->Gro X [a,kS] H s.heap H2 s2.heap->Mine X pins H2 a->s2.heap.get? a=some (seqObj "list" out c)->KskOut false kz its out.toList->P (.done (.ret .none)) s2) :
  wpAny (model X.prog X.w) A (ksk_rest a f false its.toArray e1 (.ref kS)) P E s:=by
 have hl2:its.length=vs.length:=rv.length.symm
 unfold ksk_rest
 refine Ã (wpAny_rule ?_)
 rw[List.forIn_toArray]
 refine Ã (ksk_fold (λi s'=>∃H' kA e,Inv X pins σ H' s'/\Gro X [a,kS] H s.heap H' s'.heap/\Mine X pins H' a/\Mine X pins H' kS/\s'.heap.get? kS=some (seqObj "list" kA e)/\s'.heap.get? a=some (seqObj "list" #[] e1)/\IntsAre kA.toList (kz.take i)) its 0 s ⟨H,#[],0,I,Gro.refl,ma,mk,hk,ha,by simpa using IntsAre.nil⟩ ?step ?done)
 case step =>
  rintro j x s' hx ⟨H',kA,e,I',g',ma',mk',hk',ha',hi⟩
  simp only[Nat.zero_add] at hi ⊢
  have hj:j<its.length:=(Ö.mp hx).1
  have hkj:kz[j]?=some kz[j]:=Ä (by omega)
  have hvj:vs[j]?=some vs[j]:=Ä (by omega)
  obtain⟨x',ex,rx⟩:=rv.get hvj
  rw[hx] at ex
  cases ex
  have hz:kA.size<=1000:=by
   have h1:=hi.length
   rw[æ,Ċ] at h1
   omega
  have h24:=ì
  refine Ã (wpAny_attempt (Ĵ (turn j _ x _ H' s' hvj hkj rx I' g') (λr s2 he=>?_) λ_ _ hF=>hF.elim))
  obtain⟨⟨t,rfl⟩,H2,I2,g2⟩:=he
  dsimp only
  obtain⟨ma2,ha2⟩:=g2.mine ma' ha'
  obtain⟨mk2,hk2⟩:=g2.mine mk' hk'
  have sb:=ŷ s2.heap kS (Ô (·.push (.int kz[j] t)))
  have hk3:=get?_update_seq hk2 (·.push (.int kz[j] t))
  refine Ã (ř hk2 rfl ?_ (by omega) (ï (Nat.le_of_eq (Array.size_push ..)) (by omega)))
  refine Ñ ⟨rfl,H2,kA.push (.int kz[j] t),_,I2.yH (t':=s2.toks) mk2 (λb o n e=>(sb.2 b n).trans e),((g'.trans (g2.more λb z=>nomatch z)).own (.inr rfl) λb o n e=>(sb.2 b n).trans e),ma2,mk2,hk3,(sb.2 a hka.symm).trans ha2,?_⟩
  have ek:kz.take (j+1)=kz.take j++[kz[j]]:=by rw[Ĕ,hkj];rfl
  have ea:(kA.push (Đ kz[j] t)).toList=kA.toList++[Đ kz[j] t]:=by simp
  rw[ea,ek]
  exact ksk_snoc hi
 case done =>
  rintro s' ⟨H',kA,e,I',g',ma',mk',hk',ha',hi⟩
  have hi':IntsAre kA.toList kz:=by
   have e3:kz.take (0+its.length)=kz:=Ģ (by omega)
   rw[e3] at hi
   exact hi
  refine Ã (listItems_at hk' rfl ?_)
  exact Km I' ma' mk' hka hk' ha' hi' (by omega) (by omega) λh' tk out c I3 g3 h3 k3=>h H' _ out c I3 (g'.trans g3) ma' h3 k3
def fC{h:Heap}{o u:Obj}{b:Addr}(e:h.get? b=some u):(h.push o).get? b=some u:=Ç _ e
def G5{f:Value}{n:Nat}(rv:Vals vs its)(I:Inv X pins σ H s)(ma:Mine X pins H a)(ha:s.heap.get? a=some (seqObj "list" its.toArray n))(hlen:kz.length=vs.length)(h64:vs.length<=1000)(turn:∀(kS:Addr) (i:Nat) (v:V) (u:Value) (k:Int) (H1:Hp) (s1:Shared),s.heap.objs.size<=kS->vs[i]?=some v->kz[i]?=some k->RelV v u->Inv X pins σ H1 s1->Gro X [a,kS] H s.heap H1 s1.heap->wpAny (model X.prog X.w) A (call f [u]) (λr s2=>(∃t,r=Đ k t)/\∃H2,Inv X pins σ H2 s2/\Gro X [] H1 s1.heap H2 s2.heap) (λ_ _=>False) s1)(h:∀kS H2 s2 out c,s.heap.objs.size<=kS->Inv X pins σ H2 s2->Gro X [a,kS] H s.heap H2 s2.heap->Mine X pins H2 a->s2.heap.get? a=some (seqObj "list" out c)->KskOut false kz its out.toList->P (.done (.ret .none)) s2) :
  wpAny (model X.prog X.w) A (ksk_tree a f false) P E s:=by
 have hl2:its.length=vs.length:=rv.length.symm
 have h24:=ì
 have sb:=ŷ s.heap a (Ô λ_=>(#[]:Array Value))
 have ha1:=get?_update_seq ha λ_=>(#[]:Array Value)
 have hsz:(s.heap.update a (Ô λ_=>(#[]:Array Value))).objs.size=s.heap.objs.size:=Ĝ ..
 have hlt:a<s.heap.objs.size:=É ha
 unfold ksk_tree
 refine Ã (listItems_at ha rfl ?_)
 refine Ã (ř ha rfl ?_ (by rw[Ì];omega) (û _))
 refine Ã (seqEpoch_at ha1 rfl ?_)
 refine Ã (wpAny_newTuple ?_ (by show its.length<=_;omega))
 refine Ã (wpAny_newList ?_ (û _))
 refine Ě ?_
 have hks:((s.heap.update a (Ô λ_=>(#[]:Array Value))).push (seqObj "tuple" its.toArray 0)).objs.size=s.heap.objs.size+1:=by rw[size_push',hsz]
 have kp:∀b o,b≠a->s.heap.get? b=some o->(((s.heap.update a (Ô λ_=>(#[]:Array Value))).push (seqObj "tuple" its.toArray 0)).push (seqObj "list" #[] 0)).get? b=some o:=λb o n e=>fC (fC ((sb.2 b n).trans e))
 have I1:Inv X pins σ H { s with heap:=((s.heap.update a (Ô λ_=>(#[]:Array Value))).push (seqObj "tuple" its.toArray 0)).push (seqObj "list" #[] 0) }:=I.yH (t':=s.toks) ma kp
 have mk:Mine X pins H (s.heap.objs.size+1):=I.mine (Ĥ _)
 have hk0:(((s.heap.update a (Ô λ_=>(#[]:Array Value))).push (seqObj "tuple" its.toArray 0)).push (seqObj "list" #[] 0)).get? (s.heap.objs.size+1)=some (seqObj "list" #[] 0):=by
  rw[←hks]
  exact Û _ rfl
 have g1:∀kS,Gro X [a,kS] H s.heap H (((s.heap.update a (Ô λ_=>(#[]:Array Value))).push (seqObj "tuple" its.toArray 0)).push (seqObj "list" #[] 0)):=λkS=>⟨λ_ _ e=>e,λb o e n _ _ x=>⟨kp b o (λz=>x (by rw[z];exact Ú)) e,n⟩⟩
 show wpAny (model X.prog X.w) A (ksk_rest a f false its.toArray _ (.ref ((s.heap.update a (Ô λ_=>(#[]:Array Value))).push (seqObj "tuple" its.toArray 0)).objs.size)) P E { s with heap:=((s.heap.update a (Ô λ_=>(#[]:Array Value))).push (seqObj "tuple" its.toArray 0)).push (seqObj "list" #[] 0) }
 rw[hks]
 exact G6 rv I1 ma mk (ŋ (ă hlt)) hk0 (fC (fC ha1)) hlen h64 (λi v u k H1 s1 a1 a2 a3 a4 a5=>turn _ i v u k H1 s1 (Ĥ _) a1 a2 a3 a4 ((g1 _).trans a5)) λH2 s2 out c a1 a2 a3 a4 a5=>h _ H2 s2 out c (Ĥ _) a1 ((g1 _).trans a2) a3 a4 a5
def zG{l:Addr}{f:Addr}{Q:Value->Shared->Prop}(rv:Vals vs its)(I:Inv X pins σ H s)(hl:s.heap.IsList l its.toArray)(hlen:kz.length=vs.length)(h64:vs.length<=1000)(turn:∀(ex:List Addr) (i:Nat) (v:V) (u:Value) (k:Int) (H1:Hp) (s1:Shared),(∀b∈ex,s.heap.objs.size<=b)->vs[i]?=some v->kz[i]?=some k->RelV v u->Inv X pins σ H1 s1->Gro X ex H s.heap H1 s1.heap->wpAny (model X.prog X.w) A.in1.in1 (call (.ref f) [u]) (λr s2=>(∃t,r=Đ k t)/\∃H2,Inv X pins σ H2 s2/\Gro X [] H1 s1.heap H2 s2.heap) (λ_ _=>False) s1)(h:∀ex a H2 s2 out c,(∀b∈ex,s.heap.objs.size<=b)->s.heap.objs.size<=a->Inv X pins σ H2 s2->Gro X ex H s.heap H2 s2.heap->Mine X pins H2 a->s2.heap.get? a=some (seqObj "list" out c)->KskOut false kz its out.toList->Q (.ref a) s2) :
  wpAny (model X.prog X.w) A (call (.builtin "sorted") [.ref l] [(ù "key",.ref f)]) Q E s:=by
 have hl2:its.length=vs.length:=rv.length.symm
 have h24:=ì
 refine call_function_entry_kw kind_sorted plain_sorted entry_sorted (ksk_s1 _ _) ?_
 unfold Builtin.«sorted»
 refine Ã (m:=checkCount "sorted" 1 1 _) (Ñ ?_)
 refine Ã (collect_list hl ?_ (by omega))
 refine Ã (wpAny_newList ?_ (by omega))
 have hsz:((s.heap.push (seqObj "list" #[] 0)).update s.heap.objs.size (Ô (·++its.toArray))).objs.size=s.heap.objs.size+1:=by rw[Ĝ,size_push']
 have ha:(((s.heap.push (seqObj "list" #[] 0)).update s.heap.objs.size (Ô (·++its.toArray))).push (seqObj "list" its.toArray 0)).get? (s.heap.objs.size+1)=some (seqObj "list" its.toArray 0):=by
  rw[←hsz]
  exact Û _ rfl
 have kp:∀b o,s.heap.get? b=some o->(((s.heap.push (seqObj "list" #[] 0)).update s.heap.objs.size (Ô (·++its.toArray))).push (seqObj "list" its.toArray 0)).get? b=some o:=λb o e=>by
  have hlt:b<s.heap.objs.size:=É e
  refine fC ?_
  rw[Heap.get?_update_ne _ _ _ _ (ã hlt)]
  exact fC e
 have I1:Inv X pins σ H { s with heap:=((s.heap.push (seqObj "list" #[] 0)).update s.heap.objs.size (Ô (·++its.toArray))).push (seqObj "list" its.toArray 0) }:=I.kept (t':=s.toks) kp
 have ma:Mine X pins H (s.heap.objs.size+1):=I.mine (Ĥ _)
 have g1:∀ex,Gro X ex H s.heap H (((s.heap.push (seqObj "list" #[] 0)).update s.heap.objs.size (Ô (·++its.toArray))).push (seqObj "list" its.toArray 0)):=λex=>⟨λ_ _ e=>e,λb o e n _ _ _=>⟨kp b o e,n⟩⟩
 have hs2:s.heap.objs.size<=(((s.heap.push (seqObj "list" #[] 0)).update s.heap.objs.size (Ô (·++its.toArray))).push (seqObj "list" its.toArray 0)).objs.size:=by rw[size_push',hsz];omega
 show wpAny _ _ _ _ _ { s with heap:=((s.heap.push (seqObj "list" #[] 0)).update s.heap.objs.size (Ô (·++its.toArray))).push (seqObj "list" its.toArray 0) }
 rw[hsz]
 have exs:∀kS,s.heap.objs.size<=kS->∀b∈[s.heap.objs.size+1,kS],s.heap.objs.size<=b:=λkS hk b hb=>by
  rcases Ē.mp hb with rfl|hb
  ·exact Ĥ _
  ·rw[Ë.mp hb];exact hk
 refine Ã (Ě (wpAny_call_entry_kw slot_list_sort ⟨_,ha,rfl⟩ entry_list_sort ?body (ksk_l1 _ _)))
 case body =>
  show wpAny (model X.prog X.w) A.in1.in1 (Builtin.«list.sort» ⟨[.ref (s.heap.objs.size+1)],[(ù "key",.ref f)]⟩) _ _ _
  rw[ksk_t1]
  exact G5 rv I1 ma ha hlen h64 (λkS i v u k H1 s1 a0 a1 a2 a3 a4 a5=>turn _ i v u k H1 s1 (exs kS (ï hs2 a0)) a1 a2 a3 a4 ((g1 _).trans a5)) λkS H2 s2 out c a0 a1 a2 a3 a4 a5=>⟨_,rfl,Ñ ⟨_,rfl,h _ _ H2 s2 out c (exs kS (ï hs2 a0)) (Ĥ _) a1 ((g1 _).trans a2) a3 a4 a5⟩⟩
def Inv.J5{xs:List V}{out:List Value}{c:Nat}(I:Inv X pins σ H s)(m:Mine X pins H a)(r:Vals xs out)(hz:xs.length<=sizeLine)(e:s.heap.get? a=some (seqObj "list" out.toArray c)):Inv X pins σ (upd H a (.lst xs)) s:=by
 have nb:∀b u,H b=some u->b≠a:=λb u e z=>by rw[z,m.h0] at e;cases e
 have:=I.step (h':=s.heap) (H':=upd H a (.lst xs)) (g':=s.gens) (d':=s.drawn) (t':=s.toks) (ch:=[a]) (λb hb=>by
  rw[Ë.mp hb]
  exact⟨.inr m.h2,m.h1,m.h3,m.h4⟩) (λb o _ _ _ e _=>e) (λb o _ _ _ e _=>⟨o.slots,e⟩) (λb o hc _ n=>by
  rw[ak (λz=>hc (Ë.mpr z))]
  exact n) (λb o _ e=>⟨o,e⟩) (λb xs e=>by rw[ak (nb b _ e)];exact e) (λb o u e=>by rw[ak (nb b _ e)];exact e) (λb ps e=>⟨#[],by rw[ak (nb b _ e),e];simp⟩) (λ_ z=>z) (λb u eb=>by
  by_cases z:b=a
  ·subst z
   rw[ao] at eb
   cases eb
   exact⟨hz,out,c,r,e⟩
  ·rw[ak z] at eb
   exact(I.hok b u eb).stay (λc v _ q=>q) (λc q=>by rw[ak (nb c _ q)];exact q) λc xs q=>by rw[ak (nb c _ q)];exact q) I.bare
 exact this
def Paired.perm{α β:Type}{F:α->β->Prop}{xs:List α}{ys ys':List β}(hp:ys.Perm ys')(h:Paired F xs ys):∃xs',xs'.Perm xs/\Paired F xs' ys':=by
 induction hp generalizing xs with
 |nil=>exact⟨xs,.refl _,h⟩
 |cons y _ ih =>
  cases h with
  |cons h1 t =>
   obtain⟨xs',p,q⟩:=ih t
   exact⟨_::xs',p.cons _,.cons h1 q⟩
 |swap y z l =>
  cases h with
  |cons h1 t =>
   cases t with
   |cons h2 t=>exact⟨_,.swap _ _ _,.cons h2 (.cons h1 t)⟩
 |trans _ _ i1 i2 =>
  obtain⟨x1,p1,q1⟩:=i1 h
  obtain⟨x2,p2,q2⟩:=i2 q1
  exact⟨x2,p2.trans p1,q2⟩
def mZ:∀{kz:List Int}{vs:List V}{its:List Value},Vals vs its->Paired (λ(p:Int×V) (q:Int×Value)=>p.1=q.1/\RelV p.2 q.2) (kz.zip vs) (kz.zip its)
 |[],_,_,_=>by rw[List.zip_nil_left,List.zip_nil_left];exact .nil
 |_::_,_,_,.nil=>.nil
 |_::_,_,_,.cons h t=>.cons ⟨rfl,h⟩ (mZ t)
def nY:∀{ps:List (Int×V)}{qs:List (Int×Value)},Paired (λ(p:Int×V) (q:Int×Value)=>p.1=q.1/\RelV p.2 q.2) ps qs->ps.map (·.1)=qs.map (·.1)/\Vals (ps.map (·.2)) (qs.map (·.2))
 |_,_,.nil=>⟨rfl,.nil⟩
 |_,_,.cons h t=>by
  obtain⟨a,b⟩:=nY t
  exact⟨by rw[ë,ë,a,h.1],.cons h.2 b⟩
def Kl{out:List Value}(rv:Vals vs its)(k:KskOut false kz its out):∃ps:List (Int×V),ps.Perm (kz.zip vs)/\ps.Pairwise (λp q=>p.1<=q.1)/\Vals (ps.map (·.2)) out:=by
 obtain⟨qs,hp,rfl,hw⟩:=k
 obtain⟨ps,p1,p2⟩:=Paired.perm hp.symm (mZ (kz:=kz) rv)
 obtain⟨e,r⟩:=nY p2
 refine⟨ps,p1,?_,r⟩
 have h1:(qs.map (·.1)).Pairwise (·<=·):=by
  rw[ŵ]
  exact hw.imp λh=>by simpa using h
 rw[←e,ŵ] at h1
 exact h1
end
def Ag(f:Addr)(cl:List (Str×Addr)):List Addr:=f::cl.filterMap λq=>cl.lookup q.1
section
variable {X:Cx}{pins:List (Addr×Obj)}{σ:St}{H:Hp}{s:Shared}{f c':Addr}{qual:Str}{params:Arguments}{body:Expr}{scope:Scope}{cl:List (Str×Addr)}{ys:List Str}{cvs:List V}{pm ctv:Value}
def Ik(J:Inv X pins σ H s)(hfo:s.heap.get? f=some (ţ "<lambda>" qual params body scope cl pm c' ctv))(fn:H f=none)(nfs:f∉frs X.stack)(hfn:∀x,X.fn x=true)(hsub:∀x c,cl.lookup x=some c->X.env.cells.lookup x=some c)(hys:∀y∈ys,X.env.scope.names.lookup y=some .cell/\∃c,cl.lookup y=some c)(cl1:cvs.length=ys.length)(hcv:∀(j:Nat) (y:Str) (v:V),ys[j]?=some y->cvs[j]?=some v->∃i:Nat,X.N[i]?=some y/\σ[i]?=some (some v)) :
  Env0 X.prog X.w X.K X.mg (reb X.base s.heap (Ag f cl)) X.A X.stack s H/\(reb X.base s.heap (Ag f cl)).get? f=some (ţ "<lambda>" qual params body scope cl pm c' ctv)/\Caps (reb X.base s.heap (Ag f cl)) cl ys cvs:=by
 have ncell:∀y c,X.env.cells.lookup y=some c->c∉frs X.stack:=λy c e z=>by
  rcases Ē.mp (J.qG c z) with z|z
  ·exact J.cne y c e z
  ·obtain⟨_,o,ho,_⟩:=J.ok.jl.mem z
   exact absurd (É ho) (Nat.not_lt.mpr (J.ok.cab y c (hfn y) e))
 have inL:∀y c,cl.lookup y=some c->c∈Ag f cl:=λy c e=>Õ _ (ū.mpr ⟨(y,c),ĉ e,e⟩)
 have hL:∀b∈Ag f cl,(H b=none/\b∉frs X.stack):=λb hb=>by
  rcases Ē.mp hb with rfl|hb
  ·exact⟨fn,nfs⟩
  ·obtain⟨⟨y,c1⟩,_,e1⟩:=ū.mp hb
   have e2:=hsub y b e1
   exact⟨J.freeC y b e2,ncell y b e2⟩
 have cellB:∀y c w,cl.lookup y=some c->s.heap.IsCell c w->(reb X.base s.heap (Ag f cl)).IsCell c w:=λy c w e ⟨o,ho,hd⟩=>⟨o,Cj ho (inL y c e),hd⟩
 refine⟨J.env0.reb (λb hb=>(hL b hb).1) λb hb=>(hL b hb).2,Cj hfo Ú,⟨cl1,λy c e=>?_,λj y w h1 h2=>?_⟩⟩
 ·obtain⟨w,hw⟩:=J.cell y c (hsub y c e)
  exact⟨w,cellB y c w e hw⟩
 ·obtain⟨i,n1,n2⟩:=hcv j y w h1 h2
  obtain⟨k1,c,e⟩:=hys y (Ò h1)
  obtain⟨m,_,hl⟩:=J.loc
  obtain⟨u',rv,l⟩:=hl i y w n1 n2 (.inr (.inl k1))
  rcases l with ⟨k2,_⟩|⟨_,c2,e2,hc⟩
  ·have k2:X.env.scope.names.lookup y=some .local:=k2
   rw[k1] at k2;cases k2
  ·rw[hsub y c e] at e2
   cases e2
   exact⟨c,u',e,cellB y c _ e hc,rv⟩
end
def tW(K:Ø)(N:List Str)(P:Addr)(lpos:Pos)(qual:Str)(ys:List Str)(spL:List V->Addr->Sp)(te:TE):TE:=λσ H Q=>te σ H λv H1=>lV P lpos qual H1 /\
 ∃(l:Addr) (vs:List V) (kz:List Int) (cvs:List V),v=.ref l/\SqL K H1 l vs/\kz.length=vs.length/\vs.length<=1000/\cvs.length=ys.length/\(∀(j:Nat) (y:Str) (v:V),ys[j]?=some y->cvs[j]?=some v->∃i:Nat,N[i]?=some y/\σ[i]?=some (some v)) /\
  ∀c' H2,lV P lpos qual H2->o9 H2 c' qual->(∀b o,H1 b=some o->b≠P->H2 b=some o) ->
   (∀(i:Nat) (v:V) (k:Int) (H3:Hp),vs[i]?=some v->kz[i]?=some k->(∀b o,H2 b=some o->H3 b=some o)->spL cvs c' [v] H3 (λr H4=>r=.int k/\∀b o,H3 b=some o->H4 b=some o) E0) /\
   ∀(a:Addr) (ps:List (Int×V)) (H3:Hp),ps.Perm (kz.zip vs)->ps.Pairwise (λp q=>p.1<=q.1)->H3 a=none->(∀b o,H2 b=some o->H3 b=some o)->Q (.ref a) (upd H3 a (.lst (ps.map (·.2))))
section
variable {X:Cx}{k:Nat}{c P:Addr}{ps ys:List Str}{spL:List V->Addr->Sp}{p pos lpos kp:Pos}{e:Expr}{te:TE}{qual:Str}{params:Arguments}{body:Expr}{scope:Scope}{cl:List (Str×Addr)}
def vV(FL:∀(cvs:List V) (base':Heap) (f c':Addr) (pm ctv:Value),cvs.length=ys.length->base'.get? f=some (ţ "<lambda>" qual params body scope cl pm c' ctv)->Caps base' cl ys cvs->∃fd,FnOk X.prog X.w X.K X.mg base' CX0 k f fd ps (spL cvs c')/\Binds X.K fd ps [])(hr:Room k X.A.in1.in1)(hg:Gl X "sorted")(hm:X.mg "sorted"=none)(ha:PE X e te)(hq:X.env.qual++"<lambda>"=qual)(hdef:defaultsOf params X.env=([],[]))(hcl:closureFor scope X.env=pure cl)(hcode:X.env.code=.ref c)(hC:X.K.In X.base->W.CodeHd X.base c P)(hB:X.K.In X.base->X.base.BuiltinsAt X.mg P)(hfn:∀x,X.fn x=true)(hsub:∀x c,cl.lookup x=some c->X.env.cells.lookup x=some c)(hys:∀y∈ys,X.env.scope.names.lookup y=some .cell/\∃c,cl.lookup y=some c)(he:zS X e []:=by rfl) :
  PE X (.Call (.Name "sorted" p) [e] [⟨some "key",.Lambda params body scope lpos,kp⟩] pos) (tW X.K X.N P lpos qual ys spL te):=by
 intro pins s σ H Q I h
 have hv:bootBuiltins "sorted"=some (.builtin "sorted"):=boot_sorted
 refine Ő (iy I hg hm hv ?_ (by decide) (by decide))
 refine callWith_kw ?_ (by rw[he];rfl) (by rw[he];rfl)
 rw[he]
 show wpAny _ _ (spliced [(false,eval e X.env)]) _ _ s
 refine Calls.spliced_cons (thn (ha pins s σ H _ I h) λu s1 ⟨v,H1,I1,r1,T1,l,vs,kz,cvs,ev,hl,hlen,h64,cl1,hcv,q1⟩=>Calls.spliced_nil ?_)
 subst ev
 cases r1
 refine kws_cons (Ab I1 hq hdef hcl hcode hC hB T1 λf c' ctv pm s2 H2 J T2 kn fn hfo nfs kp kb=>kws_nil ?_)
 have Q2:=q1 c' H2 T2 kn kp
 have fL:f≠X.env.locals:=λz=>by
  obtain⟨m,⟨o,es,ep,ho,hd,_⟩,_⟩:=J.loc
  rw[←z,hfo] at ho
  cases ho
  cases hd
 have hfs:f<s2.heap.objs.size:=É hfo
 have hl2:SqL X.K H2 l vs:=by
  obtain⟨ps,hP,_⟩:=T1
  rcases hl with (hl|⟨o,hl⟩)|hl
  ·exact .inl (.inl (kp l _ hl λz=>by rw[z,hP] at hl;cases hl))
  ·exact .inl (.inr ⟨o,kp l _ hl λz=>by rw[z,hP] at hl;cases hl⟩)
  ·exact .inr hl
 obtain⟨its,rv,pl,hz⟩:=J.list hl2
 refine zG rv J pl.isList hlen h64 (λex i v u k H3 s3 hex hv hk ru J3 g=>?_) λex a H3 s3 out c hex ha J3 g ma ho ko=>?_
 ·obtain⟨ho3,n3⟩:=g.kp f _ hfo fn fL nfs λz=>absurd (hex f z) (Nat.not_le.mpr hfs)
  obtain⟨e0,lkf,C⟩:=Ik J3 ho3 n3 nfs hfn hsub hys cl1 hcv
  obtain⟨fd,FF,hb⟩:=FL cvs _ f c' pm ctv cl1 lkf C
  have hsp:=Q2.1 i v k H3 hv hk g.sm
  have hl1:[u].length=ps.length:=FF.len _ _ _ _ hsp
  refine wpAny_call (codeAny_mono (FF.run X.A.in1.in1 X.stack s3 H3 ⟨[u],[]⟩ [u] [v] _ E0 hr e0.in1.in1 ?_ (.cons ru .nil) hsp) λr s' hq=>?_)
  ·have:=hb s3 [u] J3.kIn (by rw[õ];exact hl1)
   rw[õ] at this
   exact this
  ·cases r with
   |error e=>exact hq.elim
   |ok fl =>
    cases fl with
    |ret u =>
     obtain⟨v',H4,os,bare,un,hok,rv',e',sm⟩:=hq
     subst e'
     obtain⟨t,rfl⟩:=rv'
     obtain⟨hh,g',d,t',os'⟩:=s'
     obtain rfl:os'=s3.os:=os
     exact⟨⟨t,rfl⟩,H4,J3.call (h':=hh) (g':=g') (d':=d) (t':=t') (ch:=[]) un hok bare (λb z=>absurd z (by simp)),⟨sm,λb o e n _ nf _=>⟨un.keep b o e n nf (by simp),un.free b o e n (by simp)⟩⟩⟩
    |next=>exact ė hq
    |brk=>exact ė hq
    |cont=>exact ė hq
 ·obtain⟨qs,p1,p2,p3⟩:=Kl rv ko
  have hz2:(qs.map (·.2)).length<=sizeLine:=by
   have:=p1.length_eq
   rw[ũ] at this
   rw[Á]
   omega
  exact⟨.ref a,_,J3.J5 ma p3 hz2 ho,rfl,Q2.2 a qs H3 p1 p2 ma.h0 g.sm⟩
end
end L2
namespace Dl
open PySem L2 PyProof.Rows
def Kf(qual:Str)(gk:D->D->Int->Prop):List V->Addr->Sp:=λcvs c' vs H Q _=>o9 H c' qual/\∃(v0 v1:V) (dc dx:D) (k:Int),cvs=[v0]/\vs=[v1]/\Rp (λ_=>True) H v0 dc/\Rp (λ_=>True) H v1 dx/\gk dc dx k/\∀H',(∀b o,H b=some o->H' b=some o)->Q (.int k) H'
def tSL(i:Nat)(gk:D->D->Int->Prop)(te:DE):DE:=λρ P=>te ρ λk d=>∃(ds:List D) (kz:List Int) (dc:D),d=.list ds/\(ρ[i]?=some (.sh dc)\/ρ[i]?=some (.im dc))/\kz.length=ds.length/\ds.length<=1000 /\
 (∀(j:Nat) (x:D) (c:Int),ds[j]?=some x->kz[j]?=some c->gk dc x c)/\∀ps:List (Int×D),ps.Perm (kz.zip ds)->ps.Pairwise (λp q=>p.1<=q.1)->P (k.join .new) (.list (ps.map (·.2)))
def xG{ok:Addr->Prop}{H:Hp}:∀{kz:List Int}{vs:List V}{ds:List D},Rps ok H vs ds->Paired (λ(p:Int×D) (q:Int×V)=>p.1=q.1/\Rp ok H q.2 p.2) (kz.zip ds) (kz.zip vs)
 |[],_,_,_=>by rw[List.zip_nil_left,List.zip_nil_left];exact .nil
 |_::_,_,_,.nil=>.nil
 |_::_,_,_,.cons h t=>.cons ⟨rfl,h⟩ (xG t)
def nW{ok:Addr->Prop}{H:Hp}:∀{ps:List (Int×D)}{qs:List (Int×V)},Paired (λ(p:Int×D) (q:Int×V)=>p.1=q.1/\Rp ok H q.2 p.2) ps qs->ps.map (·.1)=qs.map (·.1)/\Rps ok H (qs.map (·.2)) (ps.map (·.2))
 |_,_,.nil=>⟨rfl,.nil⟩
 |_,_,.cons h t=>by
  obtain⟨a,b⟩:=nW t
  exact⟨by rw[ë,ë,a,h.1],.cons h.2 b⟩
section
variable {K:Ø}{N:List Str}{P:Addr}{lpos:Pos}{qual y:Str}{i:Nat}{gk:D->D->Int->Prop}{te:DE}
def Ib(hy:N[i]?=some y):∀σ H Q,@cL (grU (uy P lpos qual)) (tSL i gk te) σ H Q->tW K N P lpos qual [y] (Kf qual gk) (@cL (grU (uy P lpos qual)) te) σ H Q:=by
 letI:=grU (uy P lpos qual)
 rintro σ H Q ⟨q,H0,own,ρ,P',E,t,kq⟩
 have eq:q=uy P lpos qual:=E.gr
 subst eq
 refine⟨_,H0,own,ρ,_,E,t,λk d v H1 hd A r=>?_⟩
 obtain⟨ds,kz,dc,rfl,hi,hlen,h64,hk,hP⟩:=hd
 obtain⟨c,vs,rfl,o,hc,rs⟩:=r.cJ
 have T1:lV P lpos qual H1:=A.pen
 have TH:lV P lpos qual H:=E.pen
 have ntup:∀{H:Hp},lV P lpos qual H->∀a xs,H a=some (.tup xs)->a≠P:=λ{H} T a xs e z=>by
  obtain⟨ps,hp,_⟩:=T
  rw[z,hp] at e
  cases e
 obtain⟨v0,hv0,r0⟩:∃v0,σ[i]?=some (some v0)/\Rp (λa=>a≠P) H v0 dc:=by
  rcases hi with hi|hi
  ·obtain⟨v0,e,r⟩:=E.slot i _ hi
   exact⟨v0,e,r.mono (λa o=>o.1) (λ_ _ _ e=>e) λ_ _ e=>e⟩
  ·obtain⟨v0,e,r⟩:=E.slot i _ hi
   exact⟨v0,e,r.mono (λa o=>o.elim) (λ_ _ _ e=>e) λ_ _ e=>e⟩
 have ll:=rs.length
 refine⟨T1,c,vs,kz,[v0],rfl,SqL.of hc,by omega,by omega,rfl,λj y' v h1 h2=>?_,λc' H2 T2 kn kp=>⟨λj v k' H3 hv hkz sm=>?_,λa ps H3 hp hw fr sm=>?_⟩⟩
 ·match j,h1,h2 with
  |0,h1,h2=>cases h1;cases h2;exact⟨i,hy,hv0⟩
 ·obtain⟨x,φ,kx,cx⟩:=kn
  have hj:j<ds.length:=by rw[←ll];exact(Ö.mp hv).1
  obtain⟨v1,e1,r1⟩:=rs.getD (Ä hj)
  rw[hv] at e1
  cases e1
  refine⟨⟨x,φ,sm _ _ kx,cx⟩,v0,v,dc,ds[j],k',rfl,rfl,?_,?_,hk j _ _ (Ä hj) hkz,λH' sm'=>⟨rfl,sm'⟩⟩
  ·exact r0.mono (λ_ _=>trivial) (λa o n e=>sm _ _ (kp _ _ (A.kp a o e n) n)) λa xs e=>sm _ _ (kp _ _ (A.kp a _ e (ntup TH a xs e)) (ntup TH a xs e))
  ·exact r1.mono (λ_ _=>trivial) (λa o n e=>sm _ _ (kp _ _ e (iW A n))) λa xs e=>sm _ _ (kp _ _ e (ntup T1 a xs e))
 ·have k13:Kp (uy P lpos qual) H1 H3:=λb o e n=>sm _ _ (kp _ _ e n)
  have i3:(uy P lpos qual).PI H3:=(uy P lpos qual).mono H2 H3 T2 λb o _ e=>sm b o e
  have A3:=A.go k13 i3
  obtain⟨k2,i2,nw⟩:=A3.new fr (.lst (ps.map (·.2)))
  obtain⟨qs,q1,q2⟩:=Paired.perm hp.symm (xG (kz:=kz) (aR A k13 rs))
  obtain⟨e,rr⟩:=nW q2
  have hw2:qs.Pairwise (λp q=>p.1<=q.1):=by
   have h1:(ps.map (·.1)).Pairwise (·<=·):=by rw[ŵ];exact hw
   rw[←e,ŵ] at h1
   exact h1
  have j:=cH k .new
  exact kq _ _ _ _ (hP qs q1 hw2) (A3.go k2 i2) (.lst (aX A3 j.2 nw) ao ((aR A3 k2 rr).mono (λa o=>aX A3 j.1 o) (λ_ _ _ e=>e) λ_ _ e=>e))
end
section
variable [Gr]
structure WishX(p:Pn)(H0:Hp)(own:Addr->Option Nat)(H:Hp)(P:DEnds)(Q:Ends):Prop where
 nx:∀own' σ' H' ρ',EnvD p H0 own' σ' H' ρ'->FrS p own H own' H'->P.nx ρ'->Q.nx σ' H'
 rt:∀d v H',P.rt d->p.PI H'->(∀b o,H b=some o->¬p.fp b->own b=none->H' b=some o)->Rp (λa=>¬p.fp a) H' v d->Q.rt v H'
 bk:∀own' σ' H' ρ',EnvD p H0 own' σ' H' ρ'->FrS p own H own' H'->P.bk ρ'->Q.bk σ' H'
 ct:∀own' σ' H' ρ',EnvD p H0 own' σ' H' ρ'->FrS p own H own' H'->P.ct ρ'->Q.ct σ' H'
def O1(t:DS):TS:=λQ σ H=>∃p H0 own ρ P,EnvD p H0 own σ H ρ/\t P ρ/\WishX p H0 own H P Q
structure WX(X:Cx)(ss:List Stmt)(t:DS):Prop where
 h:PSs X ss (O1 t)
variable {X:Cx}{pos rp:Pos}{c e tg iter:Expr}{te:DE}{tc:DT}{body rest:List Stmt}{ti:DI}{g:DG}{tb:DS}{u:DR}
end
section
variable [Gr] {X:Cx}{st:Stmt}{te:DE}
end
end Dl
namespace Wr
open PySem L2 PyProof.Rows Dl
variable [Gr] {X:Cx}{te:DE}{pos p1:Pos}
end Wr
namespace Dl
open PySem L2 PyProof.Rows
section
variable [Tb]
def Ls(m:Nat)(t:DR):TS:=λQ σ H=>∃a n H0 own ρ P,EnvB a n m H0 own σ H ρ/\t P ρ/\WishR (aq a n) own H P Q
end
end Dl
namespace Wb
open PySem L2 PyProof.Rows Dl Wr
section
variable [Tb] {X:Cx}{n m m1 m2 m3:Nat}{pos:Pos}{e:Expr}{es:List Expr}{te:DE}{st:Stmt}{rest:List Stmt}{t:DS}{u:DR}
structure BR(X:Cx)(m:Nat)(ss:List Stmt)(t:DR):Prop where
 h:PSs X ss (Ls m t)
end
end Wb
namespace Dl
open PySem L2 PyProof.Rows
section
variable [Gr] {X:Cx}{st:Stmt}{te:DE}
end
end Dl
namespace Wr
open PySem L2 PyProof.Rows Dl
end Wr
open Wr renaming au → À,aL → Â,bI → Æ,dv → Ê,bA → í,lg → ò,bM → ö,Df → þ,nJ → Ā,dF → Ć,dD → Ď,qT → Ĩ,wv → İ,dc → ō,iC → Ş,qb → Ū,nP → Ų,kZ → ų,oW → Ŵ,iU → ž
open Dl renaming Cal → è,Ih → ĩ,Bn → Ļ,Jm → ł
open L2 renaming CW → ē,Mp → ğ,cC → ŕ,jB → Ż
open Wr.WDSs renaming h → Ŋ
open L2.V renaming int → Ÿ
namespace Wb
open PySem L2 PyProof.Rows Dl Wr
section
variable [Tb] {X:Cx}{n m m1 m2 m3:Nat}{pos p2:Pos}
end
end Wb
namespace Dl
open PySem L2 PyProof.Rows
section
variable {T:Pn}{a:Addr}{n m:Nat}{H H':Hp}
def Hl(t:Tb)(h:(@aq t a n).PI H):(@aq noTb a n).PI H:=⟨h.1,trivial,λz=>z⟩
def Hj(t:Tb)(h:(@aq t a m).PI H)(k:Kp (@aq noTb a n) H H')(i:(@aq noTb a n).PI H'):(@aq t a n).PI H':=by
 obtain⟨⟨x,y,c,hl,_⟩,ht,na⟩:=h
 refine⟨i.1,t.T.mono H H' ht λb o z e=>k b o e λy=>?_,na⟩
 have y:b=a:=y.elim id ė
 subst y
 rcases z with z|⟨_,_,z⟩
 ·exact na z
 ·rw[hl] at e
  cases e
  cases z
def O7(t:Tb)(k:Kp (@aq noTb a n) H H'):Kp (@aq t a n) H H':=λb o e nf=>k b o e λz=>nf (.inl (z.elim id ė))
end
def zA(t:Tb){m:Nat}{f:List D->(D->Prop)->Prop}:∀vs H Q E,@cU t m f vs H Q E->@cU noTb m f vs H Q E:=by
 rintro vs H Q E ⟨a,n,vs',ds,P,rfl,pi,r,g,k⟩
 exact⟨a,n,vs',ds,P,rfl,Hl t pi,r.mono (λb o z=>o (.inl (z.elim id ė))) (λ_ _ _ e=>e) (λ_ _ e=>e),g,λd v H' hP kp pi' rp=>k d v H' hP (O7 t kp) (Hj t pi kp pi') rp⟩
def Cal.pP{P:Program}{w:World}{K:Ø}{mg:Str->Option Value}{base:Heap}{k:Nat}{x:Str}{ps:List Str}{t:Tb}{m:Nat}{f:List D->(D->Prop)->Prop}(c:Cal P w K mg base k x ps (@cU noTb m f)):Cal P w K mg base k x ps (@cU t m f):=by
 obtain⟨g,fd,F,r⟩:=c.ex
 exact⟨g,fd,F.imp (zA t),r⟩
end Dl
namespace Wb
open PySem L2 PyProof.Rows Dl Wr
section
variable [Tb]
end
end Wb
namespace Dl
open PySem L2 PyProof.Rows
@[reducible] def pF(T:Pn)(K:Ø)(sc:Addr)(ns:List Int):Gr:=⟨λp H0=>p=T/\SqL K H0 sc (ns.map Ÿ)/\(Rd H0 sc (.lst (ns.map Ÿ))->¬T.fp sc)⟩
def SqL.keep{K:Ø}{H H':Hp}{a:Addr}{xs:List V}(h:SqL K H a xs)(k:Rd H a (.lst xs)->∀o,H a=some o->H' a=some o):SqL K H' a xs:=by
 rcases h with (h|⟨o,h⟩)|h
 ·exact .inl (.inl (k (.inl h) _ h))
 ·exact .inl (.inr ⟨o,k (.inr ⟨o,h⟩) _ h⟩)
 ·exact .inr h
def Je{T:Pn}{K:Ø}{Tm:DS}{N:List Str}{H:Hp}{Q:VK}{sc:Addr}{ns:List Int}(hS:SqL K H sc (ns.map Ÿ))(hT:T.PI H)(hf:Rd H sc (.lst (ns.map Ÿ))->¬T.fp sc)(q:∀H',Q (.bl true) H')(hN:1<=N.length)(body:Tm { nx:=λ_=>False,rt:=λd=>d=.bool true } (.scr (.ref sc) false::Ï (N.length - 1) .any)):@pW (pF T K sc ns) Tm { nx:=λ_ H'=>Q .non H',rt:=Q } (L2.start N [.ref sc]) H:=by
 letI:=pF T K sc ns
 refine⟨T,H,λ_=>none,_,_,?_,body,⟨λ_ _ _ _ _ _ n=>n.elim,λd v H' n w=>?_,λ_ _ _ _ _ _ n=>n.elim,λ_ _ _ _ _ _ n=>n.elim⟩⟩
 ·refine⟨λb o e _=>e,hT,λa r e=>(nomatch e),λj s e=>?_,by unfold L2.start;simp,rfl,hS,hf⟩
  cases j with
  |zero =>
   have e:=ß e
   subst e
   exact⟨rfl,λz=>nomatch z⟩
  |succ j =>
   rw[Ů] at e
   have hm:=Ò e
   have e2:=(List.mem_replicate.mp hm).2
   subst e2
   trivial
 ·have n:d=.bool true:=n
  subst n
  have r:=w.rp
  have e:=r.bl'
  subst e
  exact q H'
end Dl
namespace Wb
open PySem L2 PyProof.Rows Dl Wr
section
variable [Tb]
def Am{X:Cx}{m:Nat}{e:Expr}{es:List Expr}{f:List D->(D->Prop)->Prop}{t:DA}{ps:List Str}{x:Str}{pp pos:Pos}{k j:Nat}(C:Cal X.prog X.w X.K X.mg X.base k x ps (spT Tb.T f))(hr:Room j X.A)(ha:BA X m (e::es) t)(hk:k<=j:=by decide)(hg:Gl X x:=by rfl)(hdb:zB x:=by decide)(he:zS X e es:=by rfl)(hpl:zP X pos es:=by rfl):BE X m (.Call (.Name x pp) (e::es) [] pos) (GZ f t):=⟨PE.wk (pcS C hr ha.h hk hg hdb he hpl) (by
 rintro σ H Q ⟨a,n,H0,own,ρ,P,E,t,q⟩
 refine⟨a,n,H0,own,ρ,_,E,t,λks vs H1 h A r=>?_⟩
 show spT Tb.T f (vs++[]) H1 Q E0
 rw[õ]
 obtain⟨⟨x,y,c,hl,rr⟩,ht,na⟩:=A.pen
 refine⟨ks.map (·.2),_,ht,(RpK.rps A r).mono (λ_ o z=>o (.inr z)) (λ_ _ _ e=>e) (λ_ _ e=>e),h,λd v H' h2 kp pi' r2=>?_⟩
 have k2:Kp (aq a n) H1 H':=λb o e nf=>kp b o e λz=>nf (.inr z)
 exact q _ d v H' h2 (A.go k2 ⟨⟨x,y,c,kp a _ hl na,rr⟩,pi',na⟩) (aM (r2.mono (λa o=>A.free o) (λ_ _ _ e=>e) λ_ _ e=>e)))⟩
end
variable {X:Cx}{K:Ø}{sc:Addr}{ns:List Int}{pre:List D->Prop}
def CT(tb:Tb){m i k j:Nat}{x y z:Str}{ps:List Str}{es:List Expr}{pos' spos p2 p3 pos1:Pos}{rest:List Stmt}{t1:DA}{t:DS}(C:Cal X.prog X.w X.K X.mg X.base k y ps (G3 K pre))(hr:Room j X.A)(hv:WV X (.Name z p3) 0)(ha:WDA X es t1)(hN:X.N.Nodup)(hi:X.N[i]?=some x)(hx:Loc X.env.scope x)(hb:@BSs tb X m rest t)(hm:Nat.ble m 1152921504606846976=true)(hk:k<=j:=by decide)(hg:Gl X y:=by rfl)(hdb:zB y:=by decide)(he:starEach (.Name z p3::es) X.env=(false,eval (.Name z p3) X.env)::starEach es X.env:=by rfl)(hpl:zP X pos1 es:=by rfl)(hs:swapsWith (.Call (.Name y p2) (.Name z p3::es) [] pos1) (some (.Name x pos')) spos.line X.env=pure false:=by rfl)(hf:zL X x:=by first|exact .inl rfl|exact .inr rfl|assumption) :
  @j4 (pF tb.T K sc ns) X (.Assign [.Name x pos'] (.Call (.Name y p2) (.Name z p3::es) [] pos1) spos::rest) (Q6 sc pre i t1 t):=PSs.wk' (Ż (cW hN hi hx (pcS C hr (ŕ hv.h ha.h he) hk hg hdb he hpl) hs hf) (@BSs.h tb _ _ _ _ hb)) (by
 rintro Q σ H ⟨p,H0,own,ρ,P,E,⟨⟨b0,h0⟩,hil,t⟩,w⟩
 have hm:=Nat.le_of_ble_eq_true hm
 have gr:=@EnvD.gr (pF tb.T K sc ns) _ _ _ _ _ _ E
 obtain⟨ep,gS,gf⟩:=gr
 subst ep
 have grr:(pF tb.T K sc ns).G tb.T H0:=⟨rfl,gS,gf⟩
 replace E:=Jd E
 have wnx:∀own' σ' H' ρ',EnvD tb.T H0 own' σ' H' ρ'->FrS tb.T own H own' H'->P.nx ρ'->Q.nx σ' H':=λo s h r e f n=>@Wish.nx (pF tb.T K sc ns) _ _ _ _ _ _ w o s h r (FW grr e) f n
 have wrt:∀d v H',P.rt d->RPost tb.T H0 H' v d->Q.rt v H':=@Wish.rt (pF tb.T K sc ns) _ _ _ _ _ _ w
 obtain⟨hs0,_⟩:=E.slot 0 _ h0
 refine⟨.ref sc,hs0,tb.T,H0,own,ρ,_,E,t,λks vs H1 h1 A1 r1=>?_⟩
 show G3 K pre ((.ref sc::vs)++[]) H1 _ E0
 rw[õ]
 refine⟨sc,ns,vs,ks.map (·.2),rfl,SqL.keep gS λr o e=>A1.kp sc o (E.k0 sc o e (gf r)) (gf r),(RpK.rps A1 r1).mono (λ_ _=>trivial) (λ_ _ _ e=>e) λ_ _ e=>e,h1.1,λa H2 pi0 s12 fr=>?_⟩
 have nfa:¬tb.T.fp a:=λz=>by
  obtain⟨o,e,_⟩:=tb.T.is H1 a A1.pen z
  rw[fr] at e
  cases e
 have pi2:(@aq tb a 1152921504606846976).PI H2:=⟨pi0.1,tb.T.mono H1 H2 A1.pen λb o _ e=>s12 b o e,nfa⟩
 have hil2:i<σ.length:=by rw[←E.len];exact hil
 have tp:∀b xs,H b=some (.tup xs)->H2 b=some (.tup xs):=λb xs e=>s12 b _ (A1.tups b xs e)
 have E2:EnvD (@aq tb a (1152921504606846976 - m)) H2 (λ_=>none) (σ.set i (some (.ref a))) H2 ((ρ.map rW).set i (.pen TP)):=by
  refine⟨λ_ _ e _=>e,@aB tb _ _ _ _ pi2 (by omega),λ_ _ e=>(nomatch e),λq s e=>?_,by simp[E.len],trivial⟩
  by_cases hq:q=i
  ·subst hq
   rw[ý (by simpa using hil)] at e
   cases e
   exact⟨ý hil2,trivial⟩
  ·rw[Ğ (ę hq),Þ] at e
   have eq:(σ.set i (some (V.ref a)))[q]?=σ[q]?:=Ğ (ę hq)
   cases e1:ρ[q]? with
   |none=>rw[e1] at e;cases e
   |some s1 =>
    rw[e1] at e
    have e:=ß e
    subst e
    have hq1:=E.slot q s1 e1
    cases s1 with
    |im d =>
     obtain⟨v,ev,rv⟩:=hq1
     exact⟨v,by rw[eq];exact ev,rv.mono (λ_ o=>o) (λ_ _ o=>o.elim) tp⟩
    |scr v b=>exact⟨by rw[eq];exact hq1.1,λz=>nomatch z⟩
    |_=>trivial
 have st:stp ((ρ.map rW).set i (.pen TP))=(ρ.map rW).set i (.pen TP):=by
  refine xM ?_ rfl
  unfold stp
  rw[î]
  refine List.map_congr_left λs _=>?_
  cases s <;> rfl
 have keep:∀b o,H b=some o->¬tb.T.fp b->H2 b=some o/\¬(@aq tb a (1152921504606846976 - m)).fp b:=λb o e n=>⟨s12 b o (A1.kp b o e n),λz=>z.elim (λz=>by subst z;rw[A1.kp b o e n] at fr;cases fr) n⟩
 have k0:∀H':Hp,(∀b o,H2 b=some o->¬(@aq tb a (1152921504606846976 - m)).fp b->H' b=some o)->∀b o,H0 b=some o->¬tb.T.fp b->H' b=some o:=λH' k b o e n=>by
  have:=keep b o (E.k0 b o e n) n
  exact k b o this.1 this.2
 refine⟨a,1152921504606846976 - m,H2,λ_=>none,_,_,@EnvB.mk tb _ _ _ _ _ _ _ _ st (by rw[show 1152921504606846976 - m+m=1152921504606846976 by omega];exact pi2) E2,h1.2,⟨λo s h r e g nn=>?_,λd v h nn r=>?_,λ_ _ _ _ _ _ n=>n.elim,λ_ _ _ _ _ _ n=>n.elim⟩⟩
 ·obtain⟨⟨b,hb0⟩,hlen,hP⟩:=nn
  refine wnx own s h _ ?_ ⟨λb o eb n z=>?_,λc xs e=>g.tup c xs (tp c xs e)⟩ hP
  ·refine⟨k0 h e.k0,e.pen.2.1,λc q oc=>?_,λq sl eq=>?_,?_,trivial⟩
   ·obtain⟨h1',h2',h3'⟩:=E.ow c q oc
    refine⟨h1',h2',λz=>?_⟩
    cases hc:H c with
    |none=>exact h3' hc
    |some o =>
     have:=keep c o hc h2'
     rw[e.k0 c o this.1 this.2] at z
     cases z
   ·unfold K8 at eq
    cases q with
    |zero =>
     have eq:=ß eq
     subst eq
     exact⟨(e.slot 0 _ hb0).1,λz=>nomatch z⟩
    |succ q =>
     rw[Ů] at eq
     have:=(List.mem_replicate.mp (Ò eq)).2
     subst this
     trivial
   ·unfold K8
    have:=e.len
    rw[ð,ŏ]
    omega
  ·have:=keep b o eb n
   exact⟨e.k0 b o this.1 this.2,z⟩
 ·refine wrt d v h nn ⟨k0 h r.k0,r.pen.2.1,r.rp.mono (λb o=>?_) (λ_ _ _ e=>e) λ_ _ e=>e⟩
  have nf:¬tb.T.fp b:=λz=>o.2 (.inr z)
  refine⟨?_,nf⟩
  cases e0:H0 b with
  |none=>rfl
  |some u =>
   rw[(keep b u (E.k0 b u e0 nf) nf).1] at o
   cases o.1)
def M4{T:Pn}{tg iter:Expr}{body after:List Stmt}{pos:Pos}{ti:DI}{g:DG}{tb u:DS}(hp:PassesOwn (model X.prog X.w) X.A X.env X.xe)(hc:X.calm=true)(hi:WDI X tg iter ti)(hg:WDG X tg g)(hb:@j4 (pF T K sc ns) X body tb)(ha:WDSs X after u)(hs:zF X iter:=by intro _;rfl):@j4 (pF T K sc ns) X (.For tg iter body [] pos::after) (Dl.Gi (Jj ti g tb) u):=by
 letI:=pF T K sc ns
 exact Dl.dD (Dl.lA hp hc (anyI hi) (Q9 hg) hb hs) (PB ha)
end Wb
namespace Nf
open PySem PySem.W PyProof.Rows
def mq(tb:String->Option Builtin)(p:Program)(w:World)(m:Nat)(ann:Option Value):Nat->SharedT->Thread->Option SharedT
 |0,_,_=>none
 |n+1,s,t=>match through t with
  |true=>some s
  |false=>match stepOk m ann t with
   |false=>none
   |true=>match stepT (denote tb) p w s t with
    |none=>none
    |some r=>mq tb p w m ann n r.1 r.2
def pI{tb:String->Option Builtin}{p:Program}{w:World}{m:Nat}{ann:Option Value}:∀{n:Nat}{s s':SharedT}{t:Thread},mq tb p w m ann n s t=some s'->topRun tb p w m ann n s.abs t=some s'.abs
 |0,_,_,_,h=>by cases h
 |n+1,s,s',t,h=>by
  unfold mq at h
  unfold topRun
  cases he:through t with
  |true=>rw[he] at h;cases h;rfl
  |false =>
   rw[he] at h
   cases hk:stepOk m ann t with
   |false=>rw[hk] at h;cases h
   |true =>
    rw[hk] at h
    cases hs:stepT (denote tb) p w s t with
    |none=>rw[hs] at h;cases h
    |some r=>obtain⟨s2,t2⟩:=r;rw[hs] at h;rw[stepT_spec hs];exact pI h
def oV(P:Params):List DictEntry:=match (Ŧ P).data with|.dict es _=>es.toList|_=>[]
def fU(P:Params)(i:Nat):List DictEntry:=((oV P).drop i).take 16
def b0(P:Params):List DictEntry:=by
 refine(?f:(l:List DictEntry)->l=fU P 0->List DictEntry) ?l ?h
 case f=>exact λl _=>l
 case h=>unfold fU oV Ŧ;dsimp only[ů,Ś];exact rfl
def b1(P:Params):List DictEntry:=by
 refine(?f:(l:List DictEntry)->l=fU P 16->List DictEntry) ?l ?h
 case f=>exact λl _=>l
 case h=>unfold fU oV Ŧ;dsimp only[ů,Ś];exact rfl
def b2(P:Params):List DictEntry:=by
 refine(?f:(l:List DictEntry)->l=fU P 32->List DictEntry) ?l ?h
 case f=>exact λl _=>l
 case h=>unfold fU oV Ŧ;dsimp only[ů,Ś];exact rfl
def b3(P:Params):List DictEntry:=by
 refine(?f:(l:List DictEntry)->l=fU P 48->List DictEntry) ?l ?h
 case f=>exact λl _=>l
 case h=>unfold fU oV Ŧ;dsimp only[ů,Ś];exact rfl
def b4(P:Params):List DictEntry:=by
 refine(?f:(l:List DictEntry)->l=fU P 64->List DictEntry) ?l ?h
 case f=>exact λl _=>l
 case h=>unfold fU oV Ŧ;dsimp only[ů,Ś];exact rfl
def b5(P:Params):List DictEntry:=by
 refine(?f:(l:List DictEntry)->l=fU P 80->List DictEntry) ?l ?h
 case f=>exact λl _=>l
 case h=>unfold fU oV Ŧ;dsimp only[ů,Ś];exact rfl
def b6(P:Params):List DictEntry:=by
 refine(?f:(l:List DictEntry)->l=fU P 96->List DictEntry) ?l ?h
 case f=>exact λl _=>l
 case h=>unfold fU oV Ŧ;dsimp only[ů,Ś];exact rfl
def b7(P:Params):List DictEntry:=by
 refine(?f:(l:List DictEntry)->l=fU P 112->List DictEntry) ?l ?h
 case f=>exact λl _=>l
 case h=>unfold fU oV Ŧ;dsimp only[ů,Ś];exact rfl
def b8(P:Params):List DictEntry:=by
 refine(?f:(l:List DictEntry)->l=fU P 128->List DictEntry) ?l ?h
 case f=>exact λl _=>l
 case h=>unfold fU oV Ŧ;dsimp only[ů,Ś];exact rfl
def b9(P:Params):List DictEntry:=by
 refine(?f:(l:List DictEntry)->l=fU P 144->List DictEntry) ?l ?h
 case f=>exact λl _=>l
 case h=>unfold fU oV Ŧ;dsimp only[ů,Ś];exact rfl
def bo0(P:Params):Obj:={ cls:=.type "dict",data:=.dict ⟨b0 P++(b1 P++(b2 P++(b3 P++(b4 P++(b5 P++(b6 P++(b7 P++(b8 P++(b9 P)))))))))⟩ 159 }
def MF:Ŧ=bo0:=by funext P;kernel_rfl
def Gw(P:Params):Heap:={ objs:=⟨[bo0 P,boot_o_1 P,boot_o_2 P,boot_o_3 P,boot_o_4 P,boot_o_5 P,boot_o_6 P,boot_o_7 P,boot_o_8 P,boot_o_9 P,boot_o_10 P]⟩ }
def vf:Ŀ=Gw:=by
 funext P
 show Heap.mk ⟨Ŧ P::_⟩ _=_
 rw[MF]
 rfl
def vd(P:Params):BT:=((((((((((BT.nil.ins 0 (bo0 P)).ins 1 (boot_o_1 P)).ins 2 (boot_o_2 P)).ins 3 (boot_o_3 P)).ins 4 (boot_o_4 P)).ins 5 (boot_o_5 P)).ins 6 (boot_o_6 P)).ins 7 (boot_o_7 P)).ins 8 (boot_o_8 P)).ins 9 (boot_o_9 P)).ins 10 (boot_o_10 P)
def JQ:Life:={}
def Bb(P:Params):absHeap (vd P) 11 JQ=Ŀ P:=by rw[vf];kernel_rfl
def vM(w:World)(os:OsState):SharedT:=⟨vd w.params,11,JQ,#[],boot_drawn,boot_toks,os⟩
def zy(w:World)(os:OsState):(vM w os).abs=⟨Ŀ w.params,#[],boot_drawn,boot_toks,os⟩:=by
 unfold vM SharedT.abs
 dsimp only
 rw[Bb]
def xQ(P:Params):=((Ŀ P).isNs mainGlobals,(Ŀ P).objs.size,(Ŀ P).nsMap mainGlobals "__annotations__")
def vO:xQ=xQ:=rfl
end Nf
name_quick sizeQ for Nf.xQ by Nf.vO
namespace Nf
open PySem PySem.W PyProof.Rows
def Bc(w:World):((Ŀ w.params).isNs mainGlobals,(Ŀ w.params).objs.size,(Ŀ w.params).nsMap mainGlobals "__annotations__")=(true,11,some (.ref 6)):=by
 show xQ w.params=_
 rw[W.Fast.sizeQ_eq]
 kernel_rfl
def zM(p:Program)(N:Nat)(w:World)(os:OsState):=mq treeTable p w 11 (some (.ref 6)) N (vM w os) (topStub p)
def BZ(p q:Program)(Xt:Shared->Bool)(w:World)(s:Shared) :=
 (staticsOk (importedModules p.main.body) (Gw w.params) s.heap&&namesBound p s.heap&&gensDone s&&laidKept (Gw w.params) s.heap,openSeen q [] (importedModules p.main.body) Xt true s)
def Ij{p q:Program}{Xt:Shared->Bool}{β:Type}{Yf:Shared->List β}{Ya:World->List β}{N:Nat}(k:Nat)(open_:∀w:World,(fencedOpening treeTable p w N).map (λs=>(s.heap,s.gens,s.drawn,s.toks))=some (Ŀ w.params,Array.mk [],boot_drawn,boot_toks))(look:∀(w:World) (os:OsState),(zM p N w os).map (λs=>BZ p q Xt w s.abs)=some (true,openGood q []))(front:∀(w:World) (os:OsState),(zM p N w os).map (λs=>(Yf s.abs).take k)=some ((Ya w).take k))(back:∀(w:World) (os:OsState),(zM p N w os).map (λs=>(Yf s.abs).drop k)=some ((Ya w).drop k)):LeftO p q [] Xt Yf Ya N:=λw=>by
 obtain⟨⟨h,gs,d,j,os⟩,e,e'⟩:=ň.mp (open_ w)
 obtain⟨rfl,rfl,rfl,rfl⟩:h=Ŀ w.params/\gs=#[]/\d=boot_drawn/\j=boot_toks:=by simpa using e'
 obtain⟨z1,z2,z3⟩:_/\_/\_:=by simpa only[Prod.mk.injEq] using Bc w
 obtain⟨s,hs,l⟩:=ň.mp (look w os)
 have l4:(Yf s.abs).take k=(Ya w).take k:=by
  have:=front w os
  rw[hs] at this
  exact ß this
 have l5:(Yf s.abs).drop k=(Ya w).drop k:=by
  have:=back w os
  rw[hs] at this
  exact ß this
 have l3:Yf s.abs=Ya w:=by rw[←ķ k (Yf s.abs),l4,l5,ķ]
 unfold BZ at l
 rw[←vf] at l
 obtain⟨l1,l2⟩:=Prod.mk.inj l
 have r:=pI hs
 rw[zy] at r
 have t:topFrom treeTable p w N ⟨Ŀ w.params,#[],boot_drawn,boot_toks,os⟩=some s.abs:=by
  unfold topFrom
  dsimp only
  rw[z1,z2,z3,r]
  show(match staticsOk (importedModules p.main.body) (Ŀ w.params) s.abs.heap&&namesBound p s.abs.heap&&gensDone s.abs&&laidKept (Ŀ w.params) s.abs.heap with|true=>_|false=>_)=_
  rw[l1]
 unfold openEnds
 rw[e]
 show(topFrom treeTable p w N _).map _=_
 rw[t]
 exact congrArg some (Prod.ext l2 l3)
end Nf
namespace Nf
open PySem L2 PyProof.Rows Dl
def top(i:Nat):Stmt:=PySem.Challenge.pw_nofall_k45_whole_offers_changed.main.body.getD i (.Pass ⟨0,0,0,0⟩)
structure Proper(n:Int)(l:List Int):Prop where
 one:1<=l.length
 few:(l.length:Int)<n
 rng:∀x∈l,0<=x/\x<n
 rise:l.Pairwise (·<·)
 n16:n<=16
def JZ(ds:List D)(P:D->Prop):Prop:=∃l:List Int,ds=[.list (l.map Í)]/\l.length<=400/\P (.list ((l.dropLast.zip (l.drop 1)).map pD))
def toI:D->Int
 |.int i=>i
 |_=>0
def pN(l:List Int):Bool:=(l.dropLast.zip (l.drop 1)).all λt=>decide (t.1<t.2)
def Ci(m:Int):D->Bool
 |.list es=>es.all (dh m)&&pN (es.map toI)
 |_=>false
def O4(n:Int):D->Bool
 |.list es=>decide ((1:Int)<=(es.length:Nat))&&decide (((es.length:Nat):Int)<n)
 |_=>false
def qN(n:Int)(d:D):Bool:=Ci n d&&O4 n d
def Few(d:D):Prop:=∀es,d=.list es->es.length<=400
def sG(ds:List D)(P:D->Prop):Prop:=∃m d,ds=[.int m,d]/\Few d/\P (.bool (Ci m d))
def yQ(ds:List D)(P:D->Prop):Prop:=∃n d,ds=[.int n,d]/\Few d/\P (.bool (qN n d))
def FQ(ds:List D)(P:D->Prop):Prop:=∃n us l,ds=[aF n us,.list (l.map Í)]/\Proper n l/\P .none
def lv(l:List Int)(t:Tie):Bool:=decide (t.1∈l) != decide (t.2∈l)
def Pk(ds:List D)(P:D->Prop):Prop:=∃n us l,ds=[aF n us,.list (l.map Í)]/\Proper n l/\us.length<=100/\P (.list ((us.filter (lv l)).map pD))
def uY(ds:List D)(P:D->Prop):Prop:=∃n us l,ds=[aF n us,.list (l.map Í)]/\Proper n l/\us.length<=100/\P (.int ((us.filter (lv l)).length:Nat))
def JX(ds:List D)(P:D->Prop):Prop:=∃n us l fa,ds=[aF n us,.int fa,.list (l.map Í)]/\Proper n l/\us.length<=100/\P (.int (if 0 > fa+1 - ((us.filter (lv l)).length:Nat) then 0 else fa+1 - ((us.filter (lv l)).length:Nat)))
def pZ{l:List Int}(h:l.Pairwise (·<·)):∀t∈l.dropLast.zip (l.drop 1),t.1<t.2:=by
 intro t ht
 obtain⟨i,hi,e⟩:=ī.mp ht
 have h1:i<l.length - 1:=by
  rw[ũ,List.length_dropLast,ċ] at hi
  omega
 rw[List.getElem_zip] at e
 have e1:l.dropLast[i]'(by rw[List.length_dropLast];exact h1)=l[i]:=List.getElem_dropLast _
 have e2:(l.drop 1)[i]'(by rw[ċ];exact h1)=l[1+i]:=List.getElem_drop
 rw[←e]
 simp only[e1,e2]
 exact(Ŝ.mp h) i (1+i) (by omega) (by omega) (by omega)
def Bd{n:Int}{d:D}(h:dh n d=true):∃i:Int,d=.int i:=by
 cases d with
 |int i=>exact⟨i,rfl⟩
 |_=>cases h
def yZ(d:D):aG d=.im d\/aG d=.sh d:=by
 unfold aG
 by_cases h:cQ d=true
 ·rw[if_pos h];exact .inl rfl
 ·rw[if_neg h];exact .inr rfl
def ints_of{n:Int}:∀{es:List D},es.all (dh n)=true->es=(es.map toI).map Í
 |[],_=>rfl
 |d::es,h=>by
  rw[List.all_cons,Ý] at h
  obtain⟨i,rfl⟩:=Bd h.1
  have:=ints_of h.2
  rw[ë,ë,←this]
  rfl
def qF(l:List Int):(l.map Í).map toI=l:=by rw[î];exact List.map_id' l
def vQ{n:Int}{l:List Int}(h:Proper n l):qN n (.list (l.map Í))=true:=by
 have h1:=h.one
 have h2:=h.few
 have e1:(l.map Í).all (dh n)=true:=Č.mpr λd hd=>by
  obtain⟨x,hx,rfl⟩:=ą.mp hd
  exact decide_eq_true (h.rng x hx)
 have e2:pN l=true:=Č.mpr λt ht=>decide_eq_true (pZ h.rise t ht)
 show(((l.map Í).all (dh n)&&pN ((l.map Í).map toI))&&(decide ((1:Int)<=((l.map Í).length:Nat))&&decide ((((l.map Í).length:Nat):Int)<n)))=true
 rw[e1,qF,e2,Á,decide_eq_true (show(1:Int)<=(l.length:Nat) by omega),decide_eq_true h2]
 rfl
def Fv{l:List Int}(h:l.length<=400):Few (.list (l.map Í)):=λes e=>by
 injection e with e
 rw[←e,Á]
 exact h
def eV{α:Type}(l:List α):dg l none (some (-1))=l.dropLast:=by
 unfold dg
 have e1:HT.sIx l.length 0 none=0:=rfl
 have e2:HT.sIx l.length l.length (some (-1))=l.length - 1:=by
  have e:HT.sIx l.length l.length (some (-1))=((-1:Int)+(l.length:Int)).toNat:=rfl
  rw[e]
  omega
 rw[e1,e2,List.drop_zero,Nat.sub_zero,List.dropLast_eq_take]
def jX{α:Type}(l:List α):dg l (some 1) none=l.drop 1:=by
 unfold dg
 have e1:HT.sIx l.length l.length none=l.length:=rfl
 have e2:HT.sIx l.length 0 (some 1)=min 1 l.length:=HT.mH l.length 0 1
 rw[e1,e2]
 rw[Ģ (by rw[ċ];omega)]
 by_cases h:1<=l.length
 ·rw[Nat.min_eq_left h]
 ·have:l=[]:=List.length_eq_zero_iff.mp (by omega)
  subst this
  rfl
def tG(a b:List Int):((a.map Í).zip (b.map Í)).map prD=(a.zip b).map pD:=by
 rw[List.zip_map,î]
 rfl
section
variable {P:Program}{w:World}{K:Ø}{mg:Str->Option Value}{base:Heap}{f:Addr}{fd:FuncData}
def sc4:FnScope ["thing"] ["thing"] (aj (top 5)):=zC
def Du(F:Fun K "is_whole" "is_whole" (top 5) f fd)(B:Ļ mg):FnOk P w K mg base CX0 1 f fd ["thing"] (spD wR):=by
 refine F.ok sc4 ĩ (λcdv A outer s H vs Q E hr h=>?_)
 refine⟨_,bA (bM (cX (cO Io B.isinstance (dv 0) (mQ (v:=.ty "int") rfl B.int boot_int rfl)) (dR (KZ (cO Fd B.isinstance (dv 0) (mQ (v:=.ty "bool") rfl B.bool boot_bool rfl)))))),sH h ?_⟩
 rintro ds P ⟨d,rfl,q⟩
 unfold Gj lF tIs
 refine Bw (d:=d) rfl λk=>?_
 cases d <;> exact⟨rfl,q⟩
def sc5:FnScope ["limit","thing"] ["limit","thing"] (aj (top 6)):=zC
def Dz(F:Fun K "is_below" "is_below" (top 6) f fd)(W:è P w K mg base 1 "is_whole" ["thing"] (spD wR)):FnOk P w K mg base CX0 2 f fd ["limit","thing"] (spD wU):=by
 refine F.ok sc5 ĩ (λcdv A outer s H vs Q E hr h=>?_)
 refine⟨_,bA (bM (cX (dc W hr (au (dv 1) aL)) (dR (yp bI (dv 1) (dv 0))))),sH h ?_⟩
 rintro ds P ⟨m,d,rfl,q⟩
 unfold Gj lF tFn iI
 refine Bw (d:=d) rfl λk=>⟨d,rfl,?_⟩
 cases d with
 |int i =>
  have e:P (.bool (decide (0<=i/\i<m))):=q
  by_cases h0:(0:Int)<=i
  ·show if decide ((0:Int)<=i)=true then _ else _
   rw[decide_eq_true h0]
   refine bf (B:=True) ⟨rfl,?_⟩
   have e2:decide (0<=i/\i<m)=decide (i<m):=by simp[h0]
   rw[e2] at e
   exact e
  ·show if decide ((0:Int)<=i)=true then _ else _
   rw[decide_eq_false h0]
   refine bw (A:=True) ⟨rfl,?_⟩
   have e2:decide (0<=i/\i<m)=false:=by simp[h0]
   rw[e2] at e
   exact e
 |_=>exact⟨rfl,q⟩
def sc7:FnScope ["places"] ["places"] (aj (top 10)):=zC
def HB(F:Fun K "hops" "hops" (top 10) f fd)(B:Ļ mg)(mz:mg "zip"=none):FnOk P w K mg base CX0 1 f fd ["places"] (spD JZ):=by
 refine F.ok sc7 ĩ (λcdv A outer s H vs Q E hr h=>?_)
 refine⟨_,bA (bM (wg rfl B.list mz (au (vY (dv 0) bZ (bY (K1 bI))) (au (vY (dv 0) (bY bI) bZ) aL)))),sH h ?_⟩
 rintro ds P ⟨l,rfl,hl,q⟩
 refine .inl ⟨?_,.inl ⟨?_,?_,.inl ⟨?_,rfl,?_⟩⟩⟩
 ·show cM (dg (l.map Í) none (some (-1)))=true
  rw[eV,←List.map_dropLast]
  exact jO _
 ·show cM (dg (l.map Í) (some 1) none)=true
  rw[jX,←List.map_drop]
  exact jO _
 ·show(dg (l.map Í) none (some (-1))).length<=1000
  rw[eV,List.length_dropLast,Á]
  omega
 ·show cM _=true
  rw[eV,jX,←List.map_dropLast,←List.map_drop,tG]
  exact kO _
 ·show P _
  rw[eV,jX,←List.map_dropLast,←List.map_drop,tG]
  exact q
end
def OkT(n:Int)(t:Tie):Prop:=(0<=t.1/\t.1<n)/\(0<=t.2/\t.2<n)/\t.1≠t.2
def OkN(n:Int)(us:List Tie):Prop:=∀t∈us,OkT n t
def mmT(t:Tie):Tie:=(if t.2<t.1 then t.2 else t.1,if t.2 > t.1 then t.2 else t.1)
def FJ(ds:List D)(P:D->Prop):Prop:=∃n t,ds=[.int n,pD t]/\OkT n t/\P (.bool true)
section
variable {P:Program}{w:World}{K:Ø}{mg:Str->Option Value}{base:Heap}{f:Addr}{fd:FuncData}{CN:Addr}
def pL:FnScope ["n","thing"] ["n","thing"] (aj (top 7)):=zC
def zY(F:Fun K "is_tie" "is_tie" (top 7) f fd)(B:Ļ mg)(C_is_below:è P w K mg base 2 "is_below" ["limit","thing"] (spD wU)):FnOk P w K mg base CX0 3 f fd ["n","thing"] (spD FJ):=by
 refine F.ok pL ĩ (λcdv A outer s H vs Q E hr h=>?_)
 have nd:=pL.nd
 refine⟨_,Ŋ (Ď (Ū (Wr.wpt (Wr.eZ (Wr.dz (Wr.bV (Wr.cO kit_tuple B.isinstance (Ê 1) (Wr.wty rfl B.tuple boot_tuple)))) (Wr.eH (Wr.dB hr.units (Ų B.len (À (Ê 1) Â)) Æ)))) (í (ö Wr.gF)) ò)
  (í (ö (Wr.cX (ō C_is_below hr (À (Ê 0) (À (þ (Ê 1) Æ) Â))) (Wr.cX (ō C_is_below hr (À (Ê 0) (À (þ (Ê 1) Æ) Â))) (Wr.dR (Wr.vZ hr.units (þ (Ê 1) Æ) (þ (Ê 1) Æ)))))))),bC h ?_⟩
 rintro ds P ⟨n,t,rfl,ok,q⟩
 refine⟨[.im (.int n),.im (pD t)],rfl,?_⟩
 obtain⟨⟨o1,o2⟩,⟨o3,o4⟩,o5⟩:=ok
 refine bw (A:=True) (bw (A:=True) ?_)
 refine⟨.int t.1,rfl,n,.int t.1,rfl,?_⟩
 show if decide (0<=t.1/\t.1<n)=true then _ else _
 rw[decide_eq_true ⟨o1,o2⟩]
 refine bf (B:=True) ⟨.int t.2,rfl,n,.int t.2,rfl,?_⟩
 show if decide (0<=t.2/\t.2<n)=true then _ else _
 rw[decide_eq_true ⟨o3,o4⟩]
 refine bf (B:=True) ⟨.int t.1,rfl,.int t.2,rfl,rfl,?_⟩
 show P (.bool (!decide (t.1=t.2)))
 rw[decide_eq_false o5]
 exact q
end
def oU(ds:List D)(P:D->Prop):Prop:=∃m:Int,ds=[.int m]/\0<m/\m<1267650600228229401496703205376/\∀r:Int,0<=r->r<m->P (.int r)
def pU{x m:Int}(hm:0<m)(hb:m<=2 ^ 32):-(2 ^ 64)<x % m/\x % m<2 ^ 64:=by
 have h1:=Int.emod_nonneg x (b:=m) (by omega)
 have h2:=Ű x hm
 omega
def PSs.wk{X:Cx}{ss:List Stmt}{t t':TS}(h:PSs X ss t)(w:∀D σ H,t' D σ H->t D σ H):PSs X ss t':=λpins s σ H D I q=>h pins s σ H D I (w D σ H q)
def tDr(p:Addr):TS:=λD σ H=>∃(a2 a3:Option V) (m a b c:Int),σ=[some (.ref p),some (.int m),a2,a3]/\0<m/\H p=some (.lst [.int a,.int b,.int c])/\0<=c/\c<=1152921504606846976/\∀r':Int,0<=r'->r'<m->D.rt (.int r') H
def Jf{i:Int}{ns:List Int}(h:(0:Int)<((ns.map Ÿ).length:Nat)):∃v:Int,atI (ns.map Ÿ) (i % (((ns.map Ÿ).length:Nat):Int))=some (.int v):=by
 rw[Á] at h ⊢
 have h1:=Int.emod_nonneg i (b:=(ns.length:Int)) (by omega)
 have h2:=Ű i h
 have hk:(i % (ns.length:Int)).toNat<ns.length:=by omega
 have ek:i % (ns.length:Int)=(((i % (ns.length:Int)).toNat:Nat):Int):=by omega
 have q:atI (ns.map Ÿ) (((i % (ns.length:Int)).toNat:Nat):Int)=some (.int ns[(i % (ns.length:Int)).toNat]):=eX (by rw[Þ,Ä hk];rfl)
 rw[←ek] at q
 exact⟨_,q⟩
def Qd{k:Int}{ns:List Int}(h0:0<=k)(h:k<((ns.map Ÿ).length:Nat)):∃v:Int,atI (ns.map Ÿ) k=some (.int v):=by
 rw[Á] at h
 have hk:k.toNat<ns.length:=by omega
 have ek:k=((k.toNat:Nat):Int):=by omega
 have q:atI (ns.map Ÿ) ((k.toNat:Nat):Int)=some (.int ns[k.toNat]):=eX (by rw[Þ,Ä hk];rfl)
 rw[←ek] at q
 exact⟨_,q⟩
def Ni:TS:=λD σ H=>∃(a0:Option V) (k cell:Int),σ=[a0,some (.int k),some (.int cell)]/\∀l a b,H l=none->D.rt (.ref l) (upd H l (.lst [.int a,.int b,.int 0]))
def Oe(ds:List D):Prop:=∃k:Int,ds=[.int k]/\0<=k/\k<1000
structure IsOrd(n:Int)(l:List Int):Prop where
 len:(l.length:Int)=n
 rng:∀x∈l,0<=x/\x<n
 nd:l.Nodup
def Fy(ds:List D)(P:D->Prop):Prop:=∃n:Int,ds=[.int n]/\1<=n/\n<=16/\∀l,IsOrd n l->P (.list (l.map Í))
def jA{H:Hp}{a:Addr}(h:H a=none)(o:HO):Same H (upd H a o):=λb u q=>by rw[ak (aD q h)];exact q
def Ce(n:Int):lW 0 n=((ä n.toNat).map λi=>((i:Nat):Int)).map Ÿ:=by
 unfold lW
 rw[î,Int.sub_zero]
 exact List.map_congr_left λi _=>by simp
def Ny{r:Int}{k:Nat}(h0:0<=r)(h1:r<k):seqIndex? r k=some r.toNat:=(rY (n:=k) (i:=r) (j:=r.toNat) (by unfold ixN;rw[if_pos h0,if_pos h1])).1
def jM{α β:Type}(g:α->β):∀(l:List α) (i:Nat),(l.map g).eraseIdx i=(l.eraseIdx i).map g
 |[],_=>by simp
 |_::_,0=>by simp
 |x::l,i+1=>by simp[jM g l i]
def ux{α:Type}:∀(l:List α) (i:Nat) (x:α),l[i]?=some x->(x::l.eraseIdx i).Perm l
 |y::l,0,x,h=>by
  cases h
  exact .refl _
 |y::l,i+1,x,h=>by
  rw[List.eraseIdx_cons_succ]
  exact(List.Perm.swap _ _ _).trans ((ux l i x h).cons y)
section
variable {P:Program}{w:World}{K:Ø}{mg:Str->Option Value}{base:Heap}{f:Addr}{fd:FuncData}
def xT:FnScope ["_law_pen_here","_law_many","_law_found","_law_number"] ["_law_pen_here","_law_many"] (aj (top 35)):=zC
def HD(F:Fun K "_law_draw" "_law_draw" (top 35) f fd)(B:Ļ mg):FnOk P w K mg base CX0 1 f fd ["_law_pen_here","_law_many"] (cU 1 oU):=by
 refine F.ok xT fK (λcdv A outer s H vs Q E hr h=>?_)
 obtain⟨p,n,vs',ds,P,rfl,⟨⟨a,b,c,hp,c0,c1⟩,_⟩,rp,⟨m,rfl,m0,m30,hP⟩,q⟩:=h
 obtain rfl:vs'=[.int m]:=by
  cases rp with
  |cons h1 t=>cases h1;cases t;rfl
 have nd:=xT.nd
 have c1:c+1+(n:Int)<=1152921504606846976:=by omega
 refine⟨_,Ż (pO (iR uD (eG bO (pv 0) ē (λ_ _=>rfl)) ē (aY _))
   (Ż (cW (i:=2) nd rfl (Ň rfl) (aO dX (eG bO (pv 0) ē (λ_ _=>rfl)) (pv 1)))
   (Ż (CG (aO Ds (eG bO (pv 0) ē (λ_ _=>rfl)) (pv 1)) (CQ (pv 0) ē set_list))
   (cT (jh (pv 2))))) mK)
  (Ż (CG (aO cY (eG bO (pv 0) ē (λ_ _=>rfl)) ē) (CQ (pv 0) ē set_list))
  (PSs.wk (t':=tDr p) (Ż (cW (i:=3) nd rfl (Ň rfl) (aO dX (aO cY (aO cY (aO cD (eG bO (pv 0) ē (λ_ _=>rfl)) ē) (aO cD (aO cD ē (eG bO (pv 0) ē (λ_ _=>rfl))) (eG bO (pv 0) ē (λ_ _=>rfl)))) ē) ē))
  (Ż (cW (i:=3) nd rfl (Ň rfl) (aO dX (aO cD (pv 3) (aO cY (aO dX (pv 3) ē) (eG bO (pv 0) ē (λ_ _=>rfl)))) ē))
  (cT (jh (aO dX (aO yu (aO dX (aO cY (aO cD (pv 3) (pv 3)) (aO cD ē (eG bO (pv 0) ē (λ_ _=>rfl)))) ē) ē) (pv 1)))))) ?dr)),?_⟩
 case dr =>
  rintro D σ H' ⟨a2,a3,m,a,b,c,rfl,m0,hp,c0,c1,hq⟩
  have md:∀x:Int,0<=x % m/\x % m<m:=λx=>⟨Int.emod_nonneg _ (by omega),Ű _ m0⟩
  have cs:-(2 ^ 64)<c/\c<2 ^ 64:=⟨by omega,by omega⟩
  refine⟨_,rfl,p,_,_,_,rfl,rfl,SqL.of hp,rfl,_,_,rfl,rfl,.inr ⟨by decide,by decide⟩,_,rfl,p,_,_,_,rfl,rfl,SqL.of hp,rfl,_,_,rfl,rfl,.inl ⟨by decide,by decide⟩,_,rfl,p,_,_,_,rfl,rfl,SqL.of hp,rfl,_,_,rfl,rfl,.inr cs,_,_,rfl,rfl,_,_,rfl,rfl,_,_,rfl,rfl,(by show(0:Int)<2147483647;decide),?_⟩
  refine⟨_,rfl,_,rfl,_,_,rfl,rfl,(by show(0:Int)<65521;decide),_,rfl,p,_,_,_,rfl,rfl,SqL.of hp,rfl,_,_,rfl,rfl,_,_,rfl,rfl,.inl (pU (by decide) (by decide)),_,_,rfl,rfl,(by show(0:Int)<2147483629;decide),?_⟩
  refine⟨_,rfl,_,rfl,_,_,rfl,rfl,.inl (pU (by decide) (by decide)),_,rfl,p,_,_,_,rfl,rfl,SqL.of hp,rfl,_,_,rfl,rfl,.inl ⟨by decide,by decide⟩,_,_,rfl,rfl,_,_,rfl,rfl,(by show(0:Int)<2147483587;decide),_,_,rfl,rfl,⟨by decide,by decide⟩,_,rfl,_,_,rfl,rfl,m0,hq _ (md _).1 (md _).2⟩
 have md:∀x:Int,0<=x % m/\x % m<m:=λx=>⟨Int.emod_nonneg _ (by omega),Ű _ m0⟩
 have fin:∀(H':Hp) (r x:Int) (c':Int),0<=r->r<m->(∀b o,H b=some o->b≠p->H' b=some o)->H' p=some (.lst [.int x,.int b,.int c'])->0<=c'->c'+(n:Int)<=1152921504606846976->Q (.int r) H':=λH' r x c' h1 h2 k e e0 e1 =>
  q _ _ _ (hP r h1 h2) (λb o e n=>k b o e λz=>n (.inl z)) ⟨⟨x,b,c',e,e0,e1⟩,trivial,λz=>z⟩ (.int r)
 have kU:∀(H1:Hp) (o:HO),(∀b o,H b=some o->b≠p->H1 b=some o)->∀b u,H b=some u->b≠p->upd H1 p o b=some u:=λH1 o k b u e n=>by rw[ak n];exact k b u e n
 refine⟨_,rfl,p,_,_,_,rfl,rfl,SqL.of hp,rfl,_,_,rfl,rfl,_,rfl,d7 (λz=>?_) (λz=>?_)⟩
 ·exact⟨_,rfl,p,_,_,_,rfl,rfl,SqL.of hp,rfl,_,rfl,_,_,rfl,rfl,m0,_,rfl,p,_,_,_,rfl,rfl,SqL.of hp,rfl,_,rfl,_,_,rfl,rfl,⟨m0,m30⟩,_,rfl,p,_,_,_,rfl,rfl,hp,rfl,_,rfl,fin _ _ _ c (md _).1 (md _).2 (kU _ _ λb o e _=>e) ao c0 (by omega)⟩
 ·refine⟨_,rfl,p,_,_,_,rfl,rfl,SqL.of hp,rfl,_,_,rfl,rfl,_,rfl,p,_,_,_,rfl,rfl,hp,rfl,?_⟩
  exact⟨_,_,m,a,b,c+1,rfl,m0,ao,by omega,by omega,λr' h1 h2=>fin _ _ _ (c+1) h1 h2 (kU _ _ λb o e _=>e) ao (by omega) c1⟩
def NP:FnScope ["_law_script","_law_k","_law_cell"] ["_law_script","_law_k"] (aj (top 34)):=zC
def Le(F:Fun K "_law_pen" "_law_pen" (top 34) f fd)(B:Ļ mg):FnOk P w K mg base CX0 1 f fd ["_law_script","_law_k"] (Wb.G3 K Oe):=by
 refine F.ok NP (λvs H Q E h=>?_) (λcdv A outer s H vs Q E hr h=>?_)
 ·obtain⟨sc,ns,vs',ds,rfl,_,rs,⟨k,rfl,_⟩,_⟩:=h
  rw[ð,rs.length]
  rfl
 obtain⟨sc,ns,vs',ds,rfl,hS,rs,⟨k,rfl,k0,k9⟩,q⟩:=h
 have e:vs'=[.int k]:=Rps.ints (ns:=[k]) rs
 subst e
 have nd:=NP.nd
 refine⟨_,Ż (cW (i:=2) nd rfl (Ň rfl) (aO cY (aO cY (aO cD (aO cD ē (pv 1)) (pv 1)) (aO cD ē (pv 1))) ē))
  (Ż (pO (iR yt (pv 1) (dN cI rfl B.len PySem.boot_len (ŕ (pv 0) bR)) (aY _))
   (cT (cW (i:=2) nd rfl (Ň rfl) (eG bO (pv 0) (pv 1) (λ_ _=>rfl))))
   (cT (pO (iR uD (dN cI rfl B.len PySem.boot_len (ŕ (pv 0) bR)) ē (aY _))
    (cT (cW (i:=2) nd rfl (Ň rfl) (aO cY (aO cD (aO dX (eG bO (pv 0) (aO dX (pv 1) (dN cI rfl B.len PySem.boot_len (ŕ (pv 0) bR))) (λ_ _=>rfl)) ē) ē) (aO cD ē (pv 1))))) mK)))
  (PSs.wk (t':=Ni) (Ż (pO (iR Jx (pv 2) (aO Dk ē ē) (aY _))
   (cT (jh (qO (ŕ (pv 2) (ŕ ē (ŕ ē bR)))))) mK)
  (cT (jh (qO (ŕ ē (ŕ (aO cY (aO dX (pv 2) ē) (aO cD ē (pv 1))) (ŕ ē bR))))))) ?pen)),?_⟩
 case pen =>
  rintro D σ H' ⟨a0,k,cell,rfl,hq⟩
  refine⟨_,rfl,_,_,rfl,rfl,⟨by decide,by decide,by decide⟩,_,_,rfl,rfl,_,rfl,d7 (λc1=>?_) (λc1=>?_)⟩
  ·exact⟨_,rfl,by show 3<=sizeLine;decide,λl hl=>hq l _ _ hl⟩
  ·exact⟨_,rfl,_,_,rfl,rfl,(by show(0:Int)<2147483587;decide),_,rfl,_,_,rfl,rfl,.inl ⟨by decide,by decide⟩,_,_,rfl,rfl,by show 3<=sizeLine;decide,λl hl=>hq l _ _ hl⟩
 have fin:∀cell:Int,Ni { nx:=λ_ H'=>Q .non H',rt:=Q } [some (.ref sc),some (.int k),some (.int cell)] H:=λcell=>⟨_,k,cell,rfl,λl a b hl=>q l _ ⟨⟨a,b,0,ao,by decide,by decide⟩,trivial,λz=>z⟩ (jA hl _) hl⟩
 refine⟨_,rfl,_,_,rfl,rfl,.inl ⟨by decide,by decide⟩,_,rfl,_,_,rfl,rfl,.inr ⟨by omega,by omega⟩,_,rfl,_,_,rfl,rfl,.inl ⟨by decide,by decide⟩,_,_,rfl,rfl,_,_,rfl,rfl,?_⟩
 refine⟨_,rfl,_,rfl,sc,_,rfl,.inl hS,_,_,rfl,rfl,_,rfl,d7 (λc1=>?_) (λc1=>?_)⟩
 ·obtain⟨v,hv⟩:=Qd k0 (of_decide_eq_true c1)
  exact⟨_,rfl,_,rfl,sc,_,_,_,rfl,rfl,hS,hv,fin v⟩
 ·refine⟨_,rfl,sc,_,rfl,.inl hS,_,_,rfl,rfl,_,rfl,d7 (λc2=>?_) (λc2=>fin _)⟩
  have c2:=of_decide_eq_true c2
  obtain⟨v,hv⟩:=Jf (i:=k) c2
  exact⟨_,rfl,_,rfl,_,rfl,sc,_,rfl,.inl hS,_,_,rfl,rfl,c2,sc,_,_,_,rfl,rfl,hS,hv,_,_,rfl,rfl,(by show(0:Int)<2147483629;decide),_,_,rfl,rfl,.inr ⟨by decide,by decide⟩,_,rfl,_,_,rfl,rfl,.inl ⟨by decide,by decide⟩,_,_,rfl,rfl,fin _⟩
def uo:FnScope ["_law_pen_here","_law_n","_law_left"] ["_law_pen_here","_law_n"] (aj (top 37)):=zC
def Ed:(["_law_k","_law_pen_here","_law_n","_law_left"]:List Str).Nodup:=by decide +kernel
def Dv(F:Fun K "_law_turned" "_law_turned" (top 37) f fd)(B:Ļ mg)(T:è P w K mg base 1 "_law_draw" ["_law_pen_here","_law_many"] (cU 1 oU)):FnOk P w K mg base CX0 2 f fd ["_law_pen_here","_law_n"] (cU 16 Fy):=by
 refine F.ok uo fK (λcdv A outer s H vs Q E hr h=>?_)
 obtain⟨pa,n0,vs',ds,P,rfl,pi0,rp,⟨n,rfl,n1,n16,hP⟩,q0⟩:=h
 have pi:(aq pa n0).PI H:=aB pi0 (by omega)
 obtain rfl:vs'=[.int n]:=by
  cases rp with
  |cons h1 t=>cases h1;cases t;rfl
 have nd:=uo.nd
 refine⟨_,Ż (cW (i:=2) nd rfl (Or.inr rfl) (fG (jg rfl) rfl B.list boot_list (ŕ (fG qm rfl B.range boot_range (ŕ (pv 1) bR)) bR)))
  (cT (jh (CV ["_law_k"] rfl (kE rfl B.range (ŕ (pv 1) bR)) (λc=>eF (i:=0) Ed rfl (Ň rfl)) (λc=>yd)
   (λc=>yh ŧ PySem.F.slot_list_pop PySem.F.type_list_pop Eh (pv 3) (ŕ (pcS T hr (ŕ (pv 1) (ŕ (dN cI rfl B.len PySem.boot_len (ŕ (pv 3) bR)) bR)) (by decide) rfl (by decide) rfl rfl) bR))))),?_⟩
 refine⟨_,rfl,n,rfl,λr hr1=>?_⟩
 refine⟨r,0,n,rfl,ao,⟨by omega,by omega,by omega,by omega⟩,λL hL=>?_⟩
 have a1:=jA hr1 (.rng 0 n)
 have a2:=jA hL (.lst (lW 0 n))
 have a12:Same H (upd (upd H r (.rng 0 n)) L (.lst (lW 0 n))):=λb o e=>a2 b o (a1 b o e)
 have hHL:H L=none:=by
  cases e:H L with
  |none=>rfl
  |some o=>rw[a1 _ _ e] at hL;cases hL
 have nfp:∀a,H a=none->¬(aq pa n0).fp a:=λa ha z=>by
  obtain⟨o,e,_⟩:=(aq pa n0).is H a pi z
  rw[ha] at e;cases e
 have hLp:=nfp L hHL
 refine⟨_,rfl,n,rfl,by omega,by omega,Lw (lo:=0) (k:=n.toNat) (by omega) (λi ys H'=>∃out rem:List Int,ys=out.map Ÿ/\H' L=some (.lst (rem.map Ÿ))/\(out++rem).Perm ((ä n.toNat).map λi=>((i:Nat):Int))/\out.length=i/\Dl.Kp (aq pa n0) H H'/\(aq pa (n0+(n.toNat - i))).PI H')
  ⟨[],_,rfl,by rw[ao,Ce],List.Perm.refl _,rfl,λb o e _=>a12 b o e,(aq pa (n0+(n.toNat - 0))).mono H _ (aB pi0 (by omega)) λb o _ e=>a12 b o e⟩ ?_ ?_ ?_⟩
 ·rintro i ys H' ⟨out,rem,rfl,_,_,e,_⟩
  rw[Á,e]
  exact Å _
 ·rintro c i ys H' hi ⟨out,rem,rfl,hL',hperm,ho,k,pi'⟩
  have hlen:out.length+rem.length=n.toNat:=by have:=hperm.length_eq;simpa using this
  have hm:((rem.map Ÿ).length:Int)=rem.length:=by rw[Á]
  refine bf (B:=True) ⟨_,rfl,.inl ⟨rfl,_,SqL.of hL'⟩,_,rfl,_,rfl,L,_,rfl,.inl (SqL.of hL'),pa,n0+(n.toNat - (i+1)),_,[.int ((rem.map Ÿ).length:Nat)],(λd=>∃y:Int,0<=y/\y<((rem.map Ÿ).length:Nat)/\d=.int y),rfl,aB pi' (by omega),.cons (.int _) .nil,⟨_,rfl,by rw[hm];omega,by rw[hm];omega,λx x0 x1=>⟨x,x0,x1,rfl⟩⟩,?_⟩
  rintro d v H2 ⟨x,x0,x1,rfl⟩ k2 pi2 rv
  have ev:=Rp.int' rv
  subst ev
  rw[hm] at x1
  have hL2:H2 L=some (.lst (rem.map Ÿ)):=k2 _ _ hL' hLp
  have hx:x.toNat<rem.length:=by omega
  refine⟨L,_,x,x.toNat,.int rem[x.toNat],rfl,rfl,hL2,by omega,by omega,by rw[Á];exact Ny x0 x1,by rw[Þ,Ä hx];rfl,?_⟩
  refine⟨out++[rem[x.toNat]],rem.eraseIdx x.toNat,by rw[â];rfl,by rw[ao,jM],?_,by rw[È,ho];rfl,λb o e nb=>?_,(aq pa (n0+(n.toNat - (i+1)))).mono H2 _ pi2 λb o z e=>?_⟩
  ·rw[ď]
   exact((ux rem x.toNat _ (Ä hx)).append_left out).trans hperm
  ·rw[ak (λz=>by rw[z,hHL] at e;cases e)]
   exact k2 b o (k b o e nb) nb
  ·rw[ak (show b≠L from λy=>z.elim (λz=>hLp (y ▸ z)) λ⟨_,_,v⟩=>by rw[y,hL2,v] at e;cases e)]
   exact e
 ·rintro ys H' ⟨out,rem,rfl,hL',hperm,ho,k,pi'⟩ a ha
  have hlen:out.length+rem.length=n.toNat:=by have:=hperm.length_eq;simpa using this
  have hrem:rem=[]:=List.eq_nil_of_length_eq_zero (by omega)
  subst hrem
  rw[õ] at hperm
  have nfa:¬(aq pa n0).fp a:=λz=>by
   obtain⟨o,e,_⟩:=(aq pa n0).is H' a (aB pi' (by omega)) z
   rw[ha] at e;cases e
  have hHa:H a=none:=by
   cases e:H a with
   |none=>rfl
   |some o=>rw[k a o e nfa] at ha;cases ha
  have sm:=jA ha (.lst (out.map Ÿ))
  refine q0 _ _ _ (hP out ⟨by omega,λx hx=>?_,?_⟩) (λb o e nb=>sm b o (k b o e nb)) ((aq pa n0).mono H' _ (aB pi' (by omega)) λb o _ e=>sm b o e) (.lst hHa ao (Rps.ofMap (λi=>.int i) out))
  ·have:=hperm.mem_iff.mp hx
   obtain⟨i,hi,rfl⟩:=ą.mp this
   have:=Ŷ.mp hi
   omega
  ·refine hperm.nodup_iff.mpr ?_
   exact(List.nodup_range (n:=n.toNat)).map (λi=>((i:Nat):Int)) λi j hij h=>hij (by omega)
end
def OkB(n:Int)(us:List Tie):Prop:=∀t∈us,0<=t.1/\t.1<t.2/\t.2<n
def OkB.app{n:Int}{us vs:List Tie}(a:OkB n us)(b:OkB n vs):OkB n (us++vs):=λt ht=>(Ù.mp ht).elim (a t) (b t)
def OkB.one{n:Int}{t:Tie}(h:0<=t.1/\t.1<t.2/\t.2<n):OkB n [t]:=λu hu=>by
 rw[Ë.mp hu]
 exact h
def Fx(ds:List D)(P:D->Prop):Prop:=∃n pick:Int,ds=[.int n,.int pick]/\1<=n/\n<=8/\∀us:List Tie,us.length<=28->OkB n us->P (.list (us.map pD))
def Bt{i:Nat}(h:i<=7):i * (i+1)<=56:=ï (Nat.mul_le_mul h (Nat.add_le_add_right h 1)) (by decide)
def M6(i:Nat):(i+1) * (i+1+1)=i * (i+1)+2 * (i+1):=by
 have:=Nat.mul_add (i+1) i 2
 rw[Nat.mul_comm i (i+1),Nat.mul_comm 2 (i+1)]
 exact this
def RP(n pick ring:Int)(us:List Tie)(s5 s6:Sl):List Sl:=[.pen TP,.im (.int n),.im (.int pick),.dw 0 (.list (us.map pD)),.im (.int ring),s5,s6]
def Tot(c:Prop)(t:DT)(ρ:List Sl):Prop:=∀R:Bool->Prop,(∀b:Bool,(b=true->c)->R b)->t ρ R
def Tot.and{c:Prop}{t u:DT}{ρ:List Sl}(a:Tot c t ρ)(b:Tot True u ρ):Tot c (Gm t u) ρ:=λR h=>a _ λx hx=>by
 cases x with
 |true=>exact bf (b R λy _=>h y λ_=>hx rfl)
 |false=>exact bw (h false λz=>nomatch z)
def Tot.or{c:Prop}{t u:DT}{ρ:List Sl}(a:Tot c t ρ)(b:Tot c u ρ):Tot c (dOr t u) ρ:=λR h=>a _ λx hx=>by
 cases x with
 |true=>exact bf (h true λ_=>hx rfl)
 |false=>exact bw (b R h)
def wK{c:Prop}{tc:DT}{te:DE}{E:DEnds}{n pick ring v x:Int}{vs:List Tie}{t:Tie}(htc:Tot c tc (RP n pick ring vs (.im (.int v)) (.im (.int x))))(hte:∀R:DK,R .imm (pD t)->te (RP n pick ring vs (.im (.int v)) (.im (.int x))) R)(hl:vs.length<1000)(h0:E.nx (RP n pick ring vs (.im (.int v)) (.im (.int x))))(h1:c->E.nx (RP n pick ring (vs++[t]) (.im (.int v)) (.im (.int x)))):dIf tc (wY 3 te) Gk E (RP n pick ring vs (.im (.int v)) (.im (.int x))):=htc _ λb hb=>by
 cases b with
 |true =>
  refine bf (hte _ ⟨rfl,by rw[Á];exact hl,?_⟩)
  replace h1:=h1 (hb rfl)
  show E.nx [.pen TP,.im (.int n),.im (.int pick),.dw 0 (.list (vs.map pD++[pD t])),.im (.int ring),.im (.int v),.im (.int x)]
  unfold RP at h1
  rw[â] at h1
  exact h1
 |false=>exact bw h0
def OkV(n:Int)(us:List Tie):Prop:=∀t∈us,0<=t.1/\t.1<n/\0<=t.2/\t.2<n
def OkV.app{n:Int}{us vs:List Tie}(a:OkV n us)(b:OkV n vs):OkV n (us++vs):=λt ht=>(Ù.mp ht).elim (a t) (b t)
def OkV.one{n:Int}{t:Tie}(h:0<=t.1/\t.1<n/\0<=t.2/\t.2<n):OkV n [t]:=λu hu=>by
 rw[Ë.mp hu]
 exact h
def RW(m n:Int)(us:List Tie)(s4:Sl):List Sl:=[.pen TP,.im (.int m),.im (.int n),.dw 0 (.list (us.map pD)),s4,.any,.any]
def Pj(ds:List D)(P:D->Prop):Prop:=∃m:Int,ds=[.int m]/\1<=m/\m<=8/\∀n us,1<=n->n<=m->us.length<=31->OkB n us->us.Pairwise (λa b=>aN a<=aN b)->P (aF n us)
def Jl{j:Int}(j0:0<=j)(j1:j<4):∃c:Int,atI [Í 0,.int 0,.int 1,.int 2] j=some (.int c)/\0<=c/\c<=2:=by
 have:j=0\/j=1\/j=2\/j=3:=by omega
 rcases this with rfl|rfl|rfl|rfl
 ·exact⟨0,rfl,by decide,by decide⟩
 ·exact⟨0,rfl,by decide,by decide⟩
 ·exact⟨1,rfl,by decide,by decide⟩
 ·exact⟨2,rfl,by decide,by decide⟩
def xR{P:DEnds}{ρ:List Sl}{i:Nat}{k:Kd}{L:List D}(hk:k=.new\/k=.snw)(h:P.nx (ρ.set i (.sn (.list L)))):(match stK none ρ i (norm k (.list L)) (.list L) with
 |some s=>P.nx (ρ.set i s)
 |none=>False):=by
 rcases hk with rfl|rfl <;> exact h
def iB{P:DEnds}{ρ:List Sl}{rg:Option Nat}{i:Nat}{k:Kd}{d:D}{s:Sl}(e:stK rg ρ i (norm k d) d=some s)(h:P.nx (ρ.set i s)):(match stK rg ρ i (norm k d) d with
 |some s=>P.nx (ρ.set i s)
 |none=>False):=by
 rw[e]
 exact h
def zZ(ts:List Tie):okD (.list (ts.map pD))=true:=by
 have h1:=Ey ts
 have h2:ĺ (ts.map pD)+1<=60:=by have:=uZ ts;omega
 show(Ġ (ts.map pD)&&decide (ĺ (ts.map pD)+1<=60))=true
 rw[h1,decide_eq_true h2]
 rfl
def Gy{us:List Tie}{z:Int}(z0:0<=z)(z1:z<(us.map pD).length):∃t∈us,atI (us.map pD) z=some (pD t):=by
 rw[Á] at z1
 have hk:z.toNat<us.length:=by omega
 have ek:z=((z.toNat:Nat):Int):=by omega
 have q:atI (us.map pD) ((z.toNat:Nat):Int)=some (pD us[z.toNat]):=eX (by rw[Þ,Ä hk];rfl)
 rw[←ek] at q
 exact⟨_,List.getElem_mem hk,q⟩
def gO(o:List Int)(x:Int):Int:=o.getD x.toNat 0
def IsOrd.at{n:Int}{l:List Int}(h:IsOrd n l){a:Int}(h0:0<=a)(h1:a<n):atI (l.map Í) a=some (.int (gO l a))/\0<=gO l a/\gO l a<n:=by
 have hl:=h.len
 have hk:a.toNat<l.length:=by omega
 have ek:a=((a.toNat:Nat):Int):=by omega
 have z:atI (l.map Í) ((a.toNat:Nat):Int)=some (.int l[a.toNat]):=eX (by rw[Þ,Ä hk];rfl)
 rw[←ek] at z
 have e:gO l a=l[a.toNat]:=by
  unfold gO
  rw[Ü,Ä hk]
  rfl
 rw[e]
 exact⟨z,h.rng _ (List.getElem_mem hk)⟩
def IsOrd.inj{n:Int}{l:List Int}(h:IsOrd n l){a b:Int}(a0:0<=a)(a1:a<n)(b0:0<=b)(b1:b<n)(e:gO l a=gO l b):a=b:=by
 have hl:=h.len
 have ha:a.toNat<l.length:=by omega
 have hb:b.toNat<l.length:=by omega
 unfold gO at e
 rw[Ü,Ä ha,Ü,Ä hb] at e
 have e:l[a.toNat]=l[b.toNat]:=e
 have pw:=Ŝ.mp h.nd
 rcases Nat.lt_trichotomy a.toNat b.toNat with z|z|z
 ·exact absurd e (pw _ _ ha hb z)
 ·omega
 ·exact absurd e.symm (pw _ _ hb ha z)
def mm(t:Tie):Tie:=(if t.2<t.1 then t.2 else t.1,if t.2 > t.1 then t.2 else t.1)
def turnT(o:List Int)(us:List Tie):List Tie:=(us.filter λt=>!decide (t.1=t.2)).map λt=>(gO o t.1,gO o t.2)
def GQ{n:Int}{o:List Int}{us:List Tie}(ho:IsOrd n o)(ok:OkV n us):OkB n ((turnT o us).map mm):=λt ht=>by
 obtain⟨u,hu,rfl⟩:=ą.mp ht
 obtain⟨v,hv,rfl⟩:=ą.mp hu
 obtain⟨hv,hne⟩:=ć.mp hv
 obtain⟨a0,a1,b0,b1⟩:=ok v hv
 obtain⟨_,x0,x1⟩:=ho.at a0 a1
 obtain⟨_,y0,y1⟩:=ho.at b0 b1
 have ne:gO o v.1≠gO o v.2:=λe=>by
  have:=ho.inj a0 a1 b0 b1 e
  rw[decide_eq_true this] at hne
  cases hne
 unfold mm
 show 0<=(if gO o v.2<gO o v.1 then gO o v.2 else gO o v.1)/\(if gO o v.2<gO o v.1 then gO o v.2 else gO o v.1)<(if gO o v.2 > gO o v.1 then gO o v.2 else gO o v.1)/\(if gO o v.2 > gO o v.1 then gO o v.2 else gO o v.1)<n
 by_cases h:gO o v.2<gO o v.1
 ·rw[if_pos h,if_neg (by omega)]
  exact⟨y0,h,x1⟩
 ·rw[if_neg h,if_pos (by omega)]
  exact⟨x0,by omega,y1⟩
def in2{a b pick:Int}(ha:a≠6)(hb:b≠6)(z:([Í a,.int b].any λe=>e.eqv (.int pick))=true):pick≠6:=λe=>by
 subst e
 have z:(decide (a=6) || (decide (b=6) || false))=true:=z
 rw[decide_eq_false ha,decide_eq_false hb] at z
 exact nomatch z
section
variable {P:Program}{w:World}{K:Ø}{mg:Str->Option Value}{base:Heap}{f:Addr}{fd:FuncData}
def jy:FnScope ["_law_pen_here","_law_n","_law_pick","_law_ties","_law_ring","_law_v","_law_drawn"] ["_law_pen_here","_law_n","_law_pick"] (aj (top 36)):=zC
def oG:(["_law_a","_law_pen_here","_law_n","_law_pick","_law_ties","_law_ring","_law_v","_law_drawn"]:List Str).Nodup:=by decide +kernel
def rA(F:Fun K "_law_plain" "_law_plain" (top 36) f fd)(B:Ļ mg)(C__law_draw:è P w K mg base 1 "_law_draw" ["_law_pen_here","_law_many"] (cU 1 oU)):FnOk P w K mg base CX0 2 f fd ["_law_pen_here","_law_n","_law_pick"] (cU 2000000 Fx):=by
 refine F.ok jy fK (λcdv A outer s H vs Q E hr h=>?_)
 have nd:=jy.nd
 refine⟨_,Wb.BSs.h (Wb.cons (Wb.s0 (ų (some 0) (i:=3) nd rfl zQ (ž Â)))
  (Wb.cons (Wb.set none (i:=4) nd rfl zQ (Wb.plus (Wb.e0 Æ) (Wb.dcP C__law_draw hr (İ 0) (Wb.a0 (À Æ Â)))))
  (Wb.gH (Wb.for_ ń rfl (Wb.i0 (Wr.lB B.range (À Æ (À (Ê 1) Â)))) (Ć (i:=5) nd rfl zQ) (Wb.cons (Wb.set none (i:=6) nd rfl zQ (Wb.dcP C__law_draw hr (İ 0) (Wb.a0 (À (Ê 5) Â))))
  (Wb.gH (Wb.if_ (Wb.wt (Wb.or2 (Wb.t0 (Ĩ hr.units (Ê 2) Æ)) (Wb.or2 (Wb.wt (Wb.PJ (Wb.t0 (Ĩ hr.units (Ê 2) Æ)) (Wb.PK (Wb.tgt (Wb.dcP C__law_draw hr (İ 0) (Wb.a0 (À Æ Â))) (Wb.e0 Æ))))) (Wb.or1 (Wb.t0 (Wr.wpt (Wr.fY (Ĩ hr.units (Ê 2) Æ) (Wr.dO (Wr.nH (Ê 5) (Ê 4)))))))))) (Wb.ss0 (í (Wr.fO (İ 3) (À (Ā (À (Ê 6) (À (Ê 5) Â))) Â)))) (Wb.ss0 ò))
  (Wb.gH (Wb.s0 (Ū (Wr.wpt (Wr.eZ (Wr.qR hr.units (Ê 2) (Ā (À Æ (À Æ Â)))) (Wr.eZ (Wr.wpt (Wr.fY (Ĩ hr.units (Ê 2) Æ) (Wr.dO (Wr.qP (Ê 5) (Ê 4))))) (Wr.eH (Wr.wpt (Wr.fY (Ĩ hr.units (Ê 2) Æ) (Wr.dO (Ĩ hr.units (Wr.v7 (Ê 5) Æ) Æ)))))))) (í (Wr.fO (İ 3) (À (Ā (À (Wr.fj (Ê 5) Æ) (À (Ê 5) Â))) Â))) ò))
  (Wb.gH (Wb.s0 (Ū (Wr.wpt (Wr.eZ (Wr.qR hr.units (Ê 2) (Ā (À Æ (À Æ Â)))) (Wr.eZ (Wr.wpt (Wr.fY (Ĩ hr.units (Ê 2) Æ) (Wr.dO (Ĩ hr.units (Ê 5) (Ê 4))))) (Wr.eH (Wr.wpt (Wr.fY (Ĩ hr.units (Ê 2) Æ) (Wr.dO (Ĩ hr.units (Ê 5) (Wr.fj (Ê 1) Æ))))))))) (í (Wr.fO (İ 3) (À (Ā (À Æ (À (Ê 5) Â))) Â))) ò))
  (Wb.cons (Wb.if_ (Wb.t0 (Ĩ hr.units (Ê 2) Æ)) (Wb.one (Wb.extend (İ 3) (Wb.aQ (Wb.lc ["_law_a"] rfl (Wb.i0 (Wr.fQ B.range (À (Ê 5) Â))) (λc=>(Ć (i:=0) oG rfl zQ)) (λc=>(Wb.ts1 (Wb.tgt (Wb.dcP C__law_draw hr (İ 1) (Wb.a0 (À Æ Â))) (Wb.e0 Æ)))) (λc=>(Wb.e0 (Ā (À (Ê 0) (À (Ê 6) Â)))))) (Wb.a0 Â)))) (Wb.ss0 ò)) (Wb.drops [5,6] (Wb.ss0 ò))))))))
  (Wb.drops [5,6] (Wb.ss0 (í (ö (Ê 3)))))))),Wb.sI h rfl ?_⟩
 rintro ds P ⟨n,pick,rfl,n1,n8,q⟩
 refine⟨[.im (.int n),.im (.int pick),.any,.any,.any,.any],rfl,?_⟩
 refine⟨by decide,rfl,4,rfl,by decide,by decide,λr r0 r1=>?_⟩
 refine⟨λρ=>∃(us:List Tie) (s5 s6:Sl),us.length<=28/\OkB n us/\ρ=RP n pick (2+r) us s5 s6,?_,λρ ⟨us,s5,s6,hl,ok,e⟩=>?_⟩
 rotate_left
 ·subst e
  exact⟨rfl,q us hl ok⟩
 refine⟨⟨by decide,by decide,by omega,by omega⟩,by rw[bN];omega,rfl,λ(i:Nat) ρ=>∃us:List Tie,((pick=6->2 * us.length<=i * (i+1))/\(pick≠6->us.length<=3 * i))/\OkB n us/\ρ=RP n pick (2+r) us .any .any,⟨[],⟨λ_=>by decide,λ_=>by decide⟩,(λt ht=>nomatch ht),rfl⟩,?_,?_⟩
 ·rintro i d ρ hd ⟨us,hl,ok,rfl⟩
  obtain⟨hi,rfl⟩:=dH hd
  refine⟨rfl,1+((i:Nat):Int),rfl,by omega,by omega,λx x0 x1=>?_⟩
  let S:=λ(k:Nat) (ρ:List Sl)=>∃vs:List Tie,((pick=6->vs.length<=us.length)/\vs.length<=us.length+k)/\OkB n vs/\ρ=RP n pick (2+r) vs (.im (.int (1+((i:Nat):Int)))) (.im (.int x))
  have S0:S 0 (RP n pick (2+r) us (.im (.int (1+((i:Nat):Int)))) (.im (.int x))):=⟨us,⟨λ_=>Å _,Å _⟩,ok,rfl⟩
  have eqT:∀(c:Int) (vs:List Tie),c≠6->Tot (pick≠6) (cN (t2 (jk false) (tV 2) (tK (.int c)))) (RP n pick (2+r) vs (.im (.int (1+((i:Nat):Int)))) (.im (.int x))):=λc vs hc R h=>h _ λz e=>hc ((of_decide_eq_true z:pick=c) ▸ e)
  have us28:us.length<=28:=by
   have:=Bt (i:=i) (by omega)
   by_cases c6:pick=6
   ·have:=hl.1 c6
    omega
   ·have:=hl.2 c6
    omega
  have ap:∀(k:Nat) (vs:List Tie) (t:Tie),((pick=6->vs.length<=us.length)/\vs.length<=us.length+k)->OkB n vs->0<=t.1/\t.1<t.2/\t.2<n->pick≠6->S (k+1) (RP n pick (2+r) (vs++[t]) (.im (.int (1+((i:Nat):Int)))) (.im (.int x))):=λk vs t hk okv ht c6=>⟨vs++[t],⟨λz=>absurd z c6,by rw[È,ĸ];omega⟩,okv.app (OkB.one ht),rfl⟩
  refine⟨S 1,?_,λρ h1=>?_⟩
  ·refine wK (t:=(x,1+((i:Nat):Int))) (vs:=us) ((eqT 0 us (by decide)).or (((eqT 5 us (by decide)).and λR h=>⟨rfl,3,rfl,by decide,by decide,λy _ _=>h _ λ_=>trivial⟩).or ((eqT 3 us (by decide)).and λR h=>h _ λ_=>trivial))) (λR h=>⟨zK,h⟩) (by omega) ⟨us,⟨λ_=>Å _,by omega⟩,ok,rfl⟩ (ap 0 us _ ⟨λ_=>Å _,Å _⟩ ok ⟨by omega,by omega,by omega⟩)
  obtain⟨v1,l1,ok1,rfl⟩:=h1
  refine⟨S 2,?_,λρ h1=>?_⟩
  ·refine wK (t:=(1+((i:Nat):Int) - 1,1+((i:Nat):Int))) (vs:=v1) (Tot.or (λR h=>⟨zK,rfl,rfl,h _ λz=>in2 (a:=1) (b:=7) (by decide) (by decide) z⟩) (((eqT 3 v1 (by decide)).and λR h=>h _ λ_=>trivial).or ((eqT 4 v1 (by decide)).and λR h=>⟨(show(0:Int)<2 by decide),h _ λ_=>trivial⟩))) (λR h=>⟨zK,h⟩) (by omega) ⟨v1,⟨l1.1,by omega⟩,ok1,rfl⟩ (ap 1 v1 _ l1 ok1 ⟨by omega,by omega,by omega⟩)
  obtain⟨v2,l2,ok2,rfl⟩:=h1
  refine⟨S 3,?_,λρ h1=>?_⟩
  ·refine wK (t:=(0,1+((i:Nat):Int))) (vs:=v2) (Tot.or (λR h=>⟨zK,rfl,rfl,h _ λz=>in2 (a:=2) (b:=4) (by decide) (by decide) z⟩) (((eqT 3 v2 (by decide)).and λR h=>h _ λ_=>trivial).or ((eqT 7 v2 (by decide)).and λR h=>h _ λ_=>trivial))) (λR h=>⟨zK,h⟩) (by omega) ⟨v2,⟨l2.1,by omega⟩,ok2,rfl⟩ (ap 2 v2 _ l2 ok2 ⟨by omega,by omega,by omega⟩)
  obtain⟨v3,l3,ok3,rfl⟩:=h1
  have ts:=M6 i
  show if decide (pick=6)=true then _ else _
  refine d7 (λc=>?_) (λc=>⟨v3,⟨λz=>absurd (decide_eq_true z) c,λz=>by have:=hl.2 z;omega⟩,ok3,rfl⟩)
  ·have c6:pick=6:=of_decide_eq_true c
   have hl:=hl.1 c6
   have l3:=l3.1 c6
   refine⟨⟨by omega,by omega⟩,by rw[bN];omega,.imm,λj ys=>∃ws:List Tie,ys=ws.map pD/\ws.length<=j/\OkB n ws,⟨[],rfl,Å _,(λt ht=>nomatch ht)⟩,?_,?_⟩
   ·rintro j d ys hd ⟨ws,rfl,hw,okw⟩
    obtain⟨hj,rfl⟩:=dH hd
    refine⟨rfl,3,rfl,by decide,by decide,λy _ _=>d7 (λc=>⟨zK,rfl,ws++[(0+((j:Nat):Int),1+((i:Nat):Int))],?_,?_,okw.app (OkB.one ⟨?_,?_,?_⟩)⟩) (λc=>⟨ws,rfl,by omega,okw⟩)⟩
    ·rw[â]
     rfl
    ·rw[È]
     simp
     omega
    ·show 0<=0+((j:Nat):Int)
     omega
    ·show 0+((j:Nat):Int)<1+((i:Nat):Int)
     omega
    ·show 1+((i:Nat):Int)<n
     omega
   ·rintro ys ⟨ws,rfl,hw,okw⟩
    rw[bN] at hw
    refine⟨rfl,by rw[Á,Á];omega,v3++ws,⟨λ_=>by rw[È];omega,λz=>absurd c6 z⟩,ok3.app okw,?_⟩
    show [Sl.pen TP,.im (.int n),.im (.int pick),.dw 0 (.list (v3.map pD++ws.map pD)),.im (.int (2+r)),.any,.any]=_
    rw[←â]
    rfl
 ·rintro ρ ⟨us,hl,ok,rfl⟩
  rw[bN] at hl
  have:=Bt (i:=(n - 1).toNat) (by omega)
  refine⟨us,.any,.any,?_,ok,rfl⟩
  by_cases c6:pick=6
  ·have:=hl.1 c6
   omega
  ·have:=hl.2 c6
   omega
def nu:FnScope ["_law_pen_here","_law_most","_law_n","_law_ties","_law_k","_law_turned_here","_law_pairs"] ["_law_pen_here","_law_most"] (aj (top 38)):=zC
def jJ:(["_law_a","_law_b","_law_pen_here","_law_most","_law_n","_law_ties","_law_k","_law_turned_here","_law_pairs"]:List Str).Nodup:=by decide +kernel
def rG:(["_law_pair","_law_pen_here","_law_most","_law_n","_law_ties","_law_k","_law_turned_here","_law_pairs"]:List Str).Nodup:=by decide +kernel
def wz(F:Fun K "_law_web" "_law_web" (top 38) f fd)(B:Ļ mg)(C__law_draw:è P w K mg base 1 "_law_draw" ["_law_pen_here","_law_many"] (cU 1 oU))(C__law_plain:è P w K mg base 2 "_law_plain" ["_law_pen_here","_law_n","_law_pick"] (cU 2000000 Fx))(C__law_turned:è P w K mg base 2 "_law_turned" ["_law_pen_here","_law_n"] (cU 16 Fy)):FnOk P w K mg base CX0 3 f fd ["_law_pen_here","_law_most"] (cU 4000000 Pj):=by
 refine F.ok nu fK (λcdv A outer s H vs Q E hr h=>?_)
 have nd:=nu.nd
 refine⟨_,Wb.BSs.h (Wb.cons (Wb.set none (i:=2) nd rfl zQ (Wb.plus (Wb.e0 Æ) (Wb.dcP C__law_draw hr (İ 0) (Wb.a0 (À (Ê 1) Â)))))
  (Wb.cons (Wb.set (some 0) (i:=3) nd rfl zQ (Wb.dcP C__law_plain hr (İ 0) (Wb.aQ (Wb.e0 (Ê 2)) (Wb.aQ (Wb.dcP C__law_draw hr (İ 0) (Wb.a0 (À Æ Â))) (Wb.a0 Â)))))
  (Wb.gH (Wb.for_ ń rfl (Wb.Cp B.range (Wb.aQ (Wb.ix (Wb.e0 (ž (À Æ (À Æ (À Æ (À Æ Â)))))) (Wb.dcP C__law_draw hr (İ 0) (Wb.a0 (À Æ Â)))) (Wb.a0 Â))) (Ć (i:=4) nd rfl zQ) (Wb.cons (Wb.append (İ 3) (Wb.aQ (Wb.tup (Wb.aQ (Wb.dcP C__law_draw hr (İ 0) (Wb.a0 (À (Ê 2) Â))) (Wb.aQ (Wb.dcP C__law_draw hr (İ 0) (Wb.a0 (À (Ê 2) Â))) (Wb.a0 Â)))) (Wb.a0 Â))) (Wb.drops [4] (Wb.ss0 ò))))
  (Wb.drops [4] (Wb.gH (Wb.if_ (Wb.wt (Wb.PJ (Wb.t0 (Wr.dB hr.units (Ê 3) (ž Â))) (Wb.PK (Wb.teq hr.units (Wb.dcP C__law_draw hr (İ 0) (Wb.a0 (À Æ Â))) (Wb.e0 Æ))))) (Wb.one (Wb.append (İ 3) (Wb.aQ (Wb.ix (Wb.e0 (Ê 3)) (Wb.dcP C__law_draw hr (İ 0) (Wb.a0 (À (Ų B.len (À (Ê 3) Â)) Â)))) (Wb.a0 Â)))) (Wb.ss0 ò))
  (Wb.cons (Wb.set none (i:=5) nd rfl zQ (Wb.dcP C__law_turned hr (İ 0) (Wb.a0 (À (Ê 2) Â))))
  (Wb.ss0 (Ď (Wr.jR none ["_law_a","_law_b"] (i:=6) rfl nd rfl zQ (Ş (Ê 3)) (λc=>(Wr.oX (n:=2) rfl (Ŵ (Ć (i:=0) jJ rfl zQ) (Ŵ (Ć (i:=1) jJ rfl zQ) Wr.jW)))) (λc=>(Wr.iZ (Wr.dB hr.units (Ê 0) (Ê 1)))) (λc=>(Ā (À (þ (Ê 7) (Ê 0)) (À (þ (Ê 7) (Ê 1)) Â)))))
  (í (ö (Ā (À (Ê 2) (À (Wr.iT B.tuple (À (Wr.gZ B.sorted (À (Wr.gD ["_law_pair"] rfl (Ş (Ê 6)) (λc=>(Ć (i:=0) rG rfl zQ)) (λc=>Wr.bW) (λc=>(Ā (À (Wr.jE rfl B.min (À (Ê 0) Â)) (À (Wr.jF rfl B.max (À (Ê 0) Â)) Â))))) Â)) Â)) Â))))))))))))),Wb.sI h rfl ?_⟩
 rintro ds P ⟨m,rfl,m1,m8,q⟩
 refine⟨[.im (.int m),.any,.any,.any,.any,.any],rfl,?_⟩
 refine⟨rfl,m,rfl,by omega,by omega,λr r0 r1=>?_⟩
 refine⟨rfl,rfl,9,rfl,by decide,by decide,λpk p0 p1=>⟨1+r,pk,rfl,by omega,by omega,λus lu ok=>?_⟩⟩
 have okw:OkV (1+r) us:=λt ht=>by
  have:=ok t ht
  omega
 refine⟨λρ=>∃us:List Tie,us.length<=30/\OkV (1+r) us/\ρ=RW m (1+r) us .any,?_,λρ h=>?_⟩
 ·refine⟨zK,rfl,4,rfl,by decide,by decide,λj j0 j1=>?_⟩
  obtain⟨c,hc,c0,c1⟩:=Jl j0 j1
  refine⟨.int c,hc,⟨by omega,by omega⟩,by rw[bN];omega,rfl,λ(i:Nat) ρ=>∃us:List Tie,us.length<=28+i/\OkV (1+r) us/\ρ=RW m (1+r) us .any,⟨us,by omega,okw,rfl⟩,?_,?_⟩
  ·rintro i d ρ hd ⟨vs,hl,ok',rfl⟩
   obtain⟨hi,rfl⟩:=dH hd
   refine⟨rfl,1+r,rfl,by omega,by omega,λa a0 a1=>⟨rfl,1+r,rfl,by omega,by omega,λb b0 b1=>⟨zK,rfl,by rw[Á];omega,vs++[(a,b)],by rw[È];simp;omega,ok'.app (OkV.one ⟨a0,a1,b0,b1⟩),?_⟩⟩⟩
   show [Sl.pen TP,.im (.int m),.im (.int (1+r)),.dw 0 (.list (vs.map pD++[pD (a,b)])),.any,.any,.any]=_
   unfold RW
   rw[â]
   rfl
  ·rintro ρ ⟨vs,hl,ok',rfl⟩
   rw[bN] at hl
   exact⟨vs,by omega,ok',rfl⟩
 obtain⟨v1,l1,ok1,rfl⟩:=h
 refine⟨λρ=>∃us:List Tie,us.length<=31/\OkV (1+r) us/\ρ=RW m (1+r) us .any,?_,λρ h=>?_⟩
 ·refine⟨zK,zZ v1,rfl,?_⟩
  show if (!PyData.eqv (.list (v1.map pD)) (.list []))=true then _ else _
  refine d7 (λc=>?_) (λc=>bw ⟨v1,by omega,ok1,rfl⟩)
  have ne:v1≠[]:=λz=>by
   subst z
   exact absurd c (by decide)
  have pos:0<v1.length:=š.mpr ne
  have lm:(v1.map pD).length=v1.length:=Á ..
  refine⟨rfl,4,rfl,by decide,by decide,λy _ _=>d7 (λc2=>?_) (λc2=>⟨v1,by omega,ok1,rfl⟩)⟩
  refine⟨rfl,_,rfl,by omega,by omega,λz z0 z1=>?_⟩
  obtain⟨t,ht,hz⟩:=Gy z0 z1
  refine⟨pD t,hz,rfl,by omega,v1++[t],by rw[È,ĸ];omega,ok1.app (OkV.one (ok1 t ht)),?_⟩
  show [Sl.pen TP,.im (.int m),.im (.int (1+r)),.dw 0 (.list (v1.map pD++[pD t])),.any,.any,.any]=_
  unfold RW
  rw[â]
  rfl
 obtain⟨v2,l2,ok2,rfl⟩:=h
 refine⟨rfl,1+r,rfl,by omega,by omega,λo ho=>?_⟩
 refine xR (.inl rfl) ?_
 refine Ew v2 pD (λt=>!decide (t.1=t.2)) (λt=>pD (gO o t.1,gO o t.2)) .imm rfl (by omega) (λt ht A B hA hB=>?_) ?_
 ·obtain⟨a0,a1,b0,b1⟩:=ok2 t ht
  refine⟨rfl,?_⟩
  show if (!decide (t.1=t.2))=true then _ else _
  refine d7 (λc=>?_) (λc=>hB (by simpa using c))
  exact⟨_,(ho.at a0 a1).1,_,(ho.at b0 b1).1,zK,rfl,hA c⟩
 have e:((v2.filter λt=>!decide (t.1=t.2)).map λt=>pD (gO o t.1,gO o t.2))=(turnT o v2).map pD:=by
  unfold turnT
  rw[î]
  rfl
 rw[e]
 have lt:(turnT o v2).length<=31:=by
  unfold turnT
  rw[Á]
  exact ï (List.length_filter_le _ _) l2
 have okt:=GQ ho ok2
 refine xR (.inl rfl) ?_
 refine rP (turnT o v2) pD (λt=>pD (mm t)) .imm rfl (by omega) (λt ht A B hA=>bf (B:=True) ⟨zK,rfl,hA⟩) ?_
 have e2:(turnT o v2).map (λt=>pD (mm t))=((turnT o v2).map mm).map pD:=by rw[î];rfl
 rw[e2]
 refine⟨(turnT o v2).map mm,.inl rfl,by rw[Á];omega,λt ht=>?_,λus' hp hs=>⟨zK,?_,q (1+r) us' (by omega) (by omega) (by rw[hp.length_eq,Á];omega) (λt ht=>okt t (hp.mem_iff.mp ht)) hs⟩⟩
 ·have:=okt t ht
  exact⟨by omega,by omega⟩
 have e:=iY (1+r) us'
 show(norm _ (aF (1+r) us')).le .n0=true
 rw[cF e]
 rfl
end
abbrev Off:=Int×Int×Int
def oD(o:Off):D:=.tuple [.int o.1,.int o.2.1,.int o.2.2]
def oT(b:Bool)(os:List Off):D:=if b=true then .list (os.map oD) else .tuple (os.map oD)
def tO(o:Off):Tie:=(o.1,o.2.1)
def OkO(n:Int)(os:List Off):Prop:=∀o∈os,OkT n (tO o)/\0<=o.2.2/\o.2.2<10 ^ 30
def cA(os:List Off)(ks:List Int):List Tie:=ks.map λk=>tO (os.getD k.toNat (0,0,0))
def jo(m:Nat)(ks:List Int):Prop:=ks.Pairwise (·<·)/\∀k∈ks,0<=k/\k<(m:Int)
def Fw(ds:List D)(P:D->Prop):Prop:=∃n us vs,ds=[aF n us,.list (vs.map pD)]/\us.length+vs.length<64/\n<=16/\OkN n us/\OkN n vs/\∀ws:List Tie,ws.Perm (us++vs)->P (aF n ws)
def Fz(ds:List D)(P:D->Prop):Prop:=∃n us o,ds=[aF n us,oD o]/\OkT n (tO o)/\0<=o.2.2/\P (.bool true)
def Ja(ds:List D)(P:D->Prop):Prop:=∃n us b os,ds=[aF n us,oT b os]/\os.length<=8/\OkO n os/\P .none
def lN(ds:List D)(P:D->Prop):Prop:=∃n us b os ks,ds=[aF n us,oT b os,iD ks]/\us.length<=52/\n<=16/\OkN n us/\os.length<=8/\OkO n os/\jo os.length ks/\∀ws:List Tie,ws.Perm (us++(cA os ks).map mmT)->P (aF n ws)
def uL{n:Nat}{l:List Int}(nd:l.Nodup)(h:∀x∈l,0<=x/\x<n):l.length<=n:=by
 induction n generalizing l with
 |zero=>cases l with
  |nil=>exact Å _
  |cons x l=>have:=h x (Ú ..);omega
 |succ n ih =>
  by_cases e:((n:Nat):Int)∈l
  ·have z:=ih (nd.erase ((n:Nat):Int)) λx hx=>by
    have:=h x (List.mem_of_mem_erase hx)
    have:x≠((n:Nat):Int):=(nd.mem_erase_iff.mp hx).1
    omega
   rw[List.length_erase_of_mem e] at z
   omega
  ·have z:=ih nd λx hx=>by
    have:=h x hx
    have:x≠((n:Nat):Int):=λw=>e (w ▸ hx)
    omega
   omega
def qK{l:List Int}(h:l.Pairwise (·<·)):l.Nodup:=h.imp λh=>by omega
def jo.len{m:Nat}{ks:List Int}(h:jo m ks):ks.length<=m:=uL (qK h.1) λx hx=>h.2 x hx
def HN{b:Bool}{os:List Off}{k:Int}(h0:0<=k)(h1:k<(os.length:Nat)):os[k.toNat]?=some (os.getD k.toNat (0,0,0)):=by
 rw[Ü,Ä (by omega)]
 rfl
def jG{os:List Off}{k:Int}(h0:0<=k)(h1:k<(os.length:Nat)):atI (os.map oD) k=some (oD (os.getD k.toNat (0,0,0))):=by
 have ek:k=((k.toNat:Nat):Int):=by omega
 have q:atI (os.map oD) ((k.toNat:Nat):Int)=some (oD (os.getD k.toNat (0,0,0))):=eX (by rw[Þ,HN (b:=true) h0 h1];rfl)
 rw[←ek] at q
 exact q
def rD{n:Int}{os:List Off}{ks:List Int}(ok:OkO n os)(h:jo os.length ks):OkN n (cA os ks):=λt ht=>by
 obtain⟨k,hk,rfl⟩:=ą.mp ht
 obtain⟨h0,h1⟩:=h.2 k hk
 exact(ok _ (Ò (HN (b:=true) h0 h1))).1
def yF{n:Int}{us:List Tie}(h:OkN n us):OkN n (us.map mmT):=λt ht=>by
 obtain⟨u,hu,rfl⟩:=ą.mp ht
 obtain⟨⟨a0,a1⟩,⟨b0,b1⟩,ne⟩:=h u hu
 show((0:Int)<=(if u.2<u.1 then u.2 else u.1)/\(if u.2<u.1 then u.2 else u.1)<n)/\(0<=(if u.2 > u.1 then u.2 else u.1)/\(if u.2 > u.1 then u.2 else u.1)<n)/\(if u.2<u.1 then u.2 else u.1)≠(if u.2 > u.1 then u.2 else u.1)
 by_cases c:u.2<u.1
 ·rw[if_pos c,if_neg (by omega)]
  omega
 ·rw[if_neg c,if_pos (by omega)]
  omega
def OD(l:List Int)(t:Tie):lv l (mmT t)=lv l t:=by
 unfold lv mmT
 show(decide ((if t.2<t.1 then t.2 else t.1)∈l) != decide ((if t.2 > t.1 then t.2 else t.1)∈l))=_
 by_cases c:t.2<t.1
 ·rw[if_pos c,if_neg (by omega)]
  cases decide (t.1∈l) <;> cases decide (t.2∈l) <;> rfl
 ·rw[if_neg c]
  by_cases c2:t.2 > t.1
  ·rw[if_pos c2]
  ·rw[if_neg c2,show t.2=t.1 by omega]
def Ms(l:List Int)(us:List Tie):((us.map mmT).filter (lv l)).length=(us.filter (lv l)).length:=by
 rw[List.filter_map,Á]
 congr 1
 exact Ŕ λt _=>OD l t
def OkN.app{n:Int}{us vs:List Tie}(a:OkN n us)(b:OkN n vs):OkN n (us++vs):=λt ht=>(Ù.mp ht).elim (a t) (b t)
def uT:∀os:List Off,cM (os.map oD)=true
 |[]=>rfl
 |_::os=>uT os
def fV(b:Bool)(os:List Off):aG (oT b os)=if b=true then .sh (oT true os) else .im (oT false os):=by
 cases b with
 |true=>rfl
 |false =>
  show(if cQ (.tuple (os.map oD))=true then Sl.im (.tuple (os.map oD)) else Sl.sh (.tuple (os.map oD)))=_
  rw[if_pos (show cQ (.tuple (os.map oD))=true from uT os)]
  rfl
def zj{ρ:List Sl}{i:Nat}{k:Kd}{d:D}{tb:DE}{Q:Kd->D->Prop}(hv:∀R:Kd->D->Prop,R k d->tV i ρ R)(ht:(tyD d == "list" || tyD d == "tuple")=true)(h:tb ρ Q):lF (GX (tV i)) tb ρ Q:=by
 unfold lF GX
 refine hv _ ?_
 show(match (PyData.bool (tyD d == "list" || tyD d == "tuple")) with
  |.bool b=>if b=true then tb ρ Q else Q .imm (.bool false)
  |_=>False)
 rw[ht]
 exact h
def dY(a b c:D):¬(HT.sIx [a,b,c].length 0 none=0/\HT.sIx [a,b,c].length [a,b,c].length (some 2)=[a,b,c].length):=λz=>by
 have:=z.2
 rw[show(2:Int)=((2:Nat):Int) from rfl,HT.mH] at this
 exact absurd (show min 2 3=3 from this) (by decide)
section
variable {P:Program}{w:World}{K:Ø}{mg:Str->Option Value}{base:Heap}{f:Addr}{fd:FuncData}{CN:Addr}
def jx:FnScope ["web","added"] ["web","added"] (aj (top 8)):=zC
def rm(F:Fun K "with_ties" "with_ties" (top 8) f fd)(B:Ļ mg):FnOk P w K mg base CX0 1 f fd ["web","added"] (spD Fw):=by
 refine F.ok jx ĩ (λcdv A outer s H vs Q E hr h=>?_)
 have nd:=jx.nd
 refine⟨_,Ŋ (í (ö (Ā (À (þ (Ê 0) Æ) (À (Wr.iT B.tuple (À (Wr.gZ B.sorted (À (Wr.eO (þ (Ê 0) Æ) (Wr.iT B.tuple (À (Ê 1) Â))) Â)) Â)) Â))))),bC h ?_⟩
 rintro ds P ⟨n,us,vs,rfl,lu,n16,oku,okv,q⟩
 refine⟨[.im (aF n us),.sh (.list (vs.map pD))],?_,?_⟩
 ·show [aG (aF n us),aG (.list (vs.map pD))]=_
  rw[ł]
  rfl
 have lm:∀xs:List Tie,(xs.map pD).length=xs.length:=λxs=>Á ..
 have ok:=OkN.app oku okv
 refine⟨.int n,rfl,.tuple (us.map pD),rfl,by rw[lm,lm];omega,us++vs,.inr ?_,by rw[È];omega,λt ht=>?_,λws hp hs=>⟨zK,?_,q ws hp⟩⟩
 ·rw[â]
 ·have:=ok t ht
  exact⟨this.2.1.1,by have:=this.2.1.2;omega⟩
 ·have e:=iY n ws
  show(norm _ (aF n ws)).le .n0=true
  rw[cF e]
  rfl
def lK:FnScope ["web","thing"] ["web","thing"] (aj (top 25)):=zC
def uG(F:Fun K "is_offer" "is_offer" (top 25) f fd)(B:Ļ mg)(C_is_whole:è P w K mg base 1 "is_whole" ["thing"] (spD wR))(C_is_tie:è P w K mg base 3 "is_tie" ["n","thing"] (spD FJ)):FnOk P w K mg base CX0 4 f fd ["web","thing"] (spD Fz):=by
 refine F.ok lK ĩ (λcdv A outer s H vs Q E hr h=>?_)
 have nd:=lK.nd
 refine⟨_,Ŋ (Ď (Ū (Wr.wpt (Wr.eZ (Wr.dz (Wr.bV (Wr.cO kit_tuple B.isinstance (Ê 1) (Wr.wty rfl B.tuple boot_tuple)))) (Wr.eH (Wr.dB hr.units (Ų B.len (À (Ê 1) Â)) Æ)))) (í (ö Wr.gF)) ò)
  (í (ö (Wr.cX (ō C_is_tie hr (À (þ (Ê 0) Æ) (À (Wr.jD (Ê 1) Wr.bZ (Wr.bY Æ)) Â))) (Wr.cX (ō C_is_whole hr (À (þ (Ê 1) Æ) Â)) (Wr.dR (Wr.yj (þ (Ê 1) Æ) Æ))))))),bC h ?_⟩
 rintro ds P ⟨n,us,o,rfl,ok,c0,q⟩
 refine⟨[.im (aF n us),.im (oD o)],?_,?_⟩
 ·show [aG (aF n us),aG (oD o)]=_
  rw[ł]
  rfl
 refine bw (A:=True) (bw (A:=True) ⟨.int n,rfl,dY _ _ _,n,tO o,rfl,ok,bf (B:=True) ⟨.int o.2.2,rfl,.int o.2.2,rfl,bf (B:=True) ⟨.int o.2.2,rfl,?_⟩⟩⟩)
 show _/\P (.bool (decide (0<=o.2.2)))
 rw[decide_eq_true c0]
 exact⟨rfl,q⟩
def gC:FnScope ["web","thing","fits"] ["web","thing"] (aj (top 26)):=zC
def jK:(["offer","web","thing","fits"]:List Str).Nodup:=by decide +kernel
def lX{tk_MOST_OFFERS:Tok}(F:Fun K "check_offers" "check_offers" (top 26) f fd)(B:Ļ mg)(g_MOST_OFFERS:mg "MOST_OFFERS"=some (.int 8 tk_MOST_OFFERS))(C_is_offer:è P w K mg base 4 "is_offer" ["web","thing"] (spD Fz)):FnOk P w K mg base CX0 5 f fd ["web","thing"] (spD Ja):=by
 refine F.ok gC ĩ (λcdv A outer s H vs Q E hr h=>?_)
 have nd:=gC.nd
 refine⟨_,Ŋ (Ď (ų none (i:=2) nd rfl zQ (Wr.cX (Wr.qZ B.isinstance (Ê 1) (Wr.wty rfl B.list boot_list) (Wr.wty rfl B.tuple boot_tuple)) (Wr.dR (Wr.Dd (Ų B.len (À (Ê 1) Â)) (Wr.nQ rfl g_MOST_OFFERS ⟨_,rfl⟩)))))
  (í (Ū (Wr.wpt (Wr.eZ (Wr.dz (Wr.bV (Ê 2))) (Wr.eH (Wr.dz (Wr.bV (Wr.nU rfl B.all Dl.boot_all (À (Wr.gD ["offer"] rfl (Ş (Ê 1)) (λc=>(Ć (i:=0) jK rfl zQ)) (λc=>Wr.bW) (λc=>(ō C_is_offer hr (À (Ê 1) (À (Ê 0) Â))))) Â))))))) (í Wr.jT) ò))),bC h ?_⟩
 rintro ds P ⟨n,us,b,os,rfl,lo,ok,q⟩
 cases b with
 |true =>
  refine⟨[.im (aF n us),.sh (.list (os.map oD)),.any],?_,?_⟩
  ·show [aG (aF n us),aG (oT true os),.any]=_
   rw[ł,fV]
   rfl
  have lm:(os.map oD).length=os.length:=Á ..
  have e8:decide ((((os.map oD).length:Nat):Int)<=8)=true:=decide_eq_true (by omega)
  show lF _ _ _ _
  refine zj (i:=1) (k:=.shr) (d:=.list (os.map oD)) (λR h=>h) rfl ?_
  show wW 2 none (λ_ P=>P .imm (.bool (decide ((((os.map oD).length:Nat):Int)<=8)))) _ _
  rw[e8]
  refine bw (A:=True) (rP os oD (λ_=>.bool true) .imm rfl (by omega) (λo ho A B h=>bf (B:=True) ⟨n,us,o,rfl,(ok o ho).1,(ok o ho).2.1,rfl,h⟩) ⟨os.map λ_=>true,by rw[î];rfl,?_⟩)
  have ea:(os.map λ_=>true).all id=true:=by
   rw[List.all_map,Č]
   exact λ_ _=>rfl
  rw[ea]
  exact bw (A:=True) q
 |false =>
  refine⟨[.im (aF n us),.im (.tuple (os.map oD)),.any],?_,?_⟩
  ·show [aG (aF n us),aG (oT false os),.any]=_
   rw[ł,fV]
   rfl
  have lm:(os.map oD).length=os.length:=Á ..
  have e8:decide ((((os.map oD).length:Nat):Int)<=8)=true:=decide_eq_true (by omega)
  show lF _ _ _ _
  refine zj (i:=1) (k:=.imm) (d:=.tuple (os.map oD)) (λR h=>h) rfl ?_
  show wW 2 none (λ_ P=>P .imm (.bool (decide ((((os.map oD).length:Nat):Int)<=8)))) _ _
  rw[e8]
  refine bw (A:=True) (rP os oD (λ_=>.bool true) .imm rfl (by omega) (λo ho A B h=>bf (B:=True) ⟨n,us,o,rfl,(ok o ho).1,(ok o ho).2.1,rfl,h⟩) ⟨os.map λ_=>true,by rw[î];rfl,?_⟩)
  have ea:(os.map λ_=>true).all id=true:=by
   rw[List.all_map,Č]
   exact λ_ _=>rfl
  rw[ea]
  exact bw (A:=True) q
def gM:FnScope ["web","offers","numbers"] ["web","offers","numbers"] (aj (top 27)):=zC
def kI:(["number","web","offers","numbers"]:List Str).Nodup:=by decide +kernel
def nZ(F:Fun K "with_offers" "with_offers" (top 27) f fd)(B:Ļ mg)(C_with_ties:è P w K mg base 1 "with_ties" ["web","added"] (spD Fw)):FnOk P w K mg base CX0 2 f fd ["web","offers","numbers"] (spD lN):=by
 refine F.ok gM ĩ (λcdv A outer s H vs Q E hr h=>?_)
 have nd:=gM.nd
 refine⟨_,Ŋ (í (ö (ō C_with_ties hr (À (Ê 0) (À (Wr.gD ["number"] rfl (Ş (Ê 2)) (λc=>(Ć (i:=0) kI rfl zQ)) (λc=>Wr.bW) (λc=>(Ā (À (Wr.jE rfl B.min (À (Wr.jD (þ (Ê 2) (Ê 0)) Wr.bZ (Wr.bY Æ)) Â)) (À (Wr.jF rfl B.max (À (Wr.jD (þ (Ê 2) (Ê 0)) Wr.bZ (Wr.bY Æ)) Â)) Â))))) Â))))),bC h ?_⟩
 rintro ds P ⟨n,us,b,os,ks,rfl,lu,n16,oku,lo,oko,hr2,q⟩
 have lk:=hr2.len
 cases b with
 |true =>
  refine⟨[.im (aF n us),.sh (.list (os.map oD)),.sh (iD ks)],?_,?_⟩
  ·show [aG (aF n us),aG (oT true os),aG (iD ks)]=_
   rw[ł,fV]
   rfl
  refine rP ks Í (λk=>pD (mmT (tO (os.getD k.toNat (0,0,0))))) .imm rfl (by omega) (λk hk A B h=>bf (B:=True) ?_) ?_
  ·obtain⟨k0,k1⟩:=hr2.2 k hk
   exact⟨_,jG k0 k1,dY _ _ _,_,jG k0 k1,dY _ _ _,zK,rfl,h⟩
  have e:ks.map (λk=>pD (mmT (tO (os.getD k.toNat (0,0,0)))))=((cA os ks).map mmT).map pD:=by
   unfold cA
   rw[î,î]
   rfl
  rw[e]
  refine⟨n,us,(cA os ks).map mmT,rfl,by rw[Á];unfold cA;rw[Á];omega,n16,oku,yF (rD oko hr2),λws hp=>⟨?_,q ws hp⟩⟩
  have e:=iY n ws
  show(norm _ (aF n ws)).le .n0=true
  rw[cF e]
  rfl
 |false =>
  refine⟨[.im (aF n us),.im (.tuple (os.map oD)),.sh (iD ks)],?_,?_⟩
  ·show [aG (aF n us),aG (oT false os),aG (iD ks)]=_
   rw[ł,fV]
   rfl
  refine rP ks Í (λk=>pD (mmT (tO (os.getD k.toNat (0,0,0))))) .imm rfl (by omega) (λk hk A B h=>bf (B:=True) ?_) ?_
  ·obtain⟨k0,k1⟩:=hr2.2 k hk
   exact⟨_,jG k0 k1,dY _ _ _,_,jG k0 k1,dY _ _ _,zK,rfl,h⟩
  have e:ks.map (λk=>pD (mmT (tO (os.getD k.toNat (0,0,0)))))=((cA os ks).map mmT).map pD:=by
   unfold cA
   rw[î,î]
   rfl
  rw[e]
  refine⟨n,us,(cA os ks).map mmT,rfl,by rw[Á];unfold cA;rw[Á];omega,n16,oku,yF (rD oko hr2),λws hp=>⟨?_,q ws hp⟩⟩
  have e:=iY n ws
  show(norm _ (aF n ws)).le .n0=true
  rw[cF e]
  rfl
end
def FP(ds:List D)(P:D->Prop):Prop:=ds=[]/\∀c:Int,0<=c->c<=10 ^ 29->P (.int c)
def OkC(n:Int)(os:List Off):Prop:=∀o∈os,OkT n (tO o)/\0<=o.2.2/\o.2.2<=10 ^ 29
def OkC.ok{n:Int}{os:List Off}(h:OkC n os):OkO n os:=λo ho=>⟨(h o ho).1,(h o ho).2.1,Int.lt_of_le_of_lt (h o ho).2.2 (by decide)⟩
def OkL(n:Int)(os:List Off):Prop:=∀o∈os,OkT n (tO o)/\0<=o.2.2/\o.2.2<=10 ^ 28
def OkL.ok{n:Int}{os:List Off}(h:OkL n os):OkC n os:=λo ho=>⟨(h o ho).1,(h o ho).2.1,Ă (h o ho).2.2 (by decide)⟩
def JW(ds:List D)(P:D->Prop):Prop:=∃n:Int,ds=[.int n]/\1<=n/\n<=8/\∀os,os.length<=5->OkL n os->P (oT true os)
def RO(n:Int)(os:List Off)(s4:Sl):List Sl:=[.pen TP,.im (.int n),.dw 0 (.list (os.map oD)),s4,.any,.any]
def J6{c:Int}(h0:0<=c)(h1:c<=10 ^ 29):0<=c / 10/\c / 10<=10 ^ 28:=by
 have e1:(10:Int) ^ 29=100000000000000000000000000000:=by decide
 have e2:(10:Int) ^ 28=10000000000000000000000000000:=by decide
 rw[e1] at h1
 rw[e2]
 omega
def Ez:∀os:List Off,Ġ (os.map oD)=true
 |[]=>rfl
 |_::os=>Ez os
def u5:∀os:List Off,ĺ (os.map oD)<=1
 |[]=>û _
 |_::os=>by
  have:=u5 os
  show max 1 (ĺ (os.map oD))<=1
  omega
def DW(os:List Off):okD (.list (os.map oD))=true:=by
 have h1:=Ez os
 have h2:ĺ (os.map oD)+1<=60:=by have:=u5 os;omega
 show(Ġ (os.map oD)&&decide (ĺ (os.map oD)+1<=60))=true
 rw[h1,decide_eq_true h2]
 rfl
section
variable {P:Program}{w:World}{K:Ø}{mg:Str->Option Value}{base:Heap}{f:Addr}{fd:FuncData}{CN:Addr}
def lJ:FnScope ["_law_pen_here","_law_pick"] ["_law_pen_here"] (aj (top 39)):=zC
def uF(F:Fun K "_law_cost" "_law_cost" (top 39) f fd)(B:Ļ mg)(C__law_draw:è P w K mg base 1 "_law_draw" ["_law_pen_here","_law_many"] (cU 1 oU)):FnOk P w K mg base CX0 2 f fd ["_law_pen_here"] (cU 10 FP):=by
 refine F.ok lJ fK (λcdv A outer s H vs Q E hr h=>?_)
 have nd:=lJ.nd
 refine⟨_,Wb.BSs.h (Wb.cons (Wb.set none (i:=1) nd rfl zQ (Wb.dcP C__law_draw hr (İ 0) (Wb.a0 (À Æ Â))))
  (Wb.cons (Wb.s0 (Ū (Ĩ hr.units (Ê 1) Æ) (í (ö Æ)) ò))
  (Wb.cons (Wb.if_ (Wb.t0 (Ĩ hr.units (Ê 1) Æ)) (Wb.one (Wb.ret (Wb.sub (Wb.e0 (Wr.nM Æ Æ)) (Wb.dcP C__law_draw hr (İ 0) (Wb.a0 (À Æ Â)))))) (Wb.ss0 ò))
  (Wb.cons (Wb.if_ (Wb.t0 (Ĩ hr.units (Ê 1) Æ)) (Wb.one (Wb.ret (Wb.plus (Wb.times (Wb.dcP C__law_draw hr (İ 0) (Wb.a0 (À (Wr.nM Æ Æ) Â))) (Wb.e0 (Wr.nM Æ Æ))) (Wb.dcP C__law_draw hr (İ 0) (Wb.a0 (À Æ Â)))))) (Wb.ss0 ò))
  (Wb.one (Wb.ret (Wb.dcP C__law_draw hr (İ 0) (Wb.a0 (À (þ (ž (À Æ (À Æ (À Æ Â)))) (Wr.fj (Ê 1) Æ)) Â))))))))),Wb.sI h rfl ?_⟩
 rintro ds P ⟨rfl,q⟩
 refine⟨[.any],rfl,?_⟩
 refine⟨rfl,6,rfl,by decide,by decide,λr r0 r1=>?_⟩
 refine d7 (λc=>⟨rfl,q 0 (by decide) (by decide)⟩) (λc=>?_)
 have c0:r≠0:=λz=>c (decide_eq_true z)
 refine d7 (λc1=>?_) (λc=>?_)
 ·refine⟨⟨by decide,by decide,by decide⟩,rfl,3,rfl,by decide,by decide,λy y0 y1=>⟨rfl,q _ ?_ ?_⟩⟩
  ·show(0:Int)<=10 ^ (29:Int).toNat - y
   have:(10:Int) ^ (29:Int).toNat=100000000000000000000000000000:=by decide
   omega
  ·show 10 ^ (29:Int).toNat - y<=(10:Int) ^ 29
   have:(10:Int) ^ (29:Int).toNat=100000000000000000000000000000:=by decide
   have:(10:Int) ^ 29=100000000000000000000000000000:=by decide
   omega
 have c1:r≠1:=λz=>c (decide_eq_true z)
 refine d7 (λc1=>?_) (λc=>?_)
 ·refine⟨rfl,⟨by decide,by decide,by decide⟩,_,rfl,by decide,by decide,λy y0 y1=>⟨⟨by decide,by decide,by decide⟩,.inl ⟨?_,?_⟩,rfl,10,rfl,by decide,by decide,λz z0 z1=>⟨rfl,q _ ?_ ?_⟩⟩⟩
  ·have:(10:Int) ^ (9:Int).toNat=1000000000:=by decide
   omega
  ·have:(10:Int) ^ (9:Int).toNat=1000000000:=by decide
   omega
  ·show(0:Int)<=y * 10 ^ (20:Int).toNat+z
   have:(10:Int) ^ (20:Int).toNat=100000000000000000000:=by decide
   rw[this]
   omega
  ·show y * 10 ^ (20:Int).toNat+z<=(10:Int) ^ 29
   have e9:(10:Int) ^ (9:Int).toNat=1000000000:=by decide
   have:(10:Int) ^ (20:Int).toNat=100000000000000000000:=by decide
   have:(10:Int) ^ 29=100000000000000000000000000000:=by decide
   rw[e9] at y1
   rw[‹(10:Int) ^ (20:Int).toNat=100000000000000000000›]
   omega
 have c2:r≠2:=λz=>c (decide_eq_true z)
 have hx:∃v:Int,atI [Í 3,.int 10,.int 100] (r - 3)=some (.int v)/\0<v/\v<=100:=by
  have:r=3\/r=4\/r=5:=by omega
  rcases this with rfl|rfl|rfl
  ·exact⟨3,rfl,by decide,by decide⟩
  ·exact⟨10,rfl,by decide,by decide⟩
  ·exact⟨100,rfl,by decide,by decide⟩
 obtain⟨v,hv,v0,v1⟩:=hx
 refine⟨rfl,zK,.int v,hv,v,rfl,v0,by omega,λy y0 y1=>⟨rfl,q y y0 ?_⟩⟩
 have:(10:Int) ^ 29=100000000000000000000000000000:=by decide
 omega
def jc:FnScope ["_law_pen_here","_law_n","_law_found","_law_k","_law_a","_law_b"] ["_law_pen_here","_law_n"] (aj (top 40)):=zC
def pC(F:Fun K "_law_offers" "_law_offers" (top 40) f fd)(B:Ļ mg)(C__law_draw:è P w K mg base 1 "_law_draw" ["_law_pen_here","_law_many"] (cU 1 oU))(C__law_cost:è P w K mg base 2 "_law_cost" ["_law_pen_here"] (cU 10 FP)):FnOk P w K mg base CX0 3 f fd ["_law_pen_here","_law_n"] (cU 20000 JW):=by
 refine F.ok jc fK (λcdv A outer s H vs Q E hr h=>?_)
 have nd:=jc.nd
 refine⟨_,Wb.BSs.h (Wb.cons (Wb.s0 (ų (some 0) (i:=2) nd rfl zQ (ž Â)))
  (Wb.gH (Wb.for_ ń rfl (Wb.Cp B.range (Wb.aQ (Wb.times (Wb.dcP C__law_draw hr (İ 0) (Wb.a0 (À Æ Â))) (Wb.e0 (Wr.q9 B.int boot_int (À (Wr.Dg (Ê 1) Æ) Â)))) (Wb.a0 Â))) (Ć (i:=3) nd rfl zQ) (Wb.cons (Wb.set none (i:=4) nd rfl zQ (Wb.dcP C__law_draw hr (İ 0) (Wb.a0 (À (Ê 1) Â))))
  (Wb.cons (Wb.set none (i:=5) nd rfl zQ (Wb.mod (Wb.plus (Wb.e0 (Wr.eO (Ê 4) Æ)) (Wb.dcP C__law_draw hr (İ 0) (Wb.a0 (À (Wr.fj (Ê 1) Æ) Â)))) (Wb.e0 (Ê 1))))
  (Wb.cons (Wb.append (İ 2) (Wb.aQ (Wb.tup (Wb.aQ (Wb.e0 (Ê 4)) (Wb.aQ (Wb.e0 (Ê 5)) (Wb.aQ (Wb.fdiv (Wb.dcP C__law_cost hr (İ 0) (Wb.a0 Â)) (Wb.e0 Æ)) (Wb.a0 Â))))) (Wb.a0 Â))) (Wb.drops [3,4,5] (Wb.ss0 ò))))))
  (Wb.drops [3,4,5] (Wb.ss0 (í (ö (Ê 2))))))),Wb.sI h rfl ?_⟩
 rintro ds P ⟨n,rfl,n1,n8,q⟩
 refine⟨[.im (.int n),.any,.any,.any,.any],rfl,?_⟩
 refine⟨zK,λρ=>∃os:List Off,os.length<=5/\OkL n os/\ρ=RO n os .any,?_,λρ h=>?_⟩
 ·refine⟨rfl,6,rfl,by decide,by decide,λr r0 r1=>?_⟩
  have hT:∀b:Bool,(b=true->1<n)->∀t:Int,t=r * (if b=true then (1:Int) else 0)->0<=t/\t<=5/\(0<t->1<n):=by
   intro b hb t ht
   subst ht
   cases b with
   |true=>exact⟨by simpa using r0,by simp;omega,λ_=>hb rfl⟩
   |false=>exact⟨by simp,by simp,λz=>absurd z (by simp)⟩
  replace hT:=hT (decide (1<n)) (λz=>of_decide_eq_true z) _ rfl
  refine⟨.inl ⟨by omega,by omega⟩,?_⟩
  generalize r * (if decide (1<n)=true then (1:Int) else 0)=T at hT ⊢
  obtain⟨T0,T1,T2⟩:=hT
  refine⟨⟨by omega,by omega⟩,by rw[bN];omega,rfl,λ(i:Nat) ρ=>∃os:List Off,os.length=i/\OkL n os/\ρ=RO n os .any,⟨[],rfl,(λo ho=>nomatch ho),rfl⟩,?_,?_⟩
  ·rintro i d ρ hd ⟨os,lo,ok,rfl⟩
   obtain⟨hi,rfl⟩:=dH hd
   have n2:=T2 (by omega)
   refine⟨rfl,n,rfl,by omega,by omega,λa a0 a1=>⟨rfl,n - 1,rfl,by omega,by omega,λb b0 b1=>⟨(show(0:Int)<n by omega),⟨rfl,rfl,λc c0 c1=>?_⟩⟩⟩⟩
   obtain⟨t0,t1⟩:=J6 c0 c1
   refine⟨?_,zK,rfl,by rw[Á];omega,os++[(a,(a+1+b) % n,c / 10)],by rw[È,ĸ,lo],λo ho=>?_,?_⟩
   ·exact⟨by decide,by decide⟩
   ·rcases Ù.mp ho with z|z
    ·exact ok o z
    ·rw[Ë.mp z]
     have h1:=Int.emod_nonneg (a+1+b) (b:=n) (by omega)
     have h2:=Ű (a+1+b) (b:=n) (by omega)
     refine⟨⟨⟨a0,a1⟩,⟨h1,h2⟩,?_⟩,t0,t1⟩
     show a≠(a+1+b) % n
     by_cases h:a+1+b<n
     ·rw[Int.emod_eq_of_lt (by omega) h]
      omega
     ·rw[←Int.sub_emod_right,Int.emod_eq_of_lt (by omega) (by omega)]
      omega
   ·show [Sl.pen TP,.im (.int n),.dw 0 (.list (os.map oD++[oD (a,(a+1+b) % n,c / 10)])),.any,.any,.any]=_
    unfold RO
    rw[â]
    rfl
  ·rintro ρ ⟨os,lo,ok,rfl⟩
   rw[bN] at lo
   exact⟨os,by omega,ok,rfl⟩
 obtain⟨os,lo,ok,rfl⟩:=h
 exact⟨rfl,q os lo ok⟩
end
section
variable {P:Program}{w:World}{K:Ø}{mg:Str->Option Value}{base:Heap}{f:Addr}{fd:FuncData}
def sc9:FnScope ["limit","thing"] ["limit","thing"] (aj (top 12)):=zC
def QJ:(["number","limit","thing"]:List Str).Nodup:=by decide +kernel
def QG:(["hop","limit","thing"]:List Str).Nodup:=by decide +kernel
def zU(F:Fun K "is_rising" "is_rising" (top 12) f fd)(B:Ļ mg)(W:è P w K mg base 2 "is_below" ["limit","thing"] (spD wU))(HO:è P w K mg base 1 "hops" ["places"] (spD JZ)):FnOk P w K mg base CX0 3 f fd ["limit","thing"] (spD sG):=by
 refine F.ok sc9 ĩ (λcdv A outer s H vs Q E hr h=>?_)
 refine⟨_,dD (qb (PDW.pt (eZ (dz (bV (cO Fb B.isinstance (dv 1) (mQ (v:=.ty "list") rfl B.list boot_list rfl)))) (eH (dz (bV (nU rfl B.all Dl.boot_all (au (gD ["number"] rfl (iC (dv 1)) (λc=>dF (eF (i:=0) QJ rfl (Ň rfl))) (λc=>bW) (λc=>dc W hr (au (dv 1) (au (dv 0) aL)))) aL))))))) (bA (bM gF)) lg)
  (bA (bM (nU rfl B.all Dl.boot_all (au (gD ["hop"] rfl (iC (dc HO hr (au (dv 1) aL))) (λc=>dF (eF (i:=0) QG rfl (Ň rfl))) (λc=>bW) (λc=>Om (jj (dv 0) bI (λ_ _=>rfl)) (jj (dv 0) bI (λ_ _=>rfl)))) aL)))),bC h ?_⟩
 rintro ds P ⟨n,d,rfl,hf,q⟩
 refine⟨[.im (.int n),aG d],rfl,?_⟩
 cases d with
 |list es =>
  have hl:=hf es rfl
  have q:P (.bool (es.all (dh n)&&pN (es.map toI))):=q
  refine bw (A:=True) ⟨by omega,.imm,λi ys=>ys=(es.take i).map λd=>PyData.bool (dh n d),rfl,λi d ys hd hy=>?_,λys hy=>?_⟩
  ·subst hy
   by_cases hi:cQ d=true
   ·have en:∀k,norm k d=.imm:=λk=>cF hi
    unfold gNm
    simp only[en]
    exact bf (B:=True) ⟨n,d,rfl,rfl,(rK _ hd).symm⟩
   ·have en:∀k,norm k d=k:=λk=>bU hi
    unfold gNm
    simp only[en]
    exact bf (B:=True) ⟨n,d,rfl,rfl,(rK _ hd).symm⟩
  ·dsimp only at hy
   rw[Ħ] at hy
   refine⟨es.map (dh n),by rw[hy,î];rfl,?_⟩
   rw[List.all_map]
   show if (!es.all (dh n))=true then _ else _
   cases ha:es.all (dh n) with
   |false =>
    rw[ha] at q
    exact⟨rfl,q⟩
   |true =>
    rw[ha] at q
    have q:P (.bool (pN (es.map toI))):=q
    have ei:=ints_of ha
    generalize hm:es.map toI=l at q ei
    have hll:l.length<=400:=by rw[←hm,Á];exact hl
    subst ei
    -- rising
    refine⟨l,rfl,hll,?_,.imm,λi ys=>ys=((l.dropLast.zip (l.drop 1)).take i).map λt=>PyData.bool (decide (t.1<t.2)),rfl,?_,?_⟩
    ·rw[Á,ũ,List.length_dropLast]
     omega
    ·rintro i d ys hd rfl
     obtain⟨t,ht,rfl⟩:=jL hd
     exact bf (B:=True) ⟨.int t.1,rfl,.int t.2,rfl,rfl,(rK _ ht).symm⟩
    rintro ys rfl
    refine⟨(l.dropLast.zip (l.drop 1)).map λt=>decide (t.1<t.2),?_,rfl,?_⟩
    ·rw[Á,Ħ,î]
     rfl
    ·rw[List.all_map]
     rw[qF] at q
     exact q
 |tuple es=>rcases yZ (.tuple es) with e|e <;> rw[e] <;> exact bf (B:=True) ⟨rfl,q⟩
 |_=>exact bf (B:=True) ⟨rfl,q⟩
def Qs:FnScope ["n","thing"] ["n","thing"] (aj (top 13)):=zC
def zV(F:Fun K "is_proper_set" "is_proper_set" (top 13) f fd)(B:Ļ mg)(R:è P w K mg base 3 "is_rising" ["limit","thing"] (spD sG)):FnOk P w K mg base CX0 4 f fd ["n","thing"] (spD yQ):=by
 refine F.ok Qs ĩ (λcdv A outer s H vs Q E hr h=>?_)
 refine⟨_,bA (bM (cX (dc R hr (au (dv 0) (au (dv 1) aL))) (dR (yp bI (nP B.len (au (dv 1) aL)) (dv 0))))),bC h ?_⟩
 rintro ds P ⟨n,d,rfl,hf,q⟩
 refine⟨[.im (.int n),aG d],rfl,?_⟩
 have q:P (.bool (Ci n d&&O4 n d)):=q
 cases d with
 |list es =>
  refine⟨n,.list es,rfl,hf,d7 (λc=>?_) (λc=>?_)⟩
  ·rw[c] at q
   have q:P (.bool (decide ((1:Int)<=(es.length:Nat))&&decide (((es.length:Nat):Int)<n))):=q
   show if decide ((1:Int)<=(es.length:Nat))=true then _ else _
   refine d7 (λc1=>⟨rfl,?_⟩) (λc1=>⟨rfl,?_⟩)
   ·rw[c1] at q
    exact q
   ·have c1:decide ((1:Int)<=(es.length:Nat))=false:=by simpa using c1
    rw[c1] at q
    exact q
  ·have c:Ci n (.list es)=false:=by simpa using c
   rw[c] at q
   exact⟨rfl,q⟩
 |tuple es=>rcases yZ (.tuple es) with e|e <;> rw[e] <;> exact⟨n,.tuple es,rfl,hf,bw (A:=True) ⟨rfl,q⟩⟩
 |_=>exact⟨n,_,rfl,hf,bw (A:=True) ⟨rfl,q⟩⟩
def Qw:FnScope ["web","thing"] ["web","thing"] (aj (top 14)):=zC
def uH(F:Fun K "check_set" "check_set" (top 14) f fd)(PS:è P w K mg base 4 "is_proper_set" ["n","thing"] (spD yQ)):FnOk P w K mg base CX0 5 f fd ["web","thing"] (spD FQ):=by
 refine F.ok Qw ĩ (λcdv A outer s H vs Q E hr h=>?_)
 refine⟨_,bA (qb (dz (bV (dc PS hr (au (jj (dv 0) bI (λ_ _=>rfl)) (au (dv 1) aL))))) (bA jT) lg),bC h ?_⟩
 rintro ds P ⟨n,us,l,rfl,hP,q⟩
 refine⟨[.im (aF n us),.sh (.list (l.map Í))],?_,?_⟩
 ·show [aG (aF n us),aG (.list (l.map Í))]=_
  rw[ł]
  rfl
 refine⟨.int n,rfl,n,_,rfl,Fv (by have:=hP.few;have:=hP.n16;omega),?_⟩
 show if (!qN n (.list (l.map Í)))=true then _ else _
 rw[vQ hP]
 exact bw (A:=False) q
def NT:FnScope ["tie","some"] ["tie","some"] (aj (top 16)):=zC
def fLv(ds:List D)(P:D->Prop):Prop:=∃(t:Tie) (e:List D) (l:List Int),ds=[.tuple (.int t.1::.int t.2::e),.list (l.map Í)]/\cM e=true/\P (.bool (lv l t))
def zX(F:Fun K "leaves" "leaves" (top 16) f fd):FnOk P w K mg base CX0 1 f fd ["tie","some"] (spD fLv):=by
 refine F.ok NT ĩ (λcdv A outer s H vs Q E hr h=>?_)
 refine⟨_,bA (bM (Ol (Jw hr.units (jj (dv 0) bI (λ_ _=>rfl)) (dv 1)) (Jw hr.units (jj (dv 0) bI (λ_ _=>rfl)) (dv 1)))),bC h ?_⟩
 rintro ds P ⟨t,ee,l,rfl,im,q⟩
 refine⟨[.im (.tuple (.int t.1::.int t.2::ee)),.sh (.list (l.map Í))],?_,?_⟩
 ·show [aG (.tuple (.int t.1::.int t.2::ee)),_]=_
  have e:aG (.tuple (.int t.1::.int t.2::ee))=.im (.tuple (.int t.1::.int t.2::ee)):=if_pos (show(true&&(true&&cM ee))=true by rw[im];rfl)
  rw[e]
  rfl
 refine⟨.int t.1,eX (xs:=Í t.1::.int t.2::ee) (j:=0) rfl,rfl,rC l,.int t.2,eX (xs:=Í t.1::.int t.2::ee) (j:=1) rfl,rfl,rC l,rfl,?_⟩
 show P (.bool (!decide ((((l.map Í).any λe=>Ė e (.int t.1)):Bool)=((l.map Í).any λe=>Ė e (.int t.2)))))
 rw[Dl.any_ints,Dl.any_ints]
 have e:(!decide ((decide (t.1∈l):Bool)=decide (t.2∈l)))=lv l t:=by
  unfold lv
  cases decide (t.1∈l) <;> cases decide (t.2∈l) <;> rfl
 rw[e]
 exact q
def Qv:FnScope ["web","some"] ["web","some"] (aj (top 17)):=zC
def QK:(["tie","web","some"]:List Str).Nodup:=by decide +kernel
def K9(F:Fun K "ties_that_leave" "ties_that_leave" (top 17) f fd)(CH:è P w K mg base 5 "check_set" ["web","thing"] (spD FQ))(LV:è P w K mg base 1 "leaves" ["tie","some"] (spD fLv)):FnOk P w K mg base CX0 6 f fd ["web","some"] (spD Pk):=by
 refine F.ok Qv ĩ (λcdv A outer s H vs Q E hr h=>?_)
 refine⟨_,dD (jU (dc CH hr (au (dv 0) (au (dv 1) aL)))) (bA (bM (gD ["tie"] rfl (iC (jj (dv 0) bI (λ_ _=>rfl))) (λc=>dF (eF (i:=0) QK rfl (Ň rfl)))
  (λc=>iZ (bV (dc LV hr (au (dv 0) (au (dv 2) aL))))) (λc=>dv 0)))),bC h ?_⟩
 rintro ds P ⟨n,us,l,rfl,hP,hl,q⟩
 refine⟨[.im (aF n us),.sh (.list (l.map Í))],?_,n,us,l,rfl,hP,?_⟩
 ·show [aG (aF n us),aG (.list (l.map Í))]=_
  rw[ł]
  rfl
 refine⟨.tuple (us.map pD),rfl,by rw[Á];omega,.imm,λi ys=>ys=((us.take i).filter (lv l)).map pD,rfl,?_,?_⟩
 ·rintro i d ys hd rfl
  obtain⟨t,ht,rfl⟩:=jL hd
  refine⟨t,[],l,rfl,rfl,?_⟩
  show if lv l t=true then _ else _
  have sn:=IK (lv l) pD ht
  cases hb:lv l t with
  |true =>
   rw[hb,if_pos rfl] at sn
   exact bf (B:=True) ⟨rfl,sn.symm⟩
  |false =>
   rw[hb,if_neg Ð,õ] at sn
   exact bw (A:=True) sn.symm
 ·rintro ys rfl
  refine⟨rfl,?_⟩
  rw[take_all us (by rw[Á];exact Å _)]
  exact q
def Qu:FnScope ["web","some"] ["web","some"] (aj (top 18)):=zC
def Hz(F:Fun K "leaving" "leaving" (top 18) f fd)(B:Ļ mg)(TL:è P w K mg base 6 "ties_that_leave" ["web","some"] (spD Pk)):FnOk P w K mg base CX0 7 f fd ["web","some"] (spD uY):=by
 refine F.ok Qu ĩ (λcdv A outer s H vs Q E hr h=>?_)
 refine⟨_,bA (bM (nP B.len (au (dc TL hr (au (dv 0) (au (dv 1) aL))) aL))),bC h ?_⟩
 rintro ds P ⟨n,us,l,rfl,hP,hl,q⟩
 refine⟨[.im (aF n us),.sh (.list (l.map Í))],?_,n,us,l,rfl,hP,hl,rfl,?_⟩
 ·show [aG (aF n us),aG (.list (l.map Í))]=_
  rw[ł]
  rfl
 ·show P (.int (((us.filter (lv l)).map pD).length:Nat))
  rw[Á]
  exact q
def Qt:FnScope ["web","falls","some"] ["web","falls","some"] (aj (top 19)):=zC
def Hy(F:Fun K "need" "need" (top 19) f fd)(B:Ļ mg)(LV:è P w K mg base 7 "leaving" ["web","some"] (spD uY)):FnOk P w K mg base CX0 8 f fd ["web","falls","some"] (spD JX):=by
 refine F.ok Qt ĩ (λcdv A outer s H vs Q E hr h=>?_)
 refine⟨_,bA (bM (Hu rfl B.max (au (fj (K6 (dv 1) bI) (dc LV hr (au (dv 0) (au (dv 2) aL)))) (au bI aL)))),bC h ?_⟩
 rintro ds P ⟨n,us,l,fa,rfl,hP,hl,q⟩
 refine⟨[.im (aF n us),.im (.int fa),.sh (.list (l.map Í))],?_,n,us,l,rfl,hP,hl,rfl,q⟩
 show [aG (aF n us),aG (.int fa),aG (.list (l.map Í))]=_
 rw[ł]
 rfl
end
inductive Tr where
 |tri (k:Int) (a b:Tr)
 |bar (l:List Int)
 |wts (rs:List (List Int×Int))
abbrev Rw:=List Int×Int
def rwD(r:Rw):D:=.tuple [iD r.1,.int r.2]
def Tr.D:Tr->Dl.D
 |.tri k a b=>.tuple [.str "try",.int k,a.D,b.D]
 |.bar l=>.tuple [.str "barred",iD l]
 |.wts rs=>.tuple [.str "weights",.list (rs.map rwD)]
def Rb(n:Int)(rs:List Rw):Prop:=rs.length<=4/\∀r∈rs,Proper n r.1/\1<=r.2/\r.2<=10 ^ 29
def Tr.Ok(n:Int)(m:Nat):Nat->Tr->Prop
 |d+1,.tri k a b=>0<=k/\k<(m:Int)/\a.Ok n m d/\b.Ok n m d
 |0,.tri _ _ _=>False
 |_,.bar l=>Proper n l
 |_,.wts rs=>Rb n rs
abbrev oA(os:List Off)(k:Int):Off:=os.getD k.toNat (0,0,0)
def lvN(us:List Tie)(l:List Int):Nat:=(us.filter (lv l)).length
def ofN(os:List Off)(ks l:List Int):Nat:=(ks.filter λk=>lv l (tO (oA os k))).length
def lack(us:List Tie)(os:List Off)(ks l:List Int):Int:=if (2:Int) - (lvN us l:Nat) - (ofN os ks l:Nat) > 0 then 2 - (lvN us l:Nat) - (ofN os ks l:Nat) else 0
def wOn(o:Off)(rs:List Rw):Int:=((rs.filter λr=>lv r.1 (tO o)).map (·.2)).sum
def cst(os:List Off)(ks:List Int):Int:=(ks.map λk=>(oA os k).2.2).sum
def dM(m:Nat):List Int:=(ä m).map λi=>0+((i:Nat):Int)
def fM(m:Nat)(tk lf:List Int):List Int:=(dM m).filter λk=>!decide (k∈tk)&&!decide (k∈lf)
def Hv(m:Nat)(lf:List Int):List Int:=(dM m).filter λk=>!decide (k∈lf)
def hL(us:List Tie)(os:List Off)(num:Int):Tr->List Int->List Int->Bool
 |.tri k a b,tk,lf=>!decide (k∈tk++lf)&&(hL us os num a (tk++[k]) lf&&hL us os num b tk (lf++[k]))
 |.bar l,_,lf=>decide (0<lack us os (Hv os.length lf) l)
 |.wts rs,tk,lf=>((fM os.length tk lf).all λk=>decide (wOn (oA os k) rs<=(oA os k).2.2))&&decide (num<=cst os tk+(rs.map λr=>r.2 * lack us os tk r.1).sum)
structure At41(us:List Tie)(os:List Off)(num:Int)(tk lf:List Int)(ws:List Tie)(free:List Int)(ask:Int):Prop where
 nd:tk.Nodup
 rg:∀k∈tk,0<=k/\k<((os.length:Nat):Int)
 ap:∀k∈tk,k∉lf
 ws:ws.Perm (us++(cA os tk).map mmT)
 fr:free=fM os.length tk lf
 as:ask=num - cst os tk
def Lp(us vs:List Tie)(l:List Int):lvN (us++vs) l=lvN us l+lvN vs l:=by
 unfold lvN
 rw[Ŭ,È]
def HX{us vs:List Tie}(h:us.Perm vs)(l:List Int):lvN us l=lvN vs l:=(h.filter (lv l)).length_eq
def Ln(os:List Off)(ks l:List Int):lvN ((cA os ks).map mmT) l=ofN os ks l:=by
 unfold lvN ofN
 rw[Ms]
 unfold cA
 rw[List.filter_map,Á]
 rfl
def mR{us ws:List Tie}{os:List Off}{ks:List Int}(h:ws.Perm (us++(cA os ks).map mmT))(l:List Int):lvN ws l=lvN us l+ofN os ks l:=by
 rw[HX h,Lp,Ln]
section
variable {P:Program}{w:World}{K:Ø}{mg:Str->Option Value}{base:Heap}{f:Addr}{fd:FuncData}
end
def dJ{m:Nat}{k:Int}:k∈dM m↔0<=k/\k<(m:Int):=by
 unfold dM
 rw[List.mem_map]
 constructor
 ·rintro⟨i,hi,rfl⟩
  have:=Ŷ.mp hi
  omega
 ·rintro⟨h0,h1⟩
  exact⟨k.toNat,Ŷ.mpr (by omega),by omega⟩
def bJ(m:Nat):(dM m).Pairwise (·<·):=by
 unfold dM
 rw[ŵ]
 exact List.pairwise_lt_range.imp λh=>by omega
def cj{m:Nat}{tk lf:List Int}{k:Int}:k∈fM m tk lf↔(0<=k/\k<(m:Int))/\k∉tk/\k∉lf:=by
 unfold fM
 rw[ć,dJ,Ý,ģ,ģ,decide_eq_false_iff_not,decide_eq_false_iff_not]
def p8(m:Nat)(tk lf:List Int):jo m (fM m tk lf):=⟨(bJ m).filter _,λk hk=>(cj.mp hk).1⟩
def Iz(m:Nat)(tk lf:List Int)(k:Int):fM m tk (lf++[k])=(fM m tk lf).filter λx=>!decide (x=k):=by
 unfold fM
 rw[List.filter_filter]
 refine Ŕ λx _=>?_
 rw[į]
 simp only[Ý,ģ,decide_eq_false_iff_not,Ù,Ë]
 constructor
 ·exact λh=>⟨λe=>h.2 (.inr e),h.1,λe=>h.2 (.inl e)⟩
 ·exact λh=>⟨h.2.1,λe=>e.elim h.2.2 h.1⟩
def Iw(m:Nat)(tk lf:List Int)(k:Int):fM m (tk++[k]) lf=(fM m tk lf).filter λx=>!decide (x=k):=by
 unfold fM
 rw[List.filter_filter]
 refine Ŕ λx _=>?_
 rw[į]
 simp only[Ý,ģ,decide_eq_false_iff_not,Ù,Ë]
 constructor
 ·exact λh=>⟨λe=>h.1 (.inr e),λe=>h.1 (.inl e),h.2⟩
 ·exact λh=>⟨λe=>e.elim h.2.1 h.1,h.2.2⟩
def At41.per{us:List Tie}{os:List Off}{num:Int}{tk lf:List Int}{ws:List Tie}{free:List Int}{ask:Int}(h:At41 us os num tk lf ws free ask):(tk++free).Perm (Hv os.length lf):=by
 refine(List.perm_ext_iff_of_nodup ?_ ?_).mpr λk=>?_
 ·refine List.nodup_append.mpr ⟨h.nd,?_,λa ha b hb e=>?_⟩
  ·rw[h.fr]
   exact qK (p8 _ _ _).1
  ·rw[h.fr] at hb
   subst e
   exact(cj.mp hb).2.1 ha
 ·exact qK ((bJ _).filter _)
 ·unfold Hv
  rw[Ù,h.fr,cj,ć,dJ,ģ,decide_eq_false_iff_not]
  constructor
  ·rintro(a|a)
   ·exact⟨h.rg k a,h.ap k a⟩
   ·exact⟨a.1,a.2.2⟩
  ·rintro⟨a,b⟩
   by_cases c:k∈tk
   ·exact .inl c
   ·exact .inr ⟨a,c,b⟩
def At41.wl{us:List Tie}{os:List Off}{num:Int}{tk lf:List Int}{ws:List Tie}{free:List Int}{ask:Int}(h:At41 us os num tk lf ws free ask)(lu:us.length<=40)(lo:os.length<=8):ws.length<=52:=by
 have a:=h.ws.length_eq
 have b:=uL h.nd h.rg
 unfold cA at a
 rw[È,Á,Á] at a
 omega
def yC{n:Int}{os:List Off}{ks:List Int}(ok:OkO n os)(h:∀k∈ks,0<=k/\k<((os.length:Nat):Int)):OkN n (cA os ks):=λt ht=>by
 obtain⟨k,hk,rfl⟩:=ą.mp ht
 exact rD (ks:=[k]) ok ⟨List.pairwise_singleton _ _,λx hx=>by rw[Ë.mp hx];exact h k hk⟩ _ (ą.mpr ⟨k,by simp,rfl⟩)
def At41.ok{us:List Tie}{os:List Off}{num:Int}{tk lf:List Int}{ws:List Tie}{free:List Int}{ask:Int}{n:Int}(h:At41 us os num tk lf ws free ask)(ou:OkN n us)(oo:OkO n os):OkN n ws:=λt ht =>
 (ou.app (yF (yC oo h.rg))) t (h.ws.mem_iff.mp ht)
def At41.left{us:List Tie}{os:List Off}{num:Int}{tk lf:List Int}{ws:List Tie}{free:List Int}{ask k:Int}(h:At41 us os num tk lf ws free ask)(hk:k∈free):At41 us os num tk (lf++[k]) ws (free.filter λx=>!decide (x=k)) ask:=by
 have hk:=hk
 rw[h.fr,cj] at hk
 refine⟨h.nd,h.rg,λx hx e=>?_,h.ws,by rw[h.fr,Iz],h.as⟩
 rcases Ù.mp e with e|e
 ·exact h.ap x hx e
 ·rw[Ë.mp e] at hx
  exact hk.2.1 hx
def At41.take{us:List Tie}{os:List Off}{num:Int}{tk lf:List Int}{ws ys:List Tie}{free:List Int}{ask k:Int}(h:At41 us os num tk lf ws free ask)(hk:k∈free)(hp:ys.Perm (ws++(cA os [k]).map mmT)):At41 us os num (tk++[k]) lf ys (free.filter λx=>!decide (x=k)) (ask - (oA os k).2.2):=by
 have hk:=hk
 rw[h.fr,cj] at hk
 refine⟨List.nodup_append.mpr ⟨h.nd,by simp,λa ha b hb e=>?_⟩,λx hx=>?_,λx hx=>?_,?_,by rw[h.fr,Iw],?_⟩
 ·rw[Ë.mp hb] at e
  subst e
  exact hk.2.1 ha
 ·rcases Ù.mp hx with e|e
  ·exact h.rg x e
  ·rw[Ë.mp e]
   exact hk.1
 ·rcases Ù.mp hx with e|e
  ·exact h.ap x e
  ·rw[Ë.mp e]
   exact hk.2.2
 ·refine hp.trans ?_
  refine(h.ws.append_right _).trans ?_
  unfold cA
  rw[â,â,ď]
 ·rw[h.as]
  unfold cst
  rw[â,List.sum_append]
  show num - _ - _=num - (_+((oA os k).2.2+0))
  omega
def HJ(os:List Off)(a b l:List Int):ofN os (a++b) l=ofN os a l+ofN os b l:=by
 unfold ofN
 rw[Ŭ,È]
def uJ{os:List Off}{a b:List Int}(h:a.Perm b)(l:List Int):ofN os a l=ofN os b l:=(h.filter _).length_eq
def At41.Q7{us:List Tie}{os:List Off}{num:Int}{tk lf:List Int}{ws:List Tie}{free:List Int}{ask:Int}(h:At41 us os num tk lf ws free ask)(l:List Int):lack ws os free l=lack us os (Hv os.length lf) l:=by
 have a:=mR h.ws l
 have b:=uJ (os:=os) h.per l
 rw[HJ] at b
 unfold lack
 rw[a,←b]
 congr 1
 all_goals first|omega|(rw[eq_iff_iff];omega)
def one_le(m:Nat):1<=m+1:=Nat.le_add_left 1 m
section
variable {P:Program}{w:World}{K:Ø}{mg:Str->Option Value}{base:Heap}{f:Addr}{fd:FuncData}{kk:Nat}
end
section
variable {P:Program}{w:World}{K:Ø}{mg:Str->Option Value}{base:Heap}{f:Addr}{fd:FuncData}
end
def Fg:∀t:Tr,cQ t.D=false
 |.tri k a b=>by
  have:=Fg a
  show(cQ (.str "try")&&(cQ (.int k)&&(cQ a.D&&(cQ b.D&&true))))=false
  rw[this,Bool.false_and,Bool.and_false,Bool.and_false]
 |.bar l=>rfl
 |.wts rs=>rfl
def jH(t:Tr):¬cQ t.D=true:=by
 rw[Fg]
 exact Ð
def vN(d:D):(norm .snw d).le .n0=true:=by
 show(if cQ d then Kd.imm else .snw).le .n0=true
 split <;> rfl
def RT(n:Int)(kk:Nat)(fr:List Int)(s7:Sl):List Sl:=[.pen TP,.im (.int n),.sh (iD fr),.im (.int ((kk:Nat):Int)),.any,.any,.any,s7,.any]
section
variable {P:Program}{w:World}{K:Ø}{mg:Str->Option Value}{base:Heap}{f:Addr}{fd:FuncData}{CN:Addr}{kk cc:Nat}
end
def lD(l:List Int):D:=.list (l.map Í)
def subs:Nat->List (List Int)
 |0=>[[]]
 |k+1=>subs k++(subs k).map λl=>l++[0+((k:Nat):Int)]
def oN:∀k,(subs k).length=2 ^ k
 |0=>rfl
 |k+1=>by
  show(subs k++(subs k).map _).length=_
  rw[È,Á,oN k,Nat.pow_succ]
  omega
def j7:∀k,∃r,subs k=[]::r/\∀l∈r,l≠[]
 |0=>⟨[],rfl,λl h=>nomatch h⟩
 |k+1=>by
  obtain⟨r,e,h⟩:=j7 k
  refine⟨r++(subs k).map λl=>l++[0+((k:Nat):Int)],?_,λl hl=>?_⟩
  ·have h2:∀M:List (List Int),subs k++M=[]::(r++M):=λM=>by rw[e];rfl
   exact h2 _
  ·rcases Ù.mp hl with z|z
   ·exact h l z
   ·obtain⟨a,_,rfl⟩:=ą.mp z
    simp
def dj:∀k (l:List Int),l∈subs k->l.Pairwise (·<·)/\(∀x∈l,0<=x/\x<k)/\l.length<=k
 |0,l,h=>by
  rw[Ë.mp h]
  exact⟨.nil,λx h=>(nomatch h),Å _⟩
 |k+1,l,h=>by
  rcases Ù.mp h with z|z
  ·obtain⟨h1,h2,h3⟩:=dj k l z
   exact⟨h1,λx hx=>by have:=h2 x hx;omega,by omega⟩
  ·obtain⟨a,ha,rfl⟩:=ą.mp z
   obtain⟨h1,h2,h3⟩:=dj k a ha
   refine⟨List.pairwise_append.mpr ⟨h1,by simp,λx hx y hy=>?_⟩,λx hx=>?_,by rw[È,ĸ];omega⟩
   ·rw[Ë.mp hy]
    have:=h2 x hx
    omega
   ·rcases Ù.mp hx with z|z
    ·have:=h2 x z;omega
    ·rw[Ë.mp z];omega
def nF(k:Nat):List Int:=(ä k).map λi=>0+((i:Nat):Int)
def mW(p:Int->Bool):∀k,(nF k).filter p∈subs k
 |0=>Ë.mpr rfl
 |k+1=>by
  have e:nF (k+1)=nF k++[0+((k:Nat):Int)]:=by
   unfold nF
   rw[List.range_succ,â]
   rfl
  rw[e,Ŭ]
  cases hp:p (0+((k:Nat):Int)) with
  |true =>
   rw[List.filter_cons_of_pos hp]
   exact á _ (ą.mpr ⟨_,mW p k,rfl⟩)
  |false =>
   rw[List.filter_cons_of_neg (by rw[hp];exact Ð)]
   rw[List.filter_nil,õ]
   exact ĝ _ (mW p k)
def fSB(ds:List D)(P:D->Prop):Prop:=∃c:Int,ds=[.int c]/\0<=c/\c<=7/\P (.list ((subs c.toNat).map lD))
def tD(n:Int)(us:List Tie)(fa:Int):Prop:=∀l∈(subs (n - 1).toNat).drop 1,fa<((us.filter (lv l)).length:Nat)
def sy(ds:List D)(P:D->Prop):Prop:=∃(n:Int) (us:List Tie) (fa:Int),ds=[aF n us,.int fa]/\1<=n/\n<=8/\us.length<=100/\∀b:Bool,(b=true↔tD n us fa)->P (.bool b)
def PX(n:Int)(us:List Tie)(fa:Int)(d:D):Prop:=(d=.none/\tD n us fa)\/∃l:List Int,d=.list (l.map Í)/\l∈(subs (n - 1).toNat).drop 1/\Proper n l/\((us.filter (lv l)).length:Int)<=fa
def jm(ds:List D)(P:D->Prop):Prop:=∃(n:Int) (us:List Tie) (fa:Int),ds=[aF n us,.int fa]/\1<=n/\n<=8/\us.length<=100/\∀d:D,PX n us fa d->P d
def gK{n:Int}{l:List Int}(n1:1<=n)(n8:n<=8)(h:l∈(subs (n - 1).toNat).drop 1):Proper n l:=by
 obtain⟨r,e,hr⟩:=j7 (n - 1).toNat
 obtain⟨h1,h2,h3⟩:=dj _ l (List.mem_of_mem_drop h)
 rw[e] at h
 have hne:=hr l h
 have hp:0<l.length:=š.mpr hne
 exact⟨hp,by omega,λx hx=>by have:=h2 x hx;omega,h1,by omega⟩
section
variable {P:Program}{w:World}{K:Ø}{mg:Str->Option Value}{base:Heap}{f:Addr}{fd:FuncData}
def Jt:FnScope ["count","told","place"] ["count"] (aj (top 15)):=zC
def Oz:(["some","count","told","place"]:List Str).Nodup:=by decide +kernel
def Ou(F:Fun K "sets_below" "sets_below" (top 15) f fd)(B:Ļ mg):FnOk P w K mg base CX0 1 f fd ["count"] (spD fSB):=by
 refine F.ok Jt ĩ (λcdv A outer s H vs Q E hr h=>?_)
 have nd:=Jt.nd
 refine⟨_,dD (kZ none (cW (i:=1) nd rfl (Ň rfl) (iU (au (iU aL) aL))))
  (dD (lA ń rfl (fQ B.range (au (dv 0) aL)) (dF (eF (i:=2) nd rfl (Or.inr rfl)))
   (bA (kZ none (cW (i:=1) nd rfl (Ň rfl) (Dh (dv 1) (gD ["some"] rfl (iC (dv 1)) (λc=>dF (eF (i:=0) Oz rfl (Ň rfl))) (λc=>bW) (λc=>Dh (dv 0) (iU (au (dv 3) aL)))))))))
  (bA (bM (dv 1)))),bC h ?_⟩
 rintro ds P ⟨c,rfl,c0,c7,q⟩
 refine⟨[.im (.int c),.any,.any],rfl,zK,zK,⟨by omega,by omega⟩,rfl,λ(i:Nat) ρ=>∃s2,ρ=[.im (.int c),.sn (.list ((subs i).map lD)),s2],⟨_,rfl⟩,?_,?_⟩
 ·rintro i d ρ hd ⟨s2,rfl⟩
  obtain⟨hi,rfl⟩:=dH hd
  have ls:((subs i).map lD).length<=64:=by
   rw[Á,oN]
   exact Nat.pow_le_pow_right (by decide) (show i<=6 by omega)
  refine⟨by omega,.new,λj ys=>ys=((subs i).take j).map λl=>lD (l++[0+((i:Nat):Int)]),rfl,?_,?_⟩
  ·rintro j d ys hd rfl
   obtain⟨l,hl,rfl⟩:=jL hd
   have hok:=dj i l (Ò hl)
   have im:=jO (l++[0+((i:Nat):Int)])
   rw[â] at im
   refine bf (B:=True) ⟨zK,?_,.inl ⟨im,rfl,?_⟩⟩
   ·show(l.map Í).length+1<=1000
    rw[Á]
    omega
   ·dsimp only
    rw[rK _ hl]
    show _++[ñ (l.map Í++[.int (0+((i:Nat):Int))])]=_++[ñ ((l++[0+((i:Nat):Int)]).map Í)]
    rw[â]
    rfl
  ·rintro ys rfl
   refine⟨?_,.inr ⟨.im (.int (0+((i:Nat):Int))),?_⟩⟩
   ·rw[Á (as:=Ś _ _),Ċ]
    rw[Á] at ls ⊢
    omega
   ·have e:(subs i).map lD++(((subs i).take ((subs i).map lD).length).map λl=>lD (l++[0+((i:Nat):Int)]))=(subs (i+1)).map lD:=by
     rw[Á,Ħ]
     show _=(subs i++(subs i).map _).map lD
     rw[â,î]
     rfl
    rw[e]
    rfl
 ·rintro ρ ⟨s2,rfl⟩
  rw[bN]
  exact⟨rfl,q⟩
def Js:FnScope ["web","falls","some"] ["web","falls"] (aj (top 21)):=zC
def Dw(F:Fun K "needy_set" "needy_set" (top 21) f fd)(SB:è P w K mg base 1 "sets_below" ["count"] (spD fSB))(NE:è P w K mg base 8 "need" ["web","falls","some"] (spD JX)):FnOk P w K mg base CX0 9 f fd ["web","falls"] (spD jm):=by
 refine F.ok Js ĩ (λcdv A outer s H vs Q E hr h=>?_)
 have nd:=Js.nd
 refine⟨_,dD (lA ń rfl (iC (vY (dc SB hr (au (fj (jj (dv 0) bI (λ_ _=>rfl)) bI) aL)) (bY bI) bZ)) (dF (eF (i:=2) nd rfl (Ň rfl)))
   (bA (qb (nH (dc NE hr (au (dv 0) (au (dv 1) (au (dv 2) aL)))) bI) (bA (bM (dv 2))) lg)))
  (bA (bM dU)),bC h ?_⟩
 rintro ds P ⟨n,us,fa,rfl,n1,n8,lu,q⟩
 refine⟨[.im (aF n us),.im (.int fa),.any],?_,.int n,rfl,n - 1,rfl,by omega,by omega,.inr ?_⟩
 ·show [aG (aF n us),aG (.int fa),.any]=_
  rw[ł]
  rfl
 dsimp only
 rw[jX,←List.map_drop]
 refine⟨rfl,λ(i:Nat) ρ=>∃s2,ρ=[.im (aF n us),.im (.int fa),s2]/\∀l∈((subs (n - 1).toNat).drop 1).take i,fa<((us.filter (lv l)).length:Nat),⟨_,rfl,λl h=>nomatch h⟩,?_,?_⟩
 ·rintro i d ρ hd ⟨s2,rfl,al⟩
  obtain⟨l,hl,rfl⟩:=jL hd
  refine⟨n,us,l,fa,rfl,gK n1 n8 (Ò hl),lu,d7 (λc=>?_) (λc=>⟨_,rfl,λl' hl'=>?_⟩)⟩
  ·have c:=of_decide_eq_true c
   refine⟨rfl,q _ (.inr ⟨l,rfl,Ò hl,gK n1 n8 (Ò hl),?_⟩)⟩
   split at c <;> omega
  ·rw[Ĕ,hl] at hl'
   rcases Ù.mp hl' with z|z
   ·exact al l' z
   ·have z:l'=l:=by simpa using z
    rw[z]
    have c:¬(0<if 0 > fa+1 - ((us.filter (lv l)).length:Nat) then 0 else fa+1 - ((us.filter (lv l)).length:Nat)):=λy=>c (decide_eq_true y)
    split at c <;> omega
 ·rintro ρ ⟨s2,rfl,al⟩
  rw[Á,Ħ] at al
  exact⟨rfl,q _ (.inl ⟨rfl,al⟩)⟩
def NQ:FnScope ["web","falls"] ["web","falls"] (aj (top 22)):=zC
def zT(F:Fun K "stands" "stands" (top 22) f fd)(NS:è P w K mg base 9 "needy_set" ["web","falls"] (spD jm)):FnOk P w K mg base CX0 10 f fd ["web","falls"] (spD sy):=by
 refine F.ok NQ ĩ (λcdv A outer s H vs Q E hr h=>?_)
 refine⟨_,bA (bM (qY (dc NS hr (au (dv 0) (au (dv 1) aL))) dU)),bC h ?_⟩
 rintro ds P ⟨n,us,fa,rfl,n1,n8,lu,q⟩
 refine⟨[.im (aF n us),.im (.int fa)],?_,n,us,fa,rfl,n1,n8,lu,λd hd=>?_⟩
 ·show [aG (aF n us),aG (.int fa)]=_
  rw[ł]
  rfl
 rcases hd with ⟨rfl,h⟩|⟨l,rfl,ml,pr,c⟩
 ·exact⟨rfl,q _ ⟨λ_=>h,λ_=>rfl⟩⟩
 ·exact⟨rfl,q _ ⟨λz=>absurd z Ð,λz=>absurd (z l ml) (by omega)⟩⟩
end
def d9(n:Int)(us:List Tie)(os:List Off)(ks:List Int):Prop:=∀l,Proper n l->2<=lvN us l+ofN os ks l
def InR(m:Nat)(ks:List Int):Prop:=ks.Nodup/\∀k∈ks,0<=k/\k<((m:Nat):Int)
def GD(n:Int)(us:List Tie)(os:List Off)(num:Int):Prop:=∀ks,InR os.length ks->d9 n us os ks->num<=cst os ks
def wC:∀{a b:List Int},a.Nodup->(∀x∈a,x∈b)->a.length<=b.length
 |[],_,_,_=>û _
 |x::a,b,nd,h=>by
  obtain⟨n1,n2⟩:=List.nodup_cons.mp nd
  have hx:=h x Ú
  have ih:=wC (b:=b.erase x) n2 λy hy=>(List.mem_erase_of_ne (λe:y=x=>n1 (by rw[←e];exact hy))).mpr (h y (Õ _ hy))
  rw[List.length_erase_of_mem hx] at ih
  have:=List.length_pos_of_mem hx
  rw[ð]
  omega
def El{l l':List Int}{t:Tie}(h1:t.1∈l↔t.1∈l')(h2:t.2∈l↔t.2∈l'):lv l t=lv l' t:=by
 unfold lv
 rw[decide_eq_decide.mpr h1,decide_eq_decide.mpr h2]
def Em{l l':List Int}{t:Tie}(h1:t.1∈l'↔t.1∉l)(h2:t.2∈l'↔t.2∉l):lv l' t=lv l t:=by
 unfold lv
 by_cases a:t.1∈l <;> by_cases b:t.2∈l <;> simp[h1,h2,a,b]
def Alike(n:Int)(l' l:List Int):Prop:=(∀x,0<=x->x<n->(x∈l'↔x∈l))\/(∀x,0<=x->x<n->(x∈l'↔x∉l))
def vp{n:Int}{l' l:List Int}{t:Tie}(h:Alike n l' l)(ok:OkT n t):lv l' t=lv l t:=by
 obtain⟨⟨a0,a1⟩,⟨b0,b1⟩,_⟩:=ok
 rcases h with h|h
 ·exact El (h _ a0 a1) (h _ b0 b1)
 ·exact Em (h _ a0 a1) (h _ b0 b1)
def Bg{n:Int}{us:List Tie}{l' l:List Int}(h:Alike n l' l)(ok:OkN n us):lvN us l'=lvN us l:=by
 unfold lvN
 rw[Ŕ λt ht=>vp h (ok t ht)]
def Bf{n:Int}{os:List Off}{ks:List Int}{l' l:List Int}(h:Alike n l' l)(ok:OkO n os)(hk:∀k∈ks,0<=k/\k<((os.length:Nat):Int)):ofN os ks l'=ofN os ks l:=by
 unfold ofN
 rw[Ŕ λk z=>vp h (yC ok hk _ (ą.mpr ⟨k,z,rfl⟩))]
def gU{m:Nat}{k:Int}:k∈nF m↔0<=k/\k<(m:Int):=dJ
def vL{n:Int}(n1:1<=n){l:List Int}(h:Proper n l):∃l'∈(subs (n - 1).toNat).drop 1,Alike n l' l:=by
 have key:∀p:Int->Bool,(∃x,0<=x/\x<n - 1/\p x=true)->(nF (n - 1).toNat).filter p∈(subs (n - 1).toNat).drop 1:=λp ⟨x,x0,x1,px⟩=>by
  have hm:=mW p (n - 1).toNat
  obtain⟨r,e,_⟩:=j7 (n - 1).toNat
  rw[e] at hm ⊢
  rcases Ē.mp hm with z|z
  ·have:x∈(nF (n - 1).toNat).filter p:=ć.mpr ⟨gU.mpr ⟨x0,by omega⟩,px⟩
   rw[z] at this
   cases this
  ·exact z
 by_cases hn:n - 1∈l
 ·obtain⟨x,x0,x1,hx⟩:∃x,0<=x/\x<n - 1/\x∉l:=by
   apply Classical.byContradiction
   intro c
   have sub:∀x∈nF n.toNat,x∈l:=λx hx=>by
    have:=gU.mp hx
    by_cases e:x=n - 1
    ·rw[e];exact hn
    ·exact Classical.byContradiction λz=>c ⟨x,this.1,by omega,z⟩
   have nd:(nF n.toNat).Nodup:=(bJ n.toNat).imp λh=>by omega
   have:=wC nd sub
   have e:(nF n.toNat).length=n.toNat:=by unfold nF;rw[Á,List.length_range]
   have:=h.few
   omega
  refine⟨_,key (λx=>!decide (x∈l)) ⟨x,x0,x1,by simpa using hx⟩,.inr λy y0 y1=>?_⟩
  rw[ć,gU]
  simp only[ģ,decide_eq_false_iff_not]
  refine⟨λz=>z.2,λz=>⟨⟨y0,?_⟩,z⟩⟩
  have:y≠n - 1:=λe=>z (e ▸ hn)
  omega
 ·obtain⟨x,hx⟩:∃x,x∈l:=by
   cases l with
   |nil=>exact absurd h.one (by simp)
   |cons a r=>exact⟨a,Ú⟩
  have hr:=h.rng x hx
  have:x≠n - 1:=λe=>hn (e ▸ hx)
  refine⟨_,key (λx=>decide (x∈l)) ⟨x,hr.1,by omega,by simpa using hx⟩,.inl λy y0 y1=>?_⟩
  rw[ć,gU]
  simp only[decide_eq_true_eq]
  refine⟨λz=>z.2,λz=>⟨⟨y0,?_⟩,z⟩⟩
  have:y≠n - 1:=λe=>hn (e ▸ z)
  omega
def bL{n:Int}{us ws:List Tie}{os:List Off}{ks:List Int}(n1:1<=n)(n8:n<=8)(ok:OkN n us)(oko:OkO n os)(hk:∀k∈ks,0<=k/\k<((os.length:Nat):Int))(hw:ws.Perm (us++(cA os ks).map mmT)):tD n ws 1↔d9 n us os ks:=by
 constructor
 ·intro h l hl
  obtain⟨l',m',al⟩:=vL n1 hl
  have:=h l' m'
  have e:(ws.filter (lv l')).length=lvN ws l':=rfl
  rw[e,mR hw,Bg al ok,Bf al oko hk] at this
  omega
 ·intro h l hl
  have e:(ws.filter (lv l)).length=lvN ws l:=rfl
  have:=h l (gK n1 n8 hl)
  rw[e,mR hw]
  omega
def Gp{os:List Off}{a b:List Int}(h:a.Perm b):cst os a=cst os b:=by
 unfold cst
 induction h with
 |nil=>rfl
 |cons x _ ih=>rw[ë,Ķ,ë,Ķ,ih]
 |swap x y l=>rw[ë,Ķ,ë,Ķ,ë,Ķ,ë,Ķ];omega
 |trans _ _ a b=>rw[a,b]
def fCO(ds:List D)(P:D->Prop):Prop:=∃(b:Bool) (os:List Off) (ks:List Int),ds=[oT b os,iD ks]/\ks.length<=8/\(∀k∈ks,0<=k/\k<((os.length:Nat):Int))/\P (.int (cst os ks))
def fTF:Nat->List D->(D->Prop)->Prop
 |0,_,_=>False
 |d+1,ds,P=>∃(n:Int) (us ws:List Tie) (b:Bool) (os:List Off) (free:List Int) (ask num:Int) (tk lf:List Int),ds=[aF n ws,oT b os,iD free,.int ask]/\1<=n/\n<=8/\us.length<=40/\OkN n us/\os.length<=8/\OkO n os/\At41 us os num tk lf ws free ask/\free.length<=d/\GD n us os num /\
  ∀t,t.Ok n os.length d->hL us os num t tk lf=true->P t.D
def Ad{n:Int}{us ws:List Tie}{os:List Off}{num ask:Int}{tk lf free:List Int}(h:At41 us os num tk lf ws free ask)(oo:OkO n os)(c:ask<=0):hL us os num (.wts []) tk lf=true:=by
 show(((fM os.length tk lf).all λk=>decide (wOn (oA os k) []<=(oA os k).2.2))&&decide (num<=cst os tk+0))=true
 rw[Ý,Č,decide_eq_true_iff]
 refine⟨λk hk=>decide_eq_true ?_,by have:=h.as;omega⟩
 obtain⟨k0,k1⟩:=(cj.mp hk).1
 exact(oo _ (Ò (HN (b:=true) k0 k1))).2.1
def Eu{us ws:List Tie}{os:List Off}{num ask:Int}{tk lf free l:List Int}(h:At41 us os num tk lf ws free ask)(c:(((ws.filter (lv l)).length:Nat):Int)+((ofN os free l:Nat):Int)<2):hL us os num (.bar l) tk lf=true:=by
 refine decide_eq_true ?_
 rw[←h.Q7]
 have e:(ws.filter (lv l)).length=lvN ws l:=rfl
 rw[e] at c
 unfold lack
 split <;> omega
section
variable {P:Program}{w:World}{K:Ø}{mg:Str->Option Value}{base:Heap}{f:Addr}{fd:FuncData}{kk:Nat}
def nA:FnScope ["offers","numbers"] ["offers","numbers"] (aj (top 28)):=zC
def rH:(["number","offers","numbers"]:List Str).Nodup:=by decide +kernel
def wA(F:Fun K "cost_of" "cost_of" (top 28) f fd)(B:Ļ mg)(m_sum:mg "sum"=none):FnOk P w K mg base CX0 1 f fd ["offers","numbers"] (spD fCO):=by
 refine F.ok nA ĩ (λcdv A outer s H vs Q E hr h=>?_)
 have nd:=nA.nd
 refine⟨_,Ŋ (í (ö (Wr.qU rfl m_sum (À (Wr.gD ["number"] rfl (Ş (Ê 1)) (λc=>(Ć (i:=0) rH rfl zQ)) (λc=>Wr.bW) (λc=>(þ (þ (Ê 1) (Ê 0)) Æ))) Â)))),bC h ?_⟩
 rintro ds P ⟨b,os,ks,rfl,lk,hk,q⟩
 cases b
 all_goals
  first
  |refine⟨[.sh (.list (os.map oD)),.sh (iD ks)],by show [aG (oT true os),aG (iD ks)]=_;rw[fV];rfl,?_⟩
  |refine⟨[.im (.tuple (os.map oD)),.sh (iD ks)],by show [aG (oT false os),aG (iD ks)]=_;rw[fV];rfl,?_⟩
  refine rP ks Í (λk=>Í (oA os k).2.2) .imm rfl (by omega) (λk z A B h=>?_) ?_
  ·obtain⟨k0,k1⟩:=hk k z
   exact bf (B:=B) ⟨_,jG k0 k1,.int (oA os k).2.2,rfl,rfl,h⟩
  ·exact⟨ks.map (λk=>(oA os k).2.2),by rw[î];rfl,rfl,q⟩
def gP:FnScope ["made","offers","free","asked","some","useful","tried","rest","taken"] ["made","offers","free","asked"] (aj (top 31)):=zC
def je:(["number","made","offers","free","asked","some","useful","tried","rest","taken"]:List Str).Nodup:=by decide +kernel
def La(F:Fun K "tree_for" "tree_for" (top 31) f fd)(B:Ļ mg)(C_needy_set:è P w K mg base 9 "needy_set" ["web","falls"] (spD jm))(C_leaves:è P w K mg base 1 "leaves" ["tie","some"] (spD fLv))(C_leaving:è P w K mg base 7 "leaving" ["web","some"] (spD uY))(C_tree_for:è P w K mg base (kk+12) "tree_for" ["made","offers","free","asked"] (spD (fTF kk)))(C_with_offers:è P w K mg base 2 "with_offers" ["web","offers","numbers"] (spD lN)):FnOk P w K mg base CX0 (kk+13) f fd ["made","offers","free","asked"] (spD (fTF (kk+1))):=by
 refine F.ok gP ĩ (λcdv A outer s H vs Q E hr h=>?_)
 have nd:=gP.nd
 refine⟨_,Ŋ (Ď (Ū (Wr.qP (Ê 3) Æ) (í (ö (Ā (À Wr.gY (À (ž Â) Â))))) ò)
  (Ď (ų none (i:=4) nd rfl zQ (ō (hk:=by omega) C_needy_set hr (À (Ê 0) (À Æ Â))))
  (Ď (Wr.jR none ["number"] (i:=5) rfl nd rfl zQ (Ş (Ê 2)) (λc=>(Ć (i:=0) je rfl zQ)) (λc=>(Wr.iZ (Wr.bV (ō (hk:=by omega) C_leaves hr (À (þ (Ê 2) (Ê 0)) (À (Ê 5) Â)))))) (λc=>(Ê 0)))
  (Ď (Ū (Wr.vX (Wr.eO (ō (hk:=by omega) C_leaving hr (À (Ê 0) (À (Ê 4) Â))) (Ų B.len (À (Ê 5) Â))) Æ) (í (ö (Ā (À Wr.gY (À (Ê 4) Â))))) ò)
  (Ď (ų none (i:=6) nd rfl zQ (þ (Ê 5) Æ))
  (Ď (Wr.jR none ["number"] (i:=7) rfl nd rfl zQ (Ş (Ê 2)) (λc=>(Ć (i:=0) je rfl zQ)) (λc=>(Wr.iZ (Wr.dB hr.units (Ê 0) (Ê 7)))) (λc=>(Ê 0)))
  (Ď (ų none (i:=8) nd rfl zQ (ō (hk:=by omega) C_tree_for hr (À (ō (hk:=by omega) C_with_offers hr (À (Ê 0) (À (Ê 1) (À (ž (À (Ê 6) Â)) Â)))) (À (Ê 1) (À (Ê 7) (À (Wr.fj (Ê 3) (þ (þ (Ê 1) (Ê 6)) Æ)) Â))))))
  (í (ö (Ā (À Wr.gY (À (Ê 6) (À (Ê 8) (À (ō (hk:=by omega) C_tree_for hr (À (Ê 0) (À (Ê 1) (À (Ê 7) (À (Ê 3) Â))))) Â)))))))))))))),bC h ?_⟩
 rintro ds P ⟨n,us,ws,b,os,free,ask,num,tk,lf,rfl,n1,n8,lu,ou,lo,oo,g41,ll,lb,q⟩
 have lf8:free.length<=8:=by
  have:=(p8 os.length tk lf).len
  rw[←g41.fr] at this
  omega
 have hfr:∀k∈free,0<=k/\k<((os.length:Nat):Int):=λk hk=>by
  rw[g41.fr] at hk
  exact(cj.mp hk).1
 have lw:=g41.wl lu lo
 have okw:=g41.ok ou oo
 cases b
 all_goals
  first
  |refine⟨[.im (aF n ws),.sh (.list (os.map oD)),.sh (iD free),.im (.int ask),.any,.any,.any,.any,.any],by show [aG (aF n ws),aG (oT true os),aG (iD free),aG (.int ask),.any,.any,.any,.any,.any]=_;rw[ł,fV];rfl,?_⟩
  |refine⟨[.im (aF n ws),.im (.tuple (os.map oD)),.sh (iD free),.im (.int ask),.any,.any,.any,.any,.any],by show [aG (aF n ws),aG (oT false os),aG (iD free),aG (.int ask),.any,.any,.any,.any,.any]=_;rw[ł,fV];rfl,?_⟩
  refine d7 (λc=>?_) (λc=>?_)
  ·have c:ask<=0:=of_decide_eq_true c
   refine⟨zK,zK,rfl,q (.wts []) (by cases kk <;> exact⟨û _,(λr hr=>nomatch hr)⟩) (Ad g41 oo c)⟩
  have c:¬ask<=0:=λz=>c (decide_eq_true z)
  refine⟨n,ws,1,rfl,n1,n8,by omega,λd hd=>?_⟩
  rcases hd with ⟨rfl,st⟩|⟨l,rfl,ml,pr,cl⟩
  ·exact absurd (lb tk ⟨g41.nd,g41.rg⟩ ((bL n1 n8 ou oo g41.rg g41.ws).mp st)) (by have:=g41.as;omega)
  refine Ew free Í (λk=>lv l (tO (oA os k))) Í .imm rfl (by omega) (λk hk A B hA hB=>?_) ?_
  ·obtain⟨k0,k1⟩:=hfr k hk
   exact⟨_,jG k0 k1,tO (oA os k),[.int (oA os k).2.2],l,rfl,rfl,d7 (λc=>⟨rfl,hA c⟩) (λc=>hB (Bool.eq_false_iff.mpr c))⟩
  refine⟨n,ws,l,rfl,pr,by omega,?_⟩
  have lU:((free.filter λk=>lv l (tO (oA os k))).map Í).length=ofN os free l:=Á ..
  have c:¬ask<=0:=c
  refine d7 (λc2=>?_) (λc2=>?_)
  ·have c2:(((ws.filter (lv l)).length:Nat):Int)+((((free.filter λk=>lv l (tO (oA os k))).map Í).length:Nat):Int)<2:=of_decide_eq_true c2
   refine⟨zK,rfl,q (.bar l) (by cases kk <;> exact pr) (Eu g41 (by rw[lU] at c2;exact c2))⟩
  have c2:¬(((ws.filter (lv l)).length:Nat):Int)+((((free.filter λk=>lv l (tO (oA os k))).map Í).length:Nat):Int)<2:=λz=>c2 (decide_eq_true z)
  obtain⟨z,r,er⟩:∃z r,(free.filter λk=>lv l (tO (oA os k)))=z::r:=by
   cases e:free.filter λk=>lv l (tO (oA os k)) with
   |nil=>rw[e] at c2;exact absurd c2 (by simp;omega)
   |cons z r=>exact⟨z,r,rfl⟩
  have zf:z∈free:=(ć.mp (show z∈free.filter λk=>lv l (tO (oA os k)) by rw[er];exact Ú)).1
  obtain⟨z0,z1⟩:=hfr z zf
  refine⟨.int z,by rw[er];exact(show atI ((z::r).map Í) ((0:Nat):Int)=_ from eX rfl),?_⟩
  refine Ew free Í (λx=>!decide (x=z)) Í .imm rfl (by omega) (λx hx A B hA hB=>?_) ?_
  ·show if (!decide (x=z))=true then _ else _
   exact d7 (λc=>⟨rfl,hA c⟩) (λc=>hB (by simpa using c))
  have lr:(free.filter λx=>!decide (x=z)).length<free.length:=by
   refine Nat.lt_of_le_of_ne (List.length_filter_le _ _) λe=>?_
   have:=List.length_filter_eq_length_iff.mp e z zf
   simp at this
  obtain⟨d,rfl⟩:∃d,kk=d+1:=⟨kk - 1,by omega⟩
  have rz:jo os.length [z]:=⟨List.pairwise_singleton _ _,λx hx=>by rw[Ë.mp hx];exact⟨z0,z1⟩⟩
  have nz:z∉tk++lf:=by
   have zf:=zf
   rw[g41.fr,cj] at zf
   exact λy=>(Ù.mp y).elim zf.2.1 zf.2.2
  first
   |refine⟨one_le 999,n,ws,false,os,[z],rfl,lw,by omega,okw,lo,oo,rz,λys hp=>?_⟩
   |refine⟨one_le 999,n,ws,true,os,[z],rfl,lw,by omega,okw,lo,oo,rz,λys hp=>?_⟩
  refine⟨oD (oA os z),jG z0 z1,.int (oA os z).2.2,rfl,?_⟩
  first
   |refine⟨n,us,ys,false,os,_,_,num,tk++[z],lf,rfl,n1,n8,lu,ou,lo,oo,g41.take zf hp,by omega,lb,λt1 h1 e1=>?_⟩
   |refine⟨n,us,ys,true,os,_,_,num,tk++[z],lf,rfl,n1,n8,lu,ou,lo,oo,g41.take zf hp,by omega,lb,λt1 h1 e1=>?_⟩
  refine iB (s:=.sn t1.D) (by rw[bU (jH t1),bU (jH t1)];rfl) ?_
  first
   |refine⟨n,us,ws,false,os,_,ask,num,tk,lf++[z],rfl,n1,n8,lu,ou,lo,oo,g41.left zf,by omega,lb,λt2 h2 e2=>?_⟩
   |refine⟨n,us,ws,true,os,_,ask,num,tk,lf++[z],rfl,n1,n8,lu,ou,lo,oo,g41.left zf,by omega,lb,λt2 h2 e2=>?_⟩
  refine⟨zK,?_,q (.tri z t1 t2) ⟨z0,z1,h1,h2⟩ ?_⟩
  ·show(norm (joins [(Kd.imm,PyData.str (ù "try")),(.imm,.int z),(.snw,t1.D),(norm .new t2.D,t2.D)]) (.tuple [.str (ù "try"),.int z,t1.D,t2.D])).le .n0=true
   rw[bU (jH t2)]
   exact vN _
  ·show(!decide (z∈tk++lf)&&(hL us os num t1 (tk++[z]) lf&&hL us os num t2 tk (lf++[z])))=true
   rw[decide_eq_false nz,e1,e2]
   rfl
def Ld(F:Fun K "tree_for" "tree_for" (top 31) f fd):FnOk P w K mg base CX0 12 f fd ["made","offers","free","asked"] (spD (fTF 0)) :=
 F.ok gP (ĩ λds P h=>h.elim) (λcdv A outer s H vs Q E hr h=>by
  obtain⟨_,_,_,t,_⟩:=h
  exact t.elim)
def Ot(k:Nat)(F:Fun K "tree_for" "tree_for" (top 31) f fd)(B:Ļ mg)(b:Binds K fd ["made","offers","free","asked"] [])(m:mg "tree_for"=some (.ref f))(C1:è P w K mg base 9 "needy_set" ["web","falls"] (spD jm))(C2:è P w K mg base 1 "leaves" ["tie","some"] (spD fLv))(C3:è P w K mg base 7 "leaving" ["web","some"] (spD uY))(C4:è P w K mg base 2 "with_offers" ["web","offers","numbers"] (spD lN)):FnOk P w K mg base CX0 (k+12) f fd ["made","offers","free","asked"] (spD (fTF k)):=by
 induction k with
 |zero=>exact Ld F
 |succ k ih=>exact La F B C1 C2 C3 ⟨f,fd,ih,b,F.kp,m⟩ C4
def Lb(F:Fun K "tree_for" "tree_for" (top 31) f fd)(B:Ļ mg)(b:Binds K fd ["made","offers","free","asked"] [])(m:mg "tree_for"=some (.ref f))(C1:è P w K mg base 9 "needy_set" ["web","falls"] (spD jm))(C2:è P w K mg base 1 "leaves" ["tie","some"] (spD fLv))(C3:è P w K mg base 7 "leaving" ["web","some"] (spD uY))(C4:è P w K mg base 2 "with_offers" ["web","offers","numbers"] (spD lN)):FnOk P w K mg base CX0 19 f fd ["made","offers","free","asked"] (spD (fTF 7)):=Ot 7 F B b m C1 C2 C3 C4
end
def lamOf:Expr->Arguments×Expr×Scope×Pos
 |.Lambda a b s p=>(a,b,s,p)
 |e=>(⟨[],[],none,[],[],none,[]⟩,e,{ kind:=.function,names:=[],isGenerator:=false,isCoroutine:=false },⟨0,0,0,0⟩)
def Im:List Stmt->Expr
 |[.For _ (.Call _ _ [k] _) _ _ _,_]=>k.value
 |_=>.Constant .none 0 ⟨0,0,0,0⟩
def O6(st:Stmt):Arguments:=(lamOf (Im (bQ st))).1
def O5(st:Stmt):Expr:=(lamOf (Im (bQ st))).2.1
def Il(st:Stmt):Scope:=(lamOf (Im (bQ st))).2.2.1
def lamP(st:Stmt):Pos:=(lamOf (Im (bQ st))).2.2.2
def caq:Str:=("cheapest_answer":Str)++".<locals>."++"<lambda>"
def fD(PT:Addr):Pn:=uy PT (lamP (top 30)) caq
def yP(dc dx:D)(k:Int):Prop:=∃(b:Bool) (os:List Off) (ks:List Int),dc=oT b os/\dx=iD ks/\ks.length<=8/\(∀k∈ks,0<=k/\k<((os.length:Nat):Int))/\k=cst os ks
def fCA(ds:List D)(P:D->Prop):Prop:=∃(n:Int) (us:List Tie) (b:Bool) (os:List Off),ds=[aF n us,oT b os]/\1<=n/\n<=8/\us.length<=40/\OkN n us/\os.length<=6/\OkO n os/\((∀ks,InR os.length ks->¬d9 n us os ks)->P .none) /\
 ∀ks,jo os.length ks->d9 n us os ks->GD n us os (cst os ks)->P (iD ks)
def tZ{m:Nat}(h:m<=6):(subs m).length<=1000:=by
 rw[oN]
 have:m=0\/m=1\/m=2\/m=3\/m=4\/m=5\/m=6:=by omega
 rcases this with rfl|rfl|rfl|rfl|rfl|rfl|rfl <;> decide
def jt{m:Nat}{l:List Int}(h:l∈subs m):jo m l:=⟨(dj m l h).1,(dj m l h).2.1⟩
def jo.inr{m:Nat}{l:List Int}(h:jo m l):InR m l:=⟨h.1.imp λh=>by omega,h.2⟩
def yN{m:Nat}{ks:List Int}(h:InR m ks):∃l∈subs m,l.Perm ks:=by
 refine⟨_,mW (λx=>decide (x∈ks)) m,(List.perm_ext_iff_of_nodup ?_ h.1).mpr λx=>?_⟩
 ·exact((bJ m).filter _).imp λh=>by omega
 ·rw[ć,gU,decide_eq_true_iff]
  exact⟨λz=>z.2,λz=>⟨h.2 x z,z⟩⟩
def vo{n:Int}{us:List Tie}{os:List Off}{a b:List Int}(h:a.Perm b)(an:d9 n us os b):d9 n us os a:=λl pr=>by rw[uJ h];exact an l pr
def EY:∀{a b:List Int},lD a=lD b->a=b:=λ{a b} e=>by
 have e:a.map Í=b.map Í:=by injection e
 exact(List.map_inj_right λx y h=>by injection h).mp e
def mj{os:List Off}{L:List (List Int)}{ps:List (Int×D)}(hp:ps.Perm ((L.map (cst os)).zip (L.map lD))){p:Int×D}:p∈ps↔∃l∈L,p=(cst os l,lD l):=by
 rw[hp.mem_iff,List.zip_map',List.mem_map]
 exact⟨λ⟨l,h,e⟩=>⟨l,h,e.symm⟩,λ⟨l,h,e⟩=>⟨l,h,e.symm⟩⟩
section
variable {P:Program}{w:World}{K:Ø}{mg:Str->Option Value}{base:Heap}{f:Addr}{fd:FuncData}{PT:Addr}
def Jr:FnScope ["web","offers","numbers"] ["web","offers"] (aj (top 30)):=zC
def Af(b:Nat):LamScope ["some"] ["offers"] (Il (top 30)) [(ù "offers",b)]:=by
 have fr:∀y∈(Il (top 30)).names,y.2=.free->y.1="offers":=by decide +kernel
 have lw:List.lookup (ù "offers") [(ù "offers",b)]=some b:=by rw[ô,beq_self_eq_true]
 have inv:∀x c,List.lookup x [(ù "offers",b)]=some c->x="offers":=λx c h=>by
  rw[ô] at h
  cases e1:x == ù "offers" with
  |true=>exact eq_of_beq e1
  |false=>rw[e1] at h;cases h
 refine⟨rfl,rfl,rfl,by decide +kernel,λx hx=>?_,λy hy=>?_,by decide +kernel,λx h=>?_,λx y c h1 h2=>?_⟩
 ·rw[Ë.mp hx];rfl
 ·rw[Ë.mp hy];rfl
 ·have z:x="offers":=fr _ (ĉ h) rfl
  subst z
  exact⟨_,lw⟩
 ·rw[inv x c h1,inv y c h2]
def Ly(C_cost:∀base,è P w K mg base 1 "cost_of" ["offers","numbers"] (spD fCO)){cvs:List V}{base':Heap}{fl c':Addr}{pm ctv:Value}{b:Nat}(hl:cvs.length=1)(e:base'.get? fl=some (ţ "<lambda>" caq (O6 (top 30)) (O5 (top 30)) (Il (top 30)) [(ù "offers",b)] pm c' ctv))(C:Caps base' [(ù "offers",b)] ["offers"] cvs) :
  ∃fd,FnOk P w K mg base' CX0 3 fl fd ["some"] (Kf caq yP cvs c')/\Binds K fd ["some"] []:=by
 refine⟨_,Mr (cvs:=cvs) e (λ_ _ _ _ h=>h.1) (Af b) C (λvs H Q E h=>?_) (λA outer s H vs Q E hr h=>?_),.all λus hl=>?_⟩
 ·obtain⟨_,v0,v1,dc,dx,k,_,rfl,_⟩:=h
  rfl
 ·obtain⟨kn,v0,v1,dc,dx,k,rfl,rfl,r0,r1,⟨b,os,ks,rfl,rfl,lk,hk,rfl⟩,kk⟩:=h
  refine⟨_,(ō (C_cost base') hr (À (Ê 1) (À (Ê 0) Â))).h,?_⟩
  refine⟨gG,H,λ_=>none,[.sh (iD ks),.sh (oT b os)],λk d=>d=.int (cst os ks),?_,?_,λkd d v H' hd A rp=>?_⟩
  ·refine⟨λ_ _ e _=>e,trivial,(λ_ _ e=>(nomatch e)),λi s e=>?_,rfl,trivial⟩
   match i,e with
   |0,e=>cases e;exact⟨v1,rfl,r1.mono (λ_ _=>⟨λz=>z,rfl⟩) (λ_ _ _ e=>e) λ_ _ e=>e⟩
   |1,e=>cases e;exact⟨v0,rfl,r0.mono (λ_ _=>⟨λz=>z,rfl⟩) (λ_ _ _ e=>e) λ_ _ e=>e⟩
  ·exact⟨b,os,ks,rfl,lk,hk,rfl⟩
  ·subst hd
   have:=rp.int'
   subst this
   exact kk H' (λb o e=>A.kp b o e λz=>z)
 ·obtain⟨_,rfl⟩:∃a,us=[a]:=by
   match us,hl with
   |[a],_=>exact⟨a,rfl⟩
  rfl
abbrev xCA(P:Program)(w:World)(K:Ø)(mg:Str->Option Value)(base:Heap)(f c:Addr)(A:Around)(outer:List Env)(s:Shared)(H:Hp)(E:XK):Cx:=(wZ CX0 P w K mg base ["web","offers","numbers"] "cheapest_answer" (aj (top 30)) f (.ref c) A outer s H E).nox
def Ov{c:Addr}{oc kV doc pm ct:Value}{od an:Option Addr}{osl:Array (Option Value)}(lk:K.lookup f=some ⟨oc,od,.func (W.fnOf "cheapest_answer" "cheapest_answer" (eU (top 30)) (bQ (top 30)) (aj (top 30)) .none kV doc pm an (.ref c) ct),osl⟩)(hcd:W.codeIn K (.ref c) "cheapest_answer"=true)(hC:∀h:Heap,K.In h->W.CodeHd h c PT)(hB:base.BuiltinsAt mg PT)(B:Ļ mg)(C_cost:∀base,è P w K mg base 1 "cost_of" ["offers","numbers"] (spD fCO))(C_sets_below:è P w K mg base 1 "sets_below" ["count"] (spD fSB))(C_stands:è P w K mg base 10 "stands" ["web","falls"] (spD sy))(C_with_offers:è P w K mg base 2 "with_offers" ["web","offers","numbers"] (spD lN)) :
  FnOk P w K mg base CX0 12 f (W.fnOf "cheapest_answer" "cheapest_answer" (eU (top 30)) (bQ (top 30)) (aj (top 30)) .none kV doc pm an (.ref c) ct) ["web","offers"] (spT (fD PT) fCA):=by
 refine JV (N:=["web","offers","numbers"]) lk hcd Jr yK (λA outer s H vs Q E hr h=>?_)
 have nd:=Jr.nd
 letI:=grU (fD PT)
 have SLAM:∀{e:Expr}{te:DE}{p pos kp:Pos},Wr.WD (xCA P w K mg base f c A outer s H E) e te->starEach [e] (xCA P w K mg base f c A outer s H E).env=(false,eval e (xCA P w K mg base f c A outer s H E).env)::starEach [] (xCA P w K mg base f c A outer s H E).env ->
   Wr.WD (xCA P w K mg base f c A outer s H E) (.Call (.Name "sorted" p) [e] [⟨some "key",.Lambda (O6 (top 30)) (O5 (top 30)) (Il (top 30)) (lamP (top 30)),kp⟩] pos) (tSL 1 yP te):=λ{e te p pos kp} he hs=>by
  refine⟨PE.wk (vV (X:=xCA P w K mg base f c A outer s H E) (c:=c) (P:=PT) (ys:=["offers"]) (ps:=["some"]) (qual:=caq) (k:=3) (cl:=[(ù "offers",s.heap.objs.size+1)]) (spL:=Kf caq yP) (λcvs base' fl c' pm ctv hl e C=>Ly C_cost hl e C) (Room.in1 (Room.in1 (hr.mono (show 5<=11 by decide)))) rfl B.sorted he.h rfl rfl rfl rfl (hC base) (λ_=>hB) (λ_=>rfl) ?_ ?_ hs) (Ib rfl)⟩
  ·intro y b h
   exact h
  ·intro y hy
   rw[Ë.mp hy]
   exact⟨rfl,_,rfl⟩
 refine⟨_,PSs.nox (Ŋ (Ď (Wr.lA ń rfl (Ş (SLAM (ō C_sets_below hr (À (Ų B.len (À (Ê 1) Â)) Â)) rfl)) (Ć (i:=2) nd rfl zQ) (Ď (Ū (Wr.bV (ō C_stands hr (À (ō C_with_offers hr (À (Ê 0) (À (Ê 1) (À (Ê 2) Â)))) (À Æ Â)))) (í (ö (Ê 2))) ò) (Wr.jV [2] ò)))
  (Wr.jV [2] (í (ö Wr.dU))))),FZ h ?_⟩
 rintro ds P ⟨n,us,b,os,rfl,n1,n8,lu,ou,lo,oo,q0,q1⟩
 have lmo:(os.map oD).length=os.length:=Á ..
 have fin:∀ps:List (Int×D),ps.Perm (((subs os.length).map (cst os)).zip ((subs os.length).map lD))->ps.Pairwise (λp q=>p.1<=q.1)->∀(i:Nat) (p:Int×D),ps[i]?=some p->(∀p∈ps.take i,∀l∈subs os.length,p=(cst os l,lD l)->¬d9 n us os l)->∀l∈subs os.length,p=(cst os l,lD l)->d9 n us os l->GD n us os (cst os l):=λps hp hw i p hpi al l hl e an ks ir an2=>by
  obtain⟨l',hl',pp⟩:=yN ir
  have m':=(mj hp (p:=(cst os l',lD l'))).mpr ⟨l',hl',rfl⟩
  obtain⟨j,hj,ej⟩:=List.getElem_of_mem m'
  have hi:i<ps.length:=(Ö.mp hpi).1
  have ei:ps[i]=p:=(Ö.mp hpi).2
  rw[←Gp pp]
  rcases Nat.lt_trichotomy i j with z|z|z
  ·have:=Ŝ.mp hw i j hi hj z
   rw[ei,ej,e] at this
   exact this
  ·subst z
   rw[ei,e] at ej
   rw[(Prod.mk.inj ej).1]
   exact ÿ _
  ·refine absurd (vo pp an2) (al (cst os l',lD l') ?_ l' hl' rfl)
   rw[←ej]
   exact List.mem_take_iff_getElem.mpr ⟨j,by omega,rfl⟩
 have nin:∀ps:List (Int×D),ps.Perm (((subs os.length).map (cst os)).zip ((subs os.length).map lD))->(∀p∈ps,∀l∈subs os.length,p=(cst os l,lD l)->¬d9 n us os l)->∀ks,InR os.length ks->¬d9 n us os ks:=λps hp al ks ir an=>by
  obtain⟨l,hl,pp⟩:=yN ir
  exact al _ ((mj hp).mpr ⟨l,hl,rfl⟩) l hl rfl (vo pp an)
 have hgk:∀(j:Nat) (x:D) (c:Int),((subs os.length).map lD)[j]?=some x->((subs os.length).map (cst os))[j]?=some c->yP (oT b os) x c:=λj x c h1 h2=>by
  rw[Þ] at h1 h2
  obtain⟨l,hl,rfl⟩:=ň.mp h1
  rw[hl] at h2
  cases h2
  have ml:=Ò hl
  obtain⟨_,hr,hll⟩:=dj _ l ml
  exact⟨b,os,l,rfl,rfl,by omega,hr,rfl⟩
 cases b with
 |true =>
  refine⟨[.im (aF n us),.sh (.list (os.map oD)),.any],by show [aG (aF n us),aG (oT true os),.any]=_;rw[ł,fV];rfl,?_⟩
  refine⟨_,rfl,by omega,by omega,?_⟩
  refine⟨(subs os.length).map lD,(subs os.length).map (cst os),oT true os,by show ñ ((subs ((((os.map oD).length:Nat):Int)).toNat).map lD)=_;rw[lmo,ľ],.inl rfl,by rw[Á,Á],by rw[Á];exact tZ lo,hgk,λps hp hw=>?_⟩
  refine⟨rfl,λ(i:Nat) ρ=>ρ=[.im (aF n us),.sh (.list (os.map oD)),.any]/\∀p∈ps.take i,∀l∈subs os.length,p=(cst os l,lD l)->¬d9 n us os l,⟨rfl,λp h=>nomatch h⟩,?_,?_⟩
  ·rintro i d ρ hd ⟨rfl,al⟩
   rw[Þ] at hd
   obtain⟨p,hpi,rfl⟩:=ň.mp hd
   obtain⟨l,hl,e⟩:=(mj hp).mp (Ò hpi)
   obtain⟨_,hrr,hll⟩:=dj _ l hl
   have ed:p.2=iD l:=by rw[e];rfl
   rw[ed]
   refine⟨n,us,true,os,l,rfl,by omega,by omega,ou,by omega,oo,jt hl,λws hpw=>?_⟩
   have lw:ws.length<=100:=by
    rw[hpw.length_eq,È,Á]
    unfold cA
    rw[Á]
    omega
   refine⟨n,ws,1,rfl,n1,n8,lw,λbb hb=>d7 (λc=>?_) (λc=>?_)⟩
   ·have an:=(bL n1 n8 ou oo hrr hpw).mp (hb.mp c)
    exact⟨rfl,q1 l (jt hl) an (fin ps hp hw i p hpi al l hl e an)⟩
   ·refine⟨rfl,λp' hp' l' hl' e'=>?_⟩
    rw[Ĕ,hpi] at hp'
    rcases Ù.mp hp' with z|z
    ·exact al p' z l' hl' e'
    ·have z:p'=p:=by simpa using z
     rw[z,e] at e'
     have el:=EY (Prod.mk.inj e').2
     rw[←el]
     exact λan=>c (hb.mpr ((bL n1 n8 ou oo hrr hpw).mpr an))
  ·rintro ρ ⟨rfl,al⟩
   rw[Á,Ħ] at al
   exact⟨rfl,q0 (nin ps hp al)⟩
 |false =>
  refine⟨[.im (aF n us),.im (.tuple (os.map oD)),.any],by show [aG (aF n us),aG (oT false os),.any]=_;rw[ł,fV];rfl,?_⟩
  refine⟨_,rfl,by omega,by omega,?_⟩
  refine⟨(subs os.length).map lD,(subs os.length).map (cst os),oT false os,by show ñ ((subs ((((os.map oD).length:Nat):Int)).toNat).map lD)=_;rw[lmo,ľ],.inr rfl,by rw[Á,Á],by rw[Á];exact tZ lo,hgk,λps hp hw=>?_⟩
  refine⟨rfl,λ(i:Nat) ρ=>ρ=[.im (aF n us),.im (.tuple (os.map oD)),.any]/\∀p∈ps.take i,∀l∈subs os.length,p=(cst os l,lD l)->¬d9 n us os l,⟨rfl,λp h=>nomatch h⟩,?_,?_⟩
  ·rintro i d ρ hd ⟨rfl,al⟩
   rw[Þ] at hd
   obtain⟨p,hpi,rfl⟩:=ň.mp hd
   obtain⟨l,hl,e⟩:=(mj hp).mp (Ò hpi)
   obtain⟨_,hrr,hll⟩:=dj _ l hl
   have ed:p.2=iD l:=by rw[e];rfl
   rw[ed]
   refine⟨n,us,false,os,l,rfl,by omega,by omega,ou,by omega,oo,jt hl,λws hpw=>?_⟩
   have lw:ws.length<=100:=by
    rw[hpw.length_eq,È,Á]
    unfold cA
    rw[Á]
    omega
   refine⟨n,ws,1,rfl,n1,n8,lw,λbb hb=>d7 (λc=>?_) (λc=>?_)⟩
   ·have an:=(bL n1 n8 ou oo hrr hpw).mp (hb.mp c)
    exact⟨rfl,q1 l (jt hl) an (fin ps hp hw i p hpi al l hl e an)⟩
   ·refine⟨rfl,λp' hp' l' hl' e'=>?_⟩
    rw[Ĕ,hpi] at hp'
    rcases Ù.mp hp' with z|z
    ·exact al p' z l' hl' e'
    ·have z:p'=p:=by simpa using z
     rw[z,e] at e'
     have el:=EY (Prod.mk.inj e').2
     rw[←el]
     exact λan=>c (hb.mpr ((bL n1 n8 ou oo hrr hpw).mpr an))
  ·rintro ρ ⟨rfl,al⟩
   rw[Á,Ħ] at al
   exact⟨rfl,q0 (nin ps hp al)⟩
end
def fCh(ds:List D)(P:D->Prop):Prop:=∃(n:Int) (us:List Tie) (b:Bool) (os:List Off),ds=[aF n us,oT b os]/\1<=n/\n<=8/\us.length<=40/\OkN n us/\os.length<=6/\OkO n os/\(∀l,Proper n l->(∀ks,InR os.length ks->¬d9 n us os ks)->P (.tuple [.str "barred",iD l])) /\
 ∀ks t,jo os.length ks->d9 n us os ks->GD n us os (cst os ks)->t.Ok n os.length 6->hL us os (cst os ks) t [] []=true->P (.tuple [.str "cheapest",.int (cst os ks),iD ks,t.D])
def vm(us:List Tie)(os:List Off)(num:Int):At41 us os num [] [] us (dM os.length) num:=⟨List.Pairwise.nil,(λk hk=>nomatch hk),(λk hk=>nomatch hk),by show us.Perm (us++[]);rw[õ],by
 unfold fM
 rw[List.filter_eq_self.mpr]
 intro k hk
 rfl,by show num=num - 0;omega⟩
section
variable {P:Program}{w:World}{K:Ø}{mg:Str->Option Value}{base:Heap}{f:Addr}{fd:FuncData}{PT:Addr}
def lM:FnScope ["web","offers","every","numbers","cost"] ["web","offers"] (aj (top 32)):=zC
def uI(F:Fun K "cheapest" "cheapest" (top 32) f fd)(B:Ļ mg)(C_check_offers:è P w K mg base 5 "check_offers" ["web","thing"] (spD Ja))(C_cheapest_answer:è P w K mg base 12 "cheapest_answer" ["web","offers"] (spT (fD PT) fCA))(C_needy_set:è P w K mg base 9 "needy_set" ["web","falls"] (spD jm))(C_with_offers:è P w K mg base 2 "with_offers" ["web","offers","numbers"] (spD lN))(C_cost_of:è P w K mg base 1 "cost_of" ["offers","numbers"] (spD fCO))(C_tree_for:è P w K mg base 19 "tree_for" ["made","offers","free","asked"] (spD (fTF 7))):FnOk P w K mg base CX0 20 f fd ["web","offers"] (spT (fD PT) fCh):=by
 refine F.ok lM yK (λcdv A outer s H vs Q E hr h=>?_)
 have nd:=lM.nd
 letI:=grU (fD PT)
 refine⟨_,Ŋ (Ď (Wr.jU (ō C_check_offers hr (À (Ê 0) (À (Ê 1) Â))))
  (Ď (ų none (i:=2) nd rfl zQ (Wr.fZ rfl B.list B.range (À (Ų B.len (À (Ê 1) Â)) Â)))
  (Ď (ų none (i:=3) nd rfl zQ (Wr.dcU C_cheapest_answer hr (À (Ê 0) (À (Ê 1) Â))))
  (Ď (Ū (Wr.qQ (Ê 3) Wr.dU) (í (ö (Ā (À Wr.gY (À (ō C_needy_set hr (À (ō C_with_offers hr (À (Ê 0) (À (Ê 1) (À (Ê 2) Â)))) (À Æ Â))) Â))))) ò)
  (Ď (ų none (i:=4) nd rfl zQ (ō C_cost_of hr (À (Ê 1) (À (Ê 3) Â))))
  (í (ö (Ā (À Wr.gY (À (Ê 4) (À (Ê 3) (À (ō C_tree_for hr (À (Ê 0) (À (Ê 1) (À (Ê 2) (À (Ê 4) Â))))) Â)))))))))))),FZ h ?_⟩
 rintro ds P ⟨n,us,b,os,rfl,n1,n8,lu,ou,lo,oo,q0,q1⟩
 have lmo:(os.map oD).length=os.length:=Á ..
 have eR:∀k:Nat,k=os.length->ñ (cV 0 (((k:Nat):Int) - 0).toNat)=iD (dM os.length):=λk e=>by
  subst e
  rw[Int.sub_zero,ľ]
  unfold dM
  show ñ ((ä os.length).map _)=ñ (List.map Í _)
  rw[î]
  rfl
 have hR:∀k∈dM os.length,0<=k/\k<((os.length:Nat):Int):=λk hk=>dJ.mp hk
 have lR:(dM os.length).length=os.length:=by
  unfold dM
  rw[Á,List.length_range]
 cases b with
 |true =>
  refine⟨[.im (aF n us),.sh (.list (os.map oD)),.any,.any,.any],by show [aG (aF n us),aG (oT true os),.any,.any,.any]=_;rw[ł,fV];rfl,?_⟩
  refine⟨n,us,true,os,rfl,by omega,oo,?_⟩
  refine⟨⟨by omega,by omega⟩,?_⟩
  refine⟨n,us,true,os,rfl,n1,n8,lu,ou,lo,oo,λno=>?_,λks rk an lb=>?_⟩
  ·refine bf (B:=True) ?_
   refine⟨n,us,true,os,dM os.length,?_,by omega,by omega,ou,by omega,oo,⟨bJ _,hR⟩,λws hw=>?_⟩
   ·show [aF n us,oT true os,.list (cV 0 ((((os.map oD).length:Nat):Int) - 0).toNat)]=_
    rw[eR _ lmo]
   have lw:ws.length<=100:=by
    rw[hw.length_eq,È,Á]
    unfold cA
    rw[Á]
    omega
   refine⟨n,ws,1,rfl,n1,n8,lw,λd hd=>?_⟩
   rcases hd with ⟨rfl,st⟩|⟨l,rfl,ml,pr,cl⟩
   ·exact absurd ((bL n1 n8 ou oo hR hw).mp st) (no _ ⟨(bJ _).imp λh=>by omega,hR⟩)
   ·exact⟨zK,rfl,q0 l pr no⟩
  ·refine bw (A:=True) ?_
   have lk:=rk.len
   refine⟨true,os,ks,rfl,by omega,rk.2,?_⟩
   refine⟨n,us,us,true,os,dM os.length,cst os ks,cst os ks,[],[],?_,n1,n8,lu,ou,by omega,oo,vm us os _,(show(dM os.length).length<=6 by omega),lb,λt h1 h2=>?_⟩
   ·show [aF n us,oT true os,.list (cV 0 ((((os.map oD).length:Nat):Int) - 0).toNat),.int (cst os ks)]=_
    rw[eR _ lmo]
   refine⟨zK,?_,q1 ks t rk an lb h1 h2⟩
   show(norm (joins [(Kd.imm,PyData.str (ù "cheapest")),(.imm,.int (cst os ks)),(.snw,iD ks),(norm .new t.D,t.D)]) (.tuple [.str (ù "cheapest"),.int (cst os ks),iD ks,t.D])).le .n0=true
   rw[bU (jH t)]
   exact vN _
 |false =>
  refine⟨[.im (aF n us),.im (.tuple (os.map oD)),.any,.any,.any],by show [aG (aF n us),aG (oT false os),.any,.any,.any]=_;rw[ł,fV];rfl,?_⟩
  refine⟨n,us,false,os,rfl,by omega,oo,?_⟩
  refine⟨⟨by omega,by omega⟩,?_⟩
  refine⟨n,us,false,os,rfl,n1,n8,lu,ou,lo,oo,λno=>?_,λks rk an lb=>?_⟩
  ·refine bf (B:=True) ?_
   refine⟨n,us,false,os,dM os.length,?_,by omega,by omega,ou,by omega,oo,⟨bJ _,hR⟩,λws hw=>?_⟩
   ·show [aF n us,oT false os,.list (cV 0 ((((os.map oD).length:Nat):Int) - 0).toNat)]=_
    rw[eR _ lmo]
   have lw:ws.length<=100:=by
    rw[hw.length_eq,È,Á]
    unfold cA
    rw[Á]
    omega
   refine⟨n,ws,1,rfl,n1,n8,lw,λd hd=>?_⟩
   rcases hd with ⟨rfl,st⟩|⟨l,rfl,ml,pr,cl⟩
   ·exact absurd ((bL n1 n8 ou oo hR hw).mp st) (no _ ⟨(bJ _).imp λh=>by omega,hR⟩)
   ·exact⟨zK,rfl,q0 l pr no⟩
  ·refine bw (A:=True) ?_
   have lk:=rk.len
   refine⟨false,os,ks,rfl,by omega,rk.2,?_⟩
   refine⟨n,us,us,false,os,dM os.length,cst os ks,cst os ks,[],[],?_,n1,n8,lu,ou,by omega,oo,vm us os _,(show(dM os.length).length<=6 by omega),lb,λt h1 h2=>?_⟩
   ·show [aF n us,oT false os,.list (cV 0 ((((os.map oD).length:Nat):Int) - 0).toNat),.int (cst os ks)]=_
    rw[eR _ lmo]
   refine⟨zK,?_,q1 ks t rk an lb h1 h2⟩
   show(norm (joins [(Kd.imm,PyData.str (ù "cheapest")),(.imm,.int (cst os ks)),(.snw,iD ks),(norm .new t.D,t.D)]) (.tuple [.str (ù "cheapest"),.int (cst os ks),iD ks,t.D])).le .n0=true
   rw[bU (jH t)]
   exact vN _
@[irreducible] def lZ(ds:List D)(P:D->Prop):Prop:=fCh ds P
def IW{ds:List D}{P:D->Prop}(h:fCh ds P):lZ ds P:=by
 unfold lZ
 exact h
def Lg(F:Fun K "cheapest" "cheapest" (top 32) f fd)(B:Ļ mg)(C1:è P w K mg base 5 "check_offers" ["web","thing"] (spD Ja))(C2:è P w K mg base 12 "cheapest_answer" ["web","offers"] (spT (fD PT) fCA))(C3:è P w K mg base 9 "needy_set" ["web","falls"] (spD jm))(C4:è P w K mg base 2 "with_offers" ["web","offers","numbers"] (spD lN))(C5:è P w K mg base 1 "cost_of" ["offers","numbers"] (spD fCO))(C6:è P w K mg base 19 "tree_for" ["made","offers","free","asked"] (spD (fTF 7))):FnOk P w K mg base CX0 20 f fd ["web","offers"] (spT (fD PT) lZ) :=
 (uI F B C1 C2 C3 C4 C5 C6).imp λvs H Q E ⟨ds,P,pi,r,t,k⟩=>⟨ds,P,pi,r,by unfold lZ at t;exact t,k⟩
end
def Pq(ds:List D)(P:D->Prop):Prop:=∃(n:Int) (us:List Tie) (os:List Off) (ks:List Int),ds=[aF n us,oT true os,iD ks]/\1<=n/\n<=8/\us.length<=40/\OkN n us/\os.length<=8/\OkO n os/\jo os.length ks/\∀x:Bool,(x=true↔d9 n us os ks)->P (.bool x)
def oI:Option Int->D
 |some c=>.int c
 |none=>.none
def nlB:Option Int->Option Int->Bool
 |none,_=>true
 |some _,none=>false
 |some a,some b=>decide (b<=a)
def FN(ds:List D)(P:D->Prop):Prop:=∃d,ds=[d]/\((∃l,d=.tuple [.str "barred",iD l]/\P .none)\/∃(c:Int) (ks:List Int) (t:Tr),d=.tuple [.str "cheapest",.int c,iD ks,t.D]/\P (.int c))
def fNL(ds:List D)(P:D->Prop):Prop:=∃a b:Option Int,ds=[oI a,oI b]/\P (.bool (nlB a b))
def G9{m:Nat}{ks:List Int}(h:jo m ks):Ci (m:Int) (iD ks)=true:=by
 show((ks.map Í).all (dh (m:Int))&&pN ((ks.map Í).map toI))=true
 rw[qF,Ý]
 refine⟨Č.mpr λd hd=>?_,Č.mpr λt ht=>decide_eq_true (pZ h.1 t ht)⟩
 obtain⟨k,hk,rfl⟩:=ą.mp hd
 exact decide_eq_true (h.2 k hk)
section
variable {P:Program}{w:World}{K:Ø}{mg:Str->Option Value}{base:Heap}{f:Addr}{fd:FuncData}{CN:Addr}
def jz:FnScope ["web","offers","numbers"] ["web","offers","numbers"] (aj (top 29)):=zC
def rB(F:Fun K "is_answer" "is_answer" (top 29) f fd)(B:Ļ mg)(C_check_offers:è P w K mg base 5 "check_offers" ["web","thing"] (spD Ja))(C_stands:è P w K mg base 10 "stands" ["web","falls"] (spD sy))(C_with_offers:è P w K mg base 2 "with_offers" ["web","offers","numbers"] (spD lN))(C_is_rising:è P w K mg base 3 "is_rising" ["limit","thing"] (spD sG)):FnOk P w K mg base CX0 11 f fd ["web","offers","numbers"] (spD Pq):=by
 refine F.ok jz ĩ (λcdv A outer s H vs Q E hr h=>?_)
 have nd:=jz.nd
 refine⟨_,Ŋ (Ď (Wr.jU (ō C_check_offers hr (À (Ê 0) (À (Ê 1) Â))))
  (í (ö (Wr.cX (ō C_is_rising hr (À (Ų B.len (À (Ê 1) Â)) (À (Ê 2) Â))) (Wr.dR (ō C_stands hr (À (ō C_with_offers hr (À (Ê 0) (À (Ê 1) (À (Ê 2) Â)))) (À Æ Â)))))))),bC h ?_⟩
 rintro ds P ⟨n,us,os,ks,rfl,n1,n8,lu,ou,lo,oo,rk,q⟩
 have lk:=rk.len
 refine⟨[.im (aF n us),.sh (.list (os.map oD)),.sh (iD ks)],?_,?_⟩
 ·show [aG (aF n us),aG (oT true os),aG (iD ks)]=_
  rw[ł,fV]
  rfl
 refine⟨n,us,true,os,rfl,by omega,oo,((os.length:Nat):Int),iD ks,by show [Í (((os.map oD).length:Nat):Int),iD ks]=_;rw[Á],(λes e=>by cases e;rw[Á];omega),?_⟩
 rw[G9 rk]
 refine bf (B:=True) ⟨n,us,true,os,ks,rfl,by omega,by omega,ou,by omega,oo,rk,λws hp=>⟨n,ws,1,rfl,n1,n8,?_,λb hb=>⟨rfl,q b (hb.trans (bL n1 n8 ou oo rk.2 hp))⟩⟩⟩
 rw[hp.length_eq,È,Á]
 unfold cA
 rw[Á]
 omega
def lH:FnScope ["_law_told"] ["_law_told"] (aj (top 41)):=zC
def uE(F:Fun K "_law_dear" "_law_dear" (top 41) f fd)(B:Ļ mg):FnOk P w K mg base CX0 1 f fd ["_law_told"] (spD FN):=by
 refine F.ok lH ĩ (λcdv A outer s H vs Q E hr h=>?_)
 have nd:=lH.nd
 refine⟨_,Ŋ (Ď (Ū (Ĩ hr.units (þ (Ê 0) Æ) Wr.gY) (í (ö Wr.dU)) ò)
  (í (ö (þ (Ê 0) Æ)))),bC h ?_⟩
 rintro ds P ⟨d,rfl,q⟩
 rcases q with ⟨l,rfl,q⟩|⟨c,ks,t,rfl,q⟩
 ·refine⟨[.sh (.tuple [.str "barred",iD l])],rfl,⟨.str "barred",rfl,bf (B:=True) ⟨rfl,q⟩⟩⟩
 ·refine⟨[.sh (.tuple [.str "cheapest",.int c,iD ks,t.D])],rfl,⟨.str "cheapest",rfl,bw (A:=True) ⟨.int c,rfl,rfl,q⟩⟩⟩
@[irreducible] def cZ(ds:List D)(P:D->Prop):Prop:=FN ds P
def Mt{ds:List D}{P:D->Prop}(h:FN ds P):cZ ds P:=by
 unfold cZ
 exact h
def Dy(F:Fun K "_law_dear" "_law_dear" (top 41) f fd)(B:Ļ mg):FnOk P w K mg base CX0 1 f fd ["_law_told"] (spD cZ) :=
 (uE F B).imp λvs H Q E ⟨ds,P,r,t,k⟩=>⟨ds,P,r,by unfold cZ at t;exact t,k⟩
def gQ:FnScope ["_law_one","_law_other"] ["_law_one","_law_other"] (aj (top 42)):=zC
def n6(F:Fun K "_law_no_less" "_law_no_less" (top 42) f fd)(B:Ļ mg):FnOk P w K mg base CX0 1 f fd ["_law_one","_law_other"] (spD fNL):=by
 refine F.ok gQ ĩ (λcdv A outer s H vs Q E hr h=>?_)
 have nd:=gQ.nd
 refine⟨_,Ŋ (í (ö (Wr.Dc (Wr.qY (Ê 0) Wr.dU) (Wr.dR (Wr.cX (Wr.iV (Ê 1) Wr.dU) (Wr.dR (Wr.yj (Ê 0) (Ê 1)))))))),bC h ?_⟩
 rintro ds P ⟨a,b,rfl,q⟩
 cases a with
 |none =>
  cases b with
  |none=>exact⟨[.im .none,.im .none],rfl,bf (B:=True) ⟨rfl,q⟩⟩
  |some b=>exact⟨[.im .none,.im (.int b)],rfl,bf (B:=True) ⟨rfl,q⟩⟩
 |some a =>
  cases b with
  |none=>exact⟨[.im (.int a),.im .none],rfl,bw (A:=True) (bw (A:=True) ⟨rfl,q⟩)⟩
  |some b=>exact⟨[.im (.int a),.im (.int b)],rfl,bw (A:=True) (bf (B:=True) ⟨rfl,q⟩)⟩
end
def Dr(n:Int)(us:List Tie)(os:List Off):Option Int->Prop
 |none=>∀ks,InR os.length ks->¬d9 n us os ks
 |some c=>∃ks,InR os.length ks/\d9 n us os ks/\cst os ks=c/\GD n us os c
structure Emb(os os':List Off)(φ:Int->Int)(t t':Int):Prop where
 rg:∀k,0<=k->k<((os.length:Nat):Int)->0<=φ k/\φ k<((os'.length:Nat):Int)
 ij:∀k j,0<=k->k<((os.length:Nat):Int)->0<=j->j<((os.length:Nat):Int)->φ k=φ j->k=j
 lv:∀k,0<=k->k<((os.length:Nat):Int)->∀l,lv l (tO (oA os' (φ k)))=Nf.lv l (tO (oA os k))
 pr:∀k,0<=k->k<((os.length:Nat):Int)->t' * (oA os' (φ k)).2.2=t * (oA os k).2.2
def Emb.inr{os os':List Off}{φ:Int->Int}{t t':Int}(h:Emb os os' φ t t'){ks:List Int}(hk:InR os.length ks):InR os'.length (ks.map φ):=by
 refine⟨?_,λk hk'=>?_⟩
 ·refine List.pairwise_map.mpr (hk.1.imp_of_mem λ{a b} ha hb ne e=>ne ?_)
  obtain⟨a0,a1⟩:=hk.2 a ha
  obtain⟨b0,b1⟩:=hk.2 b hb
  exact h.ij a b a0 a1 b0 b1 e
 ·obtain⟨j,hj,rfl⟩:=ą.mp hk'
  obtain⟨a,b⟩:=hk.2 j hj
  exact h.rg j a b
def Emb.ofN{os os':List Off}{φ:Int->Int}{t t':Int}(h:Emb os os' φ t t'){ks:List Int}(hk:∀k∈ks,0<=k/\k<((os.length:Nat):Int))(l:List Int):ofN os' (ks.map φ) l=Nf.ofN os ks l:=by
 unfold Nf.ofN
 rw[List.filter_map,Á]
 congr 1
 refine Ŕ λk hk'=>?_
 obtain⟨a,b⟩:=hk k hk'
 exact h.lv k a b l
def Emb.cst{os os':List Off}{φ:Int->Int}{t t':Int}(h:Emb os os' φ t t'):∀{ks:List Int},(∀k∈ks,0<=k/\k<((os.length:Nat):Int))->t' * cst os' (ks.map φ)=t * Nf.cst os ks
 |[],_=>by
  show t' * 0=t * 0
  rw[Int.mul_zero,Int.mul_zero]
 |k::ks,hk=>by
  have ih:=h.cst (ks:=ks) λx hx=>hk x (Õ _ hx)
  obtain⟨a,b⟩:=hk k Ú
  have p:=h.pr k a b
  have e1:Nf.cst os' ((k::ks).map φ)=(oA os' (φ k)).2.2+Nf.cst os' (ks.map φ):=by
   unfold Nf.cst
   rw[ë,ë,Ķ]
  have e2:Nf.cst os (k::ks)=(oA os k).2.2+Nf.cst os ks:=by
   unfold Nf.cst
   rw[ë,Ķ]
  rw[e1,e2,Int.mul_add,Int.mul_add,p,ih]
def sJ{n:Int}{us:List Tie}{os os':List Off}{φ:Int->Int}{t t' c:Int}{y:Option Int}(h:Emb os os' φ t t')(t0:0<=t')(hx:Dr n us os (some c))(hy:Dr n us os' y):∃c',y=some c'/\t' * c'<=t * c:=by
 obtain⟨ks,ik,an,rfl,lb⟩:=hx
 have an':d9 n us os' (ks.map φ):=λl pl=>by
  rw[h.ofN ik.2]
  exact an l pl
 cases y with
 |none=>exact absurd an' (hy _ (h.inr ik))
 |some c' =>
  refine⟨c',rfl,?_⟩
  obtain⟨_,_,_,_,lb'⟩:=hy
  rw[←h.cst ik.2]
  exact Int.mul_le_mul_of_nonneg_left (lb' _ (h.inr ik) an') t0
def Gb{n:Int}{us:List Tie}{os os':List Off}{φ:Int->Int}{x y:Option Int}(h:Emb os os' φ 1 1)(hx:Dr n us os x)(hy:Dr n us os' y):nlB x y=true:=by
 cases x with
 |none=>rfl
 |some c =>
  obtain⟨c',rfl,le⟩:=sJ h (by decide) hx hy
  exact decide_eq_true (by omega)
def Gg{n:Int}{us:List Tie}{os os':List Off}{φ ψ:Int->Int}{t:Int}{x y:Option Int}(h:Emb os os' φ t 1)(h':Emb os' os ψ 1 t)(t0:0<=t)(hx:Dr n us os x)(hy:Dr n us os' y):y=x.map (t * ·):=by
 cases x with
 |none =>
  cases y with
  |none=>rfl
  |some c =>
   obtain⟨c',e,_⟩:=sJ h' t0 hy hx
   cases e
 |some c =>
  obtain⟨c',rfl,le⟩:=sJ h (by decide) hx hy
  obtain⟨c2,e,le2⟩:=sJ h' t0 hy hx
  cases e
  show some c'=some (t * c)
  congr 1
  omega
def Eb{os:List Off}{o:Off}{k:Int}(h0:0<=k)(h1:k<((os.length:Nat):Int)):oA (os++[o]) k=oA os k:=by
 show(os++[o]).getD k.toNat _=os.getD k.toNat _
 rw[Ü,Ü,é (by omega)]
def Ge(os:List Off)(o:Off):Emb os (os++[o]) id 1 1:=⟨λk h0 h1=>⟨h0,by rw[È];show k<_;omega⟩,λk j _ _ _ _ e=>e,λk h0 h1 l=>by
  show Nf.lv l (tO (oA (os++[o]) k))=_
  rw[Eb h0 h1],λk h0 h1=>by
  show 1 * (oA (os++[o]) k).2.2=_
  rw[Eb h0 h1]⟩
def yE{os:List Off}{a:Nat}(ha:a<os.length){k:Int}(h0:0<=k)(h1:k<((os.length:Nat):Int) - 1):oA (os.take a++os.drop (a+1)) k=oA os (if k<(a:Int) then k else k+1):=by
 show(os.take a++os.drop (a+1)).getD k.toNat _=os.getD _ _
 rw[Ü,Ü]
 by_cases c:k<(a:Int)
 ·rw[if_pos c,é (by rw[Ċ];omega),List.getElem?_take_of_lt (by omega)]
 ·have lt:(os.take a).length=a:=by rw[Ċ];omega
  rw[if_neg c,ç (by omega),lt,List.getElem?_drop]
  congr 2
  omega
def Gf{os:List Off}{a:Nat}(ha:a<os.length):Emb (os.take a++os.drop (a+1)) os (λk=>if k<(a:Int) then k else k+1) 1 1:=by
 have ll:(os.take a++os.drop (a+1)).length=os.length - 1:=by
  rw[È,Ċ,ċ]
  omega
 refine⟨λk h0 h1=>?_,λk j k0 k1 j0 j1 e=>?_,λk h0 h1 l=>?_,λk h0 h1=>?_⟩
 ·rw[ll] at h1
  show 0<=(if k<(a:Int) then k else k+1)/\(if k<(a:Int) then k else k+1)<_
  split <;> omega
 ·have e:(if k<(a:Int) then k else k+1)=if j<(a:Int) then j else j+1:=e
  split at e <;> split at e <;> omega
 ·rw[ll] at h1
  rw[yE ha h0 (by omega)]
 ·rw[ll] at h1
  rw[yE ha h0 (by omega)]
def swO(o:Off):Off:=(o.2.1,o.1,o.2.2)
def JL(l:List Int)(o:Off):lv l (tO (swO o))=lv l (tO o):=by
 show(decide (o.2.1∈l) != decide (o.1∈l))=(decide (o.1∈l) != decide (o.2.1∈l))
 cases decide (o.1∈l) <;> cases decide (o.2.1∈l) <;> rfl
def rE{os:List Off}{k:Int}(h0:0<=k)(h1:k<((os.length:Nat):Int)):oA (os.reverse.map swO) k=swO (oA os (((os.length:Nat):Int) - 1 - k)):=by
 show(os.reverse.map swO).getD k.toNat _=swO (os.getD _ _)
 rw[Ü,Ü,Þ,List.getElem?_reverse (by omega),show(((os.length:Nat):Int) - 1 - k).toNat=os.length - 1 - k.toNat by omega]
 have:os.length - 1 - k.toNat<os.length:=by omega
 rw[Ä this]
 rfl
def Jh(os:List Off):Emb os (os.reverse.map swO) (λk=>((os.length:Nat):Int) - 1 - k) 1 1:=by
 have ll:(os.reverse.map swO).length=os.length:=by rw[Á,Š]
 refine⟨λk h0 h1=>?_,λk j k0 k1 j0 j1 e=>?_,λk h0 h1 l=>?_,λk h0 h1=>?_⟩
 ·rw[ll]
  show 0<=((os.length:Nat):Int) - 1 - k/\((os.length:Nat):Int) - 1 - k<_
  omega
 ·have e:((os.length:Nat):Int) - 1 - k=((os.length:Nat):Int) - 1 - j:=e
  omega
 ·rw[rE (by omega) (by omega),JL,show((os.length:Nat):Int) - 1 - (((os.length:Nat):Int) - 1 - k)=k by omega]
 ·rw[rE (by omega) (by omega),show((os.length:Nat):Int) - 1 - (((os.length:Nat):Int) - 1 - k)=k by omega]
  rfl
def Ga(os:List Off):Emb (os.reverse.map swO) os (λk=>((os.length:Nat):Int) - 1 - k) 1 1:=by
 have ll:(os.reverse.map swO).length=os.length:=by rw[Á,Š]
 refine⟨λk h0 h1=>?_,λk j k0 k1 j0 j1 e=>?_,λk h0 h1 l=>?_,λk h0 h1=>?_⟩
 ·rw[ll] at h1
  show 0<=((os.length:Nat):Int) - 1 - k/\((os.length:Nat):Int) - 1 - k<_
  omega
 ·have e:((os.length:Nat):Int) - 1 - k=((os.length:Nat):Int) - 1 - j:=e
  omega
 ·rw[ll] at h1
  rw[rE h0 h1,JL]
 ·rw[ll] at h1
  rw[rE h0 h1]
  rfl
def scO(t:Int)(o:Off):Off:=(o.1,o.2.1,o.2.2 * t)
def yD{os:List Off}{t k:Int}(h0:0<=k)(h1:k<((os.length:Nat):Int)):oA (os.map (scO t)) k=scO t (oA os k):=by
 show(os.map (scO t)).getD k.toNat _=scO t (os.getD k.toNat _)
 rw[Ü,Ü,Þ,Ä (by omega)]
 rfl
def Mv(os:List Off)(t:Int):Emb os (os.map (scO t)) id t 1:=⟨λk h0 h1=>⟨h0,by rw[Á];exact h1⟩,λk j _ _ _ _ e=>e,λk h0 h1 l=>by
  show Nf.lv l (tO (oA (os.map (scO t)) k))=_
  rw[yD h0 h1]
  rfl,λk h0 h1=>by
  show 1 * (oA (os.map (scO t)) k).2.2=_
  rw[yD h0 h1,Int.one_mul]
  exact Int.mul_comm _ _⟩
def Jg(os:List Off)(t:Int):Emb (os.map (scO t)) os id 1 t:=by
 have ll:(os.map (scO t)).length=os.length:=Á ..
 refine⟨λk h0 h1=>⟨h0,by rw[ll] at h1;exact h1⟩,λk j _ _ _ _ e=>e,λk h0 h1 l=>?_,λk h0 h1=>?_⟩
 ·rw[ll] at h1
  rw[yD h0 h1]
  rfl
 ·rw[ll] at h1
  rw[yD h0 h1,Int.one_mul]
  exact Int.mul_comm _ _
def Jo{n:Int}{us:List Tie}{os:List Off}{x:Option Int}(h:Dr n us os x):(d9 n us os (dM os.length))↔x≠none:=by
 constructor
 ·intro an e
  subst e
  exact h _ ⟨(bJ _).imp λh=>by omega,λk hk=>dJ.mp hk⟩ an
 ·intro ne l pl
  cases x with
  |none=>exact absurd rfl ne
  |some c =>
   obtain⟨ks,ik,an,_,_⟩:=h
   have:=an l pl
   have le:ofN os ks l<=ofN os (dM os.length) l:=wC (ik.1.filter _) λk hk=>by
    obtain⟨h1,h2⟩:=ć.mp hk
    exact ć.mpr ⟨dJ.mpr (ik.2 k h1),h2⟩
   omega
def Gq{n:Int}{os:List Off}(oo:OkO n os):∀{ks:List Int},(∀k∈ks,0<=k/\k<((os.length:Nat):Int))->0<=cst os ks
 |[],_=>ÿ _
 |k::ks,hk=>by
  have ih:=Gq oo (ks:=ks) λx hx=>hk x (Õ _ hx)
  obtain⟨a,b⟩:=hk k Ú
  have:=(oo _ (Ò (HN (b:=true) a b))).2.1
  have e2:cst os (k::ks)=(oA os k).2.2+cst os ks:=by
   unfold cst
   rw[ë,Ķ]
  have this:0<=(oA os k).2.2:=this
  omega
def Ji{n:Int}{us ws:List Tie}{os:List Off}{ks:List Int}{y:Option Int}(oo:OkO n os)(an:d9 n us os ks)(hp:ws.Perm (us++(cA os ks).map mmT))(hy:Dr n ws os y):y=some 0:=by
 have an0:d9 n ws os []:=λl pl=>by
  have:=an l pl
  rw[mR hp l]
  show 2<=_+0
  omega
 have i0:InR os.length []:=⟨List.Pairwise.nil,λk hk=>nomatch hk⟩
 cases y with
 |none=>exact absurd an0 (hy _ i0)
 |some c =>
  obtain⟨k2,i2,_,rfl,lb⟩:=hy
  have a1:=lb [] i0 an0
  have a1:cst os k2<=0:=a1
  have a2:=Gq oo i2.2
  congr 1
  omega
def BL(K:Ø)(T:Pn):Sp:=λvs H Q _=>∃(a:Addr) (ns:List Int),vs=[.ref a]/\SqL K H a (ns.map Ÿ)/\T.PI H/\∀H',Q (.bl true) H'
def Lk{PT sc:Addr}{H:Hp}{xs:List V}(hT:(fD PT).PI H):Rd H sc (.lst xs)->¬(fD PT).fp sc:=λr z=>by
 obtain⟨ps,h,_⟩:=hT
 have z:sc=PT:=z
 rcases r with r|⟨o,r⟩
 ·rw[z,h] at r;cases r
 ·rw[z,h] at r;cases r
def OkB.okN{n:Int}{us:List Tie}(h:OkB n us):OkN n us:=λt ht=>by
 have:=h t ht
 exact⟨⟨by omega,by omega⟩,⟨by omega,by omega⟩,by omega⟩
def Tx(n:Int)(us:List Tie)(os:List Off)(d:D)(x:Option Int):Prop:=Dr n us os x/\((x=none/\∃l,d=.tuple [.str "barred",iD l])\/∃ks t,x=some (cst os ks)/\d=.tuple [.str "cheapest",.int (cst os ks),iD ks,Tr.D t]/\jo os.length ks/\d9 n us os ks)
def Bs{n:Int}{us:List Tie}{os:List Off}{d:D}{x:Option Int}(h:Tx n us os d x):¬cQ d=true:=by
 rcases h.2 with ⟨_,l,rfl⟩|⟨ks,t,_,rfl,_⟩
 ·exact Ð
 ·exact Ð
def kW{n:Int}{us:List Tie}{os:List Off}{P:D->Prop}(n1:1<=n)(n8:n<=8)(lu:us.length<=40)(ou:OkN n us)(lo:os.length<=6)(oo:OkO n os)(h:∀d x,Tx n us os d x->P d):lZ [aF n us,oT true os] P:=IW
 ⟨n,us,true,os,rfl,n1,n8,lu,ou,lo,oo,λl pl no=>h _ none ⟨no,.inl ⟨rfl,l,rfl⟩⟩,λks t rk an lb ok e=>h _ (some (cst os ks)) ⟨⟨ks,rk.inr,an,rfl,lb⟩,.inr ⟨ks,t,rfl,rfl,rk,an⟩⟩⟩
def td{n:Int}{us:List Tie}{os:List Off}{d:D}{x:Option Int}{P:D->Prop}(h:Tx n us os d x)(q:P (oI x)):cZ [d] P:=by
 refine Mt ⟨d,rfl,?_⟩
 rcases h.2 with ⟨rfl,l,rfl⟩|⟨ks,t,rfl,rfl,_⟩
 ·exact .inl ⟨l,rfl,q⟩
 ·exact .inr ⟨_,ks,t,rfl,q⟩
def Mg:∀x:Option Int,cQ (oI x)=true
 |none=>rfl
 |some _=>rfl
def map_one(os:List Off)(o:Off):ñ (os.map oD++[oD o])=oT true (os++[o]):=by
 show _=ñ ((os++[o]).map oD)
 rw[â]
 rfl
def Px{α:Type}{l:List α}{a:Int}(h0:0<=a)(h1:a<((l.length:Nat):Int)):dg l none (some a)=l.take a.toNat/\dg l (some (a+1)) none=l.drop (a.toNat+1):=by
 obtain⟨k,rfl⟩:=Int.eq_ofNat_of_zero_le h0
 have e1:HT.sIx l.length l.length (some ((k:Nat):Int))=min k l.length:=HT.mH _ _ _
 have e2:HT.sIx l.length 0 (some (((k:Nat):Int)+1))=min (k+1) l.length:=HT.mH _ _ (k+1)
 unfold dg
 refine⟨?_,?_⟩
 ·show(l.drop 0).take (HT.sIx l.length l.length (some ((k:Nat):Int)) - 0)=_
  rw[e1,List.drop_zero,Nat.sub_zero,Nat.min_eq_left (by omega)]
  rfl
 ·show(l.drop (HT.sIx l.length 0 (some (((k:Nat):Int)+1)))).take (l.length - HT.sIx l.length 0 (some (((k:Nat):Int)+1)))=_
  rw[e2,Nat.min_eq_left (by omega)]
  exact Ģ (Nat.le_of_eq (ċ ..))
def Gn{os:List Off}{a:Int}(h0:0<=a)(h1:a<((os.length:Nat):Int)):ñ (dg (os.map oD) none (some a)++dg (os.map oD) (some (a+1)) none)=oT true (os.take a.toNat++os.drop (a.toNat+1)):=by
 obtain⟨e1,e2⟩:=Px (l:=os.map oD) h0 (by rw[Á];exact h1)
 rw[e1,e2]
 show _=ñ ((os.take a.toNat++os.drop (a.toNat+1)).map oD)
 rw[â,List.map_take,List.map_drop]
def Ii{l:List D}{a:Int}(h:l.length<=100)(h0:0<=a):(dg l none (some a)).length+(dg l (some (a+1)) none).length<=1000:=by
 unfold dg
 rw[Ċ,Ċ,ċ,ċ]
 omega
def map_two{os:List Off}(g:Off->Off):ñ (os.map λo=>oD (g o))=oT true (os.map g):=by
 show _=ñ ((os.map g).map oD)
 rw[î]
 rfl
def NK{p t:Int}(h0:0<=p)(h1:p<=10 ^ 28)(t0:0<=t)(t1:t<9):p * (1+t)<10 ^ 30:=by
 have a:p * (1+t)<=10 ^ 28 * (1+t):=Int.mul_le_mul_of_nonneg_right h1 (by omega)
 have e1:(10:Int) ^ 28=10000000000000000000000000000:=by decide
 have e2:(10:Int) ^ 30=1000000000000000000000000000000:=by decide
 rw[e1] at a
 rw[e2]
 omega
def RL(sc:Addr)(i:Nat)(n:Int)(us:List Tie)(os:List Off)(s5 s6 s7 s8 s9 s10:Sl):List Sl:=[.scr (.ref sc) false,.im (.int (0+((i:Nat):Int))),.pen TP,.im (aF n us),.sn (.list (os.map oD)),s5,s6,s7,s8,s9,s10]
section
variable {P:Program}{w:World}{K:Ø}{mg:Str->Option Value}{base:Heap}{f:Addr}{fd:FuncData}{CN PT:Addr}
def Ca:FnScope ["_law_script","_law_k","_law_pen_here","_law_web_here","_law_offers_here","_law_told","_law_cost_here","_law_more","_law_at","_law_times","_law_ties"] ["_law_script"] (aj (top 43)):=zC
def fH:(["_law_a","_law_b","_law_price","_law_script","_law_k","_law_pen_here","_law_web_here","_law_offers_here","_law_told","_law_cost_here","_law_more","_law_at","_law_times","_law_ties"]:List Str).Nodup:=by decide +kernel
def Ef:(["_law_j","_law_script","_law_k","_law_pen_here","_law_web_here","_law_offers_here","_law_told","_law_cost_here","_law_more","_law_at","_law_times","_law_ties"]:List Str).Nodup:=by decide +kernel
def Lf(F:Fun K "law" "law" (top 43) f fd)(B:Ļ mg)(C__law_pen:è P w K mg base 1 "_law_pen" ["_law_script","_law_k"] (Wb.G3 K Oe))(C__law_web:è P w K mg base 3 "_law_web" ["_law_pen_here","_law_most"] (cU 4000000 Pj))(C__law_offers:è P w K mg base 3 "_law_offers" ["_law_pen_here","_law_n"] (cU 20000 JW))(C_cheapest:è P w K mg base 20 "cheapest" ["web","offers"] (spT (fD PT) lZ))(C__law_dear:è P w K mg base 1 "_law_dear" ["_law_told"] (spD cZ))(C__law_draw:è P w K mg base 1 "_law_draw" ["_law_pen_here","_law_many"] (cU 1 oU))(C__law_cost:è P w K mg base 2 "_law_cost" ["_law_pen_here"] (cU 10 FP))(C__law_no_less:è P w K mg base 1 "_law_no_less" ["_law_one","_law_other"] (spD fNL))(C_is_answer:è P w K mg base 11 "is_answer" ["web","offers","numbers"] (spD Pq)):FnOk P w K mg base CX0 21 f fd ["_law_script"] (BL K (fD PT)):=by
 refine F.ok Ca (λvs H Q E h=>by obtain⟨a,ns,rfl,_⟩:=h;rfl) (λcdv A outer s H vs Q E hr h=>?_)
 obtain⟨sc,ns,rfl,hS,hT,q⟩:=h
 have nd:=Ca.nd
 letI:Tb:=⟨fD PT⟩
 refine⟨_,(Wb.M4 (K:=K) (sc:=sc) (ns:=ns) ń rfl (Wr.fQ B.range (À Æ Â)) (Ć (i:=1) nd rfl zQ) (Wb.CT this C__law_pen hr (İ 0) (À (Ê 1) Â) nd (i:=2) rfl zQ
  (Wb.cons (Wb.set none (i:=3) nd rfl zQ (Wb.dcP (Dl.Cal.pP C__law_web) hr (İ 2) (Wb.a0 (À Æ Â))))
  (Wb.cons (Wb.set none (i:=4) nd rfl zQ (Wb.dcP (Dl.Cal.pP C__law_offers) hr (İ 2) (Wb.a0 (À (þ (Ê 3) Æ) Â))))
  (Wb.cons (Wb.set none (i:=5) nd rfl zQ (Wb.Am C_cheapest hr (Wb.a0 (À (Ê 3) (À (Ê 4) Â)))))
  (Wb.cons (Wb.s0 (ų none (i:=6) nd rfl zQ (ō C__law_dear hr (À (Ê 5) Â))))
  (Wb.gH (Wb.if_ (Wb.t0 (Wr.nH (þ (Ê 3) Æ) Æ)) (Wb.cons (Wb.set none (i:=7) nd rfl zQ (Wb.plus (Wb.e0 (Ê 4)) (Wb.lst (Wb.aQ (Wb.tup (Wb.aQ (Wb.e0 Æ) (Wb.aQ (Wb.plus (Wb.e0 Æ) (Wb.dcP (Dl.Cal.pP C__law_draw) hr (İ 2) (Wb.a0 (À (Wr.fj (þ (Ê 3) Æ) Æ) Â)))) (Wb.aQ (Wb.dcP (Dl.Cal.pP C__law_cost) hr (İ 2) (Wb.a0 Â)) (Wb.a0 Â))))) (Wb.a0 Â)))))
  (Wb.one (Wb.if_ (Wb.M7 (Wb.tval (Wb.dc C__law_no_less hr (Wb.aQ (Wb.e0 (Ê 6)) (Wb.aQ (Wb.dc C__law_dear hr (Wb.aQ (Wb.Am C_cheapest hr (Wb.a0 (À (Ê 3) (À (Ê 7) Â)))) (Wb.a0 Â))) (Wb.a0 Â)))))) (Wb.ss0 (í (ö Wr.gF))) (Wb.ss0 ò)))) (Wb.ss0 ò))
  (Wb.drops [7] (Wb.gH (Wb.if_ (Wb.t0 (Wr.dB hr.units (Ê 4) (ž Â))) (Wb.cons (Wb.set none (i:=8) nd rfl zQ (Wb.dcP (Dl.Cal.pP C__law_draw) hr (İ 2) (Wb.a0 (À (Ų B.len (À (Ê 4) Â)) Â))))
  (Wb.one (Wb.if_ (Wb.M7 (Wb.tval (Wb.dc C__law_no_less hr (Wb.aQ (Wb.dc C__law_dear hr (Wb.aQ (Wb.Am C_cheapest hr (Wb.a0 (À (Ê 3) (À (Wr.eO (Wr.jD (Ê 4) Wr.bZ (Wr.bY (Ê 8))) (Wr.jD (Ê 4) (Wr.bY (Wr.eO (Ê 8) Æ)) Wr.bZ)) Â)))) (Wb.a0 Â))) (Wb.a0 (À (Ê 6) Â)))))) (Wb.ss0 (í (ö Wr.gF))) (Wb.ss0 ò)))) (Wb.ss0 ò))
  (Wb.drops [8] (Wb.gH (Wb.if_ (Wb.tne hr.units (Wb.dc C__law_dear hr (Wb.aQ (Wb.Am C_cheapest hr (Wb.a0 (À (Ê 3) (À (Wr.gD ["_law_a","_law_b","_law_price"] rfl (Ş (Wr.qW (Ê 4))) (λc=>(Wr.oX (n:=3) rfl (Ŵ (Ć (i:=0) fH rfl zQ) (Ŵ (Ć (i:=1) fH rfl zQ) (Ŵ (Ć (i:=2) fH rfl zQ) Wr.jW))))) (λc=>Wr.bW) (λc=>(Ā (À (Ê 1) (À (Ê 0) (À (Ê 2) Â)))))) Â)))) (Wb.a0 Â))) (Wb.e0 (Ê 6))) (Wb.ss0 (í (ö Wr.gF))) (Wb.ss0 ò))
  (Wb.gH (Wb.s0 (Ū (Wr.dB hr.units (ō C_is_answer hr (À (Ê 3) (À (Ê 4) (À (Wr.fZ rfl B.list B.range (À (Ų B.len (À (Ê 4) Â)) Â)) Â)))) (Wr.iV (Ê 6) Wr.dU)) (í (ö Wr.gF)) ò))
  (Wb.cons (Wb.if_ (Wb.t0 (Wr.ji (Ê 6) Wr.dU)) (Wb.cons (Wb.set none (i:=9) nd rfl zQ (Wb.plus (Wb.e0 Æ) (Wb.dcP (Dl.Cal.pP C__law_draw) hr (İ 2) (Wb.a0 (À Æ Â)))))
  (Wb.gH (Wb.if_ (Wb.tne hr.units (Wb.dc C__law_dear hr (Wb.aQ (Wb.Am C_cheapest hr (Wb.a0 (À (Ê 3) (À (Wr.gD ["_law_a","_law_b","_law_price"] rfl (Ş (Ê 4)) (λc=>(Wr.oX (n:=3) rfl (Ŵ (Ć (i:=0) fH rfl zQ) (Ŵ (Ć (i:=1) fH rfl zQ) (Ŵ (Ć (i:=2) fH rfl zQ) Wr.jW))))) (λc=>Wr.bW) (λc=>(Ā (À (Ê 0) (À (Ê 1) (À (Wr.jC (Ê 2) (Ê 12)) Â)))))) Â)))) (Wb.a0 Â))) (Wb.e0 (Wr.jC (Ê 6) (Ê 9)))) (Wb.ss0 (í (ö Wr.gF))) (Wb.ss0 ò))
  (Wb.cons (Wb.s0 (Wr.jR none ["_law_j"] (i:=10) rfl nd rfl zQ (Ş (þ (Ê 5) Æ)) (λc=>(Ć (i:=0) Ef rfl zQ)) (λc=>Wr.bW) (λc=>(Ā (À (Wr.jE rfl B.min (À (Wr.jD (þ (Ê 5) (Ê 0)) Wr.bZ (Wr.bY Æ)) Â)) (À (Wr.jF rfl B.max (À (Wr.jD (þ (Ê 5) (Ê 0)) Wr.bZ (Wr.bY Æ)) Â)) Â))))))
  (Wb.one (Wb.if_ (Wb.tne hr.units (Wb.dc C__law_dear hr (Wb.aQ (Wb.Am C_cheapest hr (Wb.a0 (À (Ā (À (þ (Ê 3) Æ) (À (Wr.iT B.tuple (À (Wr.gZ B.sorted (À (Wr.eO (Wr.qX B.list (À (þ (Ê 3) Æ) Â)) (Ê 10)) Â)) Â)) Â))) (À (Ê 4) Â)))) (Wb.a0 Â))) (Wb.e0 Æ)) (Wb.ss0 (í (ö Wr.gF))) (Wb.ss0 ò)))))) (Wb.ss0 ò)) (Wb.drops [1,3,4,5,6,7,8,9,10] (Wb.ss0 ò))))))))))))) rfl)
  (í (ö Wr.gF))),Je hS hT (Lk hT) q (by decide) ?_⟩
 refine⟨⟨by decide,by decide⟩,rfl,λ(i:Nat) ρ=>∃b,ρ=[.scr (.ref sc) b,.any,.any,.any,.any,.any,.any,.any,.any,.any,.any],⟨false,rfl⟩,?_,?_⟩
 rotate_left
 ·rintro ρ ⟨b,rfl⟩
  exact⟨rfl,rfl⟩
 rintro i d ρ hd ⟨b,rfl⟩
 obtain⟨hi,rfl⟩:=dH hd
 refine⟨⟨b,rfl⟩,(show 2<11 by decide),⟨_,rfl,by omega,by omega⟩,?_⟩
 refine⟨rfl,5,rfl,by decide,by decide,λn us n1 n5 lu ok srt=>?_⟩
 refine iB (s:=.im (aF n us)) (by rw[cF (iY n us)];rfl) ?_
 have okn:=ok.okN
 refine⟨rfl,.int n,rfl,n,rfl,n1,by omega,λos lo okl=>?_⟩
 have okc:=okl.ok
 have oo:=okc.ok
 have lmo:(os.map oD).length=os.length:=Á ..
 refine iB (rg:=none) (i:=4) (ρ:=RL sc i n us [] .any .any .any .any .any .any |>.set 4 .any) (k:=norm .new (oT true os)) (d:=oT true os) (s:=.sn (.list (os.map oD))) (by rfl) ?_
 show lZ [aF n us,oT true os] _
 refine kW n1 (by omega) (by omega) okn (by omega) oo λd x hx=>?_
 refine iB (s:=.sn d) (by rw[bU (Bs hx),bU (Bs hx)];rfl) ?_
 show cZ [d] _
 refine td hx ?_
 refine iB (rg:=none) (i:=6) (ρ:=RL sc i n us os (.sn d) .any .any .any .any .any) (k:=norm .new (oI x)) (d:=oI x) (s:=.im (oI x)) (by rw[cF (Mg x)];rfl) ?_
 refine⟨λρ=>∃s7,ρ=RL sc i n us os (.sn d) (.im (oI x)) s7 .any .any .any,?_,?_⟩
 ·refine⟨.int n,rfl,d7 (λc=>?_) (λc=>⟨_,rfl⟩)⟩
  have c:1<n:=of_decide_eq_true c
  refine⟨rfl,.int n,rfl,n - 1,rfl,by omega,by omega,λy y0 y1=>⟨rfl,rfl,λc c0 c1=>?_⟩⟩
  refine⟨zK,zK,(show(os.map oD).length+1<=1000 by omega),.inr ?_⟩
  show lZ [aF n us,.list (os.map oD++[oD (0,1+y,c)])] _
  rw[map_one]
  refine kW n1 (by omega) (by omega) okn (by rw[È];show os.length+1<=6;omega) (OkC.ok λo ho=>?_) λd2 x2 h2=>?_
  ·rcases Ù.mp ho with z|z
   ·exact okc o z
   ·rw[Ë.mp z]
    exact⟨⟨⟨ÿ _,by show(0:Int)<n;omega⟩,⟨by show 0<=1+y;omega,by show 1+y<n;omega⟩,by show(0:Int)≠1+y;omega⟩,c0,c1⟩
  show cZ [d2] _
  refine td h2 ⟨x,x2,rfl,?_⟩
  show if (!nlB x x2)=true then _ else _
  rw[Gb (Ge os _) hx.1 h2.1]
  exact bw (A:=True) ⟨_,rfl⟩
 rintro ρ ⟨s7,rfl⟩
 refine⟨λρ=>∃s8,ρ=RL sc i n us os (.sn d) (.im (oI x)) .any s8 .any .any,?_,?_⟩
 ·refine⟨zK,DW os,rfl,?_⟩
  show if (!PyData.eqv (.list (os.map oD)) (.list []))=true then _ else _
  refine d7 (λc=>?_) (λc=>⟨_,rfl⟩)
  have ne:os≠[]:=λz=>by
   subst z
   exact absurd c (by decide)
  have pos:0<os.length:=š.mpr ne
  refine⟨rfl,_,rfl,by omega,by omega,λa a0 a1=>?_⟩
  refine .inr (.inr ⟨Ii (by omega) a0,.inr ?_⟩)
  show lZ [aF n us,.list (dg (os.map oD) none (some a)++dg (os.map oD) (some (a+1)) none)] _
  rw[Gn a0 (by omega)]
  have ha:a.toNat<os.length:=by omega
  have ll:(os.take a.toNat++os.drop (a.toNat+1)).length=os.length - 1:=by
   rw[È,Ċ,ċ]
   omega
  refine kW n1 (by omega) (by omega) okn (by omega) (λo ho=>?_) λd2 x2 h2=>?_
  ·rcases Ù.mp ho with z|z
   ·exact oo o (List.mem_of_mem_take z)
   ·exact oo o (List.mem_of_mem_drop z)
  show cZ [d2] _
  refine td h2 ⟨x2,x,rfl,?_⟩
  show if (!nlB x2 x)=true then _ else _
  rw[Gb (Gf ha) h2.1 hx.1]
  exact bw (A:=True) ⟨_,rfl⟩
 rintro ρ ⟨s8,rfl⟩
 refine⟨λρ=>ρ=RL sc i n us os (.sn d) (.im (oI x)) .any .any .any .any,?_,?_⟩
 ·refine .inr ?_
  refine rP os.reverse oD (λo=>oD (swO o)) .imm (by rw[List.map_reverse]) (by rw[Š];omega) (λo ho A B hA=>⟨rfl,bf (B:=B) ⟨zK,rfl,hA⟩⟩) ?_
  show lZ [aF n us,.list (os.reverse.map λo=>oD (swO o))] _
  rw[map_two swO]
  refine kW n1 (by omega) (by omega) okn (by rw[Á,Š];omega) (λo ho=>?_) λd2 x2 h2=>?_
  ·obtain⟨u,hu,rfl⟩:=ą.mp ho
   obtain⟨⟨p1,p2,p3⟩,p4,p5⟩:=oo u (List.mem_reverse.mp hu)
   exact⟨⟨p2,p1,λz=>p3 z.symm⟩,p4,p5⟩
  show cZ [d2] _
  refine td h2 ?_
  have e:=Gg (Jh os) (Ga os) (by decide) hx.1 h2.1
  have e:x2=x:=by
   rw[e]
   cases x with
   |none=>rfl
   |some c=>show some (1 * c)=some c;rw[Int.one_mul]
  subst e
  cases x2 with
  |none=>exact⟨rfl,rfl,bw (A:=True) rfl⟩
  |some c =>
   show if (!decide (c=c))=true then _ else _
   rw[decide_eq_true rfl]
   exact bw (A:=True) rfl
 rintro ρ rfl
 refine⟨λρ=>ρ=RL sc i n us os (.sn d) (.im (oI x)) .any .any .any .any,?_,?_⟩
 ·have eR:ñ (cV 0 ((((os.map oD).length:Nat):Int) - 0).toNat)=iD (dM os.length):=by
   rw[lmo,Int.sub_zero,ľ]
   unfold dM
   show ñ ((ä os.length).map _)=ñ (List.map Í _)
   rw[î]
   rfl
  refine⟨⟨by omega,by omega⟩,n,us,os,dM os.length,by show [_,_,ñ (cV 0 ((((os.map oD).length:Nat):Int) - 0).toNat)]=_;rw[eR];rfl,n1,by omega,by omega,okn,by omega,oo,⟨bJ _,λk hk=>dJ.mp hk⟩,λb hb=>?_⟩
  rw[Jo hx.1] at hb
  cases x with
  |none =>
   have e:b=false:=Bool.eq_false_iff.mpr λz=>hb.mp z rfl
   subst e
   exact bw (A:=True) rfl
  |some c =>
   have e:b=true:=hb.mpr (λz=>nomatch z)
   subst e
   exact bw (A:=True) rfl
 rintro ρ rfl
 cases x with
 |none =>
  refine bw (A:=True) ?_
  exact⟨⟨_,rfl⟩,rfl,⟨_,rfl⟩⟩
 |some c =>
  refine bf (B:=True) ?_
  obtain⟨hd1,hd2⟩:=hx
  obtain⟨ks,t2,e2,rfl,rk,an⟩:∃ks t,some c=some (cst os ks)/\d=.tuple [.str "cheapest",.int (cst os ks),iD ks,Tr.D t]/\jo os.length ks/\d9 n us os ks:=by
   rcases hd2 with ⟨z,_⟩|z
   ·cases z
   ·exact z
  refine⟨rfl,9,rfl,by decide,by decide,λt t0 t1=>?_⟩
  refine⟨λρ=>ρ=RL sc i n us os (.sn (.tuple [.str "cheapest",.int (cst os ks),iD ks,Tr.D t2])) (.im (.int c)) .any .any (.im (.int (1+t))) .any,?_,?_⟩
  ·refine rP os oD (λo=>oD (scO (1+t) o)) .imm rfl (by omega) (λo ho A B hA=>⟨rfl,bf (B:=B) ⟨.inr ⟨by omega,by omega⟩,zK,rfl,hA⟩⟩) ?_
   show lZ [aF n us,.list (os.map λo=>oD (scO (1+t) o))] _
   rw[map_two (scO (1+t))]
   refine kW n1 (by omega) (by omega) okn (by rw[Á];omega) (λo ho=>?_) λd2 x2 h2=>?_
   ·obtain⟨u,hu,rfl⟩:=ą.mp ho
    obtain⟨p1,p4,p5⟩:=okl u hu
    exact⟨p1,Int.mul_nonneg p4 (by omega),NK p4 p5 t0 t1⟩
   show cZ [d2] _
   refine td h2 ?_
   have e:=Gg (Mv os (1+t)) (Jg os (1+t)) (by omega) hd1 h2.1
   have e:x2=some ((1+t) * c):=e
   subst e
   refine⟨.inr ⟨by omega,by omega⟩,?_⟩
   show if (!decide ((1+t) * c=c * (1+t)))=true then _ else _
   rw[decide_eq_true (Int.mul_comm _ _)]
   exact bw (A:=True) rfl
  rintro ρ rfl
  have lk:=rk.len
  refine⟨iD ks,rfl,?_⟩
  refine rP ks Í (λk=>pD (mmT (tO (os.getD k.toNat (0,0,0))))) .imm rfl (by omega) (λk hk A B h=>bf (B:=True) ?_) ?_
  ·obtain⟨k0,k1⟩:=rk.2 k hk
   exact⟨_,jG k0 k1,dY _ _ _,_,jG k0 k1,dY _ _ _,zK,rfl,h⟩
  have e:ks.map (λk=>pD (mmT (tO (os.getD k.toNat (0,0,0)))))=((cA os ks).map mmT).map pD:=by
   unfold cA
   rw[î,î]
   rfl
  rw[e]
  have lm:∀xs:List Tie,(xs.map pD).length=xs.length:=λxs=>Á ..
  have lv:((cA os ks).map mmT).length=ks.length:=by
   unfold cA
   rw[Á,Á]
  have ov:=yF (rD oo rk)
  have oall:=OkN.app okn ov
  refine⟨.int n,rfl,.tuple (us.map pD),rfl,.inr ⟨by rw[lm,lm,lv];omega,.inr ⟨us++(cA os ks).map mmT,.inl ?_,by rw[È,lv];omega,λt ht=>?_,λws hp hs=>?_⟩⟩⟩
  ·rw[â]
  ·have:=oall t ht
   exact⟨this.2.1.1,by have:=this.2.1.2;omega⟩
  refine⟨zK,?_⟩
  show lZ [aF n ws,oT true os] _
  have lw:ws.length<=40:=by
   rw[hp.length_eq,È,lv]
   omega
  refine kW n1 (by omega) lw (λt ht=>oall t (hp.mem_iff.mp ht)) (by omega) oo λd2 x2 h2=>?_
  show cZ [d2] _
  refine td h2 ?_
  have e:=Ji oo an hp h2.1
  subst e
  refine bw (A:=True) ?_
  exact⟨⟨_,rfl⟩,rfl,⟨_,rfl⟩⟩
end
def len1{α:Type}:∀us:List α,us.length=1->∃a,us=[a]
 |[a],_=>⟨a,rfl⟩
def len2{α:Type}:∀us:List α,us.length=2->∃a b,us=[a,b]
 |[a,b],_=>⟨a,b,rfl⟩
def QM{α:Type}:∀us:List α,us.length=3->∃a b c,us=[a,b,c]
 |[a,b,c],_=>⟨a,b,c,rfl⟩
def QL{α:Type}:∀us:List α,us.length=4->∃a b c d,us=[a,b,c,d]
 |[a,b,c,d],_=>⟨a,b,c,d,rfl⟩
def aC{K:Ø}{f:Addr}{oc:Value}{od:Option Addr}{fd:FuncData}{sl:Array (Option Value)}(l:K.lookup f=some ⟨oc,od,.func fd,sl⟩):W.keepIn K (.ref f)=true:=by
 unfold W.keepIn
 simp only[l]
def aK{P:Program}{w:World}{K:Ø}{mg:Str->Option Value}{base:Heap}{k:Nat}{x:Str}{st:Stmt}{f:Addr}{fd:FuncData}{ps:List Str}{sp:Sp}(F:Fun K x x st f fd)(b:Binds K fd ps [])(m:mg x=some (.ref f))(h:FnOk P w K mg base CX0 k f fd ps sp) :
  è P w K mg base k x ps sp:=⟨f,fd,h,b,F.kp,m⟩
abbrev zl(K:Ø)(f:Addr)(x:Str)(st:Stmt)(oc:Value)(od:Option Addr)(kV dc pm:Value)(an:Option Addr)(cd ct:Value)(sl:Array (Option Value)):Prop:=K.lookup f=some ⟨oc,od,.func (W.fnOf x x (eU st) (bQ st) (aj st) .none kV dc pm an cd ct),sl⟩
abbrev za(K:Ø)(x:Str)(f:Addr):Prop:=W.nsIn K mainGlobals x=some (some (.ref f))
abbrev zc(K:Ø)(x:Str)(cd:Value):Prop:=W.codeIn K cd x=true
abbrev zn(K:Ø)(x:Str):Prop:=W.nsIn K mainGlobals x=some none
def all_mk{l:W.OpenLaw}{w:World}{K:Ø}{h:Heap}{mg:Str->Option Value}{c PT fa f0 f1 f2 f3 f4 f5 f6 f7 f8 f9 f10 f11 f12 f13 f14 f15 f16 f17 f18 f19 f20 f21 f22 f23 f24 f25 f26 f27 f28 f29 f30 f31 f32:Addr}(hT:h.get? PT=some (W.tabObj #[]))(X:K.In h)(G:h.Ns mainGlobals mg)(hfa:mg "law"=some (.ref fa)){od0 an0 od1 an1 od2 an2 od3 an3 od4 an4 od5 an5 od6 an6 od7 an7 od8 an8 od9 an9 od10 an10 od11 an11 od12 an12 od13 an13 od14 an14 od15 an15 od16 an16 od17 an17 od18 an18 od19 an19 od20 an20 od21 an21 od22 an22 od23 an23 od24 an24 od25 an25 od26 an26 od27 an27 od28 an28 od29 an29 od30 an30 od31 an31 od32 an32:Option Addr}{sl0 sl1 sl2 sl3 sl4 sl5 sl6 sl7 sl8 sl9 sl10 sl11 sl12 sl13 sl14 sl15 sl16 sl17 sl18 sl19 sl20 sl21 sl22 sl23 sl24 sl25 sl26 sl27 sl28 sl29 sl30 sl31 sl32:Array (Option Value)}{oc0 kV0 dc0 pm0 cd0 ct0 oc1 kV1 dc1 pm1 cd1 ct1 oc2 kV2 dc2 pm2 cd2 ct2 oc3 kV3 dc3 pm3 cd3 ct3 oc4 kV4 dc4 pm4 cd4 ct4 oc5 kV5 dc5 pm5 cd5 ct5 oc6 kV6 dc6 pm6 cd6 ct6 oc7 kV7 dc7 pm7 cd7 ct7 oc8 kV8 dc8 pm8 cd8 ct8 oc9 kV9 dc9 pm9 cd9 ct9 oc10 kV10 dc10 pm10 cd10 ct10 oc11 kV11 dc11 pm11 cd11 ct11 oc12 kV12 dc12 pm12 cd12 ct12 oc13 kV13 dc13 pm13 cd13 ct13 oc14 kV14 dc14 pm14 cd14 ct14 oc15 kV15 dc15 pm15 cd15 ct15 oc16 kV16 dc16 pm16 cd16 ct16 oc17 kV17 dc17 pm17 cd17 ct17 oc18 kV18 dc18 pm18 cd18 ct18 oc19 kV19 dc19 pm19 cd19 ct19 oc20 kV20 dc20 pm20 ct20 oc21 kV21 dc21 pm21 cd21 ct21 oc22 kV22 dc22 pm22 cd22 ct22 oc23 kV23 dc23 pm23 cd23 ct23 oc24 kV24 dc24 pm24 cd24 ct24 oc25 kV25 dc25 pm25 cd25 ct25 oc26 kV26 dc26 pm26 cd26 ct26 oc27 kV27 dc27 pm27 cd27 ct27 oc28 kV28 dc28 pm28 cd28 ct28 oc29 kV29 dc29 pm29 cd29 ct29 oc30 kV30 dc30 pm30 cd30 ct30 oc31 kV31 dc31 pm31 cd31 ct31 oc32 kV32 dc32 pm32 cd32 ct32:Value}{tk_MOST_OFFERS:Tok}(a0:za K "is_whole" f0)(l0:zl K f0 "is_whole" (top 5) oc0 od0 kV0 dc0 pm0 an0 cd0 ct0 sl0)(c0:zc K "is_whole" cd0)(a1:za K "is_below" f1)(l1:zl K f1 "is_below" (top 6) oc1 od1 kV1 dc1 pm1 an1 cd1 ct1 sl1)(c1:zc K "is_below" cd1)(a2:za K "is_tie" f2)(l2:zl K f2 "is_tie" (top 7) oc2 od2 kV2 dc2 pm2 an2 cd2 ct2 sl2)(c2:zc K "is_tie" cd2)(a3:za K "with_ties" f3)(l3:zl K f3 "with_ties" (top 8) oc3 od3 kV3 dc3 pm3 an3 cd3 ct3 sl3)(c3:zc K "with_ties" cd3)(a4:za K "hops" f4)(l4:zl K f4 "hops" (top 10) oc4 od4 kV4 dc4 pm4 an4 cd4 ct4 sl4)(c4:zc K "hops" cd4)(a5:za K "is_rising" f5)(l5:zl K f5 "is_rising" (top 12) oc5 od5 kV5 dc5 pm5 an5 cd5 ct5 sl5)(c5:zc K "is_rising" cd5)(a6:za K "is_proper_set" f6)(l6:zl K f6 "is_proper_set" (top 13) oc6 od6 kV6 dc6 pm6 an6 cd6 ct6 sl6)(c6:zc K "is_proper_set" cd6)(a7:za K "check_set" f7)(l7:zl K f7 "check_set" (top 14) oc7 od7 kV7 dc7 pm7 an7 cd7 ct7 sl7)(c7:zc K "check_set" cd7)(a8:za K "sets_below" f8)(l8:zl K f8 "sets_below" (top 15) oc8 od8 kV8 dc8 pm8 an8 cd8 ct8 sl8)(c8:zc K "sets_below" cd8)(a9:za K "leaves" f9)(l9:zl K f9 "leaves" (top 16) oc9 od9 kV9 dc9 pm9 an9 cd9 ct9 sl9)(c9:zc K "leaves" cd9)(a10:za K "ties_that_leave" f10)(l10:zl K f10 "ties_that_leave" (top 17) oc10 od10 kV10 dc10 pm10 an10 cd10 ct10 sl10)(c10:zc K "ties_that_leave" cd10)(a11:za K "leaving" f11)(l11:zl K f11 "leaving" (top 18) oc11 od11 kV11 dc11 pm11 an11 cd11 ct11 sl11)(c11:zc K "leaving" cd11)(a12:za K "need" f12)(l12:zl K f12 "need" (top 19) oc12 od12 kV12 dc12 pm12 an12 cd12 ct12 sl12)(c12:zc K "need" cd12)(a13:za K "needy_set" f13)(l13:zl K f13 "needy_set" (top 21) oc13 od13 kV13 dc13 pm13 an13 cd13 ct13 sl13)(c13:zc K "needy_set" cd13)(a14:za K "stands" f14)(l14:zl K f14 "stands" (top 22) oc14 od14 kV14 dc14 pm14 an14 cd14 ct14 sl14)(c14:zc K "stands" cd14)(a15:za K "is_offer" f15)(l15:zl K f15 "is_offer" (top 25) oc15 od15 kV15 dc15 pm15 an15 cd15 ct15 sl15)(c15:zc K "is_offer" cd15)(a16:za K "check_offers" f16)(l16:zl K f16 "check_offers" (top 26) oc16 od16 kV16 dc16 pm16 an16 cd16 ct16 sl16)(c16:zc K "check_offers" cd16)(a17:za K "with_offers" f17)(l17:zl K f17 "with_offers" (top 27) oc17 od17 kV17 dc17 pm17 an17 cd17 ct17 sl17)(c17:zc K "with_offers" cd17)(a18:za K "cost_of" f18)(l18:zl K f18 "cost_of" (top 28) oc18 od18 kV18 dc18 pm18 an18 cd18 ct18 sl18)(c18:zc K "cost_of" cd18)(a19:za K "is_answer" f19)(l19:zl K f19 "is_answer" (top 29) oc19 od19 kV19 dc19 pm19 an19 cd19 ct19 sl19)(c19:zc K "is_answer" cd19)(a20:za K "cheapest_answer" f20)(l20:zl K f20 "cheapest_answer" (top 30) oc20 od20 kV20 dc20 pm20 an20 (.ref c) ct20 sl20)(c20:zc K "cheapest_answer" (.ref c))(a21:za K "tree_for" f21)(l21:zl K f21 "tree_for" (top 31) oc21 od21 kV21 dc21 pm21 an21 cd21 ct21 sl21)(c21:zc K "tree_for" cd21)(a22:za K "cheapest" f22)(l22:zl K f22 "cheapest" (top 32) oc22 od22 kV22 dc22 pm22 an22 cd22 ct22 sl22)(c22:zc K "cheapest" cd22)(a23:za K "_law_pen" f23)(l23:zl K f23 "_law_pen" (top 34) oc23 od23 kV23 dc23 pm23 an23 cd23 ct23 sl23)(c23:zc K "_law_pen" cd23)(a24:za K "_law_draw" f24)(l24:zl K f24 "_law_draw" (top 35) oc24 od24 kV24 dc24 pm24 an24 cd24 ct24 sl24)(c24:zc K "_law_draw" cd24)(a25:za K "_law_plain" f25)(l25:zl K f25 "_law_plain" (top 36) oc25 od25 kV25 dc25 pm25 an25 cd25 ct25 sl25)(c25:zc K "_law_plain" cd25)(a26:za K "_law_turned" f26)(l26:zl K f26 "_law_turned" (top 37) oc26 od26 kV26 dc26 pm26 an26 cd26 ct26 sl26)(c26:zc K "_law_turned" cd26)(a27:za K "_law_web" f27)(l27:zl K f27 "_law_web" (top 38) oc27 od27 kV27 dc27 pm27 an27 cd27 ct27 sl27)(c27:zc K "_law_web" cd27)(a28:za K "_law_cost" f28)(l28:zl K f28 "_law_cost" (top 39) oc28 od28 kV28 dc28 pm28 an28 cd28 ct28 sl28)(c28:zc K "_law_cost" cd28)(a29:za K "_law_offers" f29)(l29:zl K f29 "_law_offers" (top 40) oc29 od29 kV29 dc29 pm29 an29 cd29 ct29 sl29)(c29:zc K "_law_offers" cd29)(a30:za K "_law_dear" f30)(l30:zl K f30 "_law_dear" (top 41) oc30 od30 kV30 dc30 pm30 an30 cd30 ct30 sl30)(c30:zc K "_law_dear" cd30)(a31:za K "_law_no_less" f31)(l31:zl K f31 "_law_no_less" (top 42) oc31 od31 kV31 dc31 pm31 an31 cd31 ct31 sl31)(c31:zc K "_law_no_less" cd31)(a32:za K "law" f32)(l32:zl K f32 "law" (top 43) oc32 od32 kV32 dc32 pm32 an32 cd32 ct32 sl32)(c32:zc K "law" cd32)(g_MOST_OFFERS:W.nsIn K mainGlobals "MOST_OFFERS"=some (some (.int 8 tk_MOST_OFFERS)))(z0:zn K "isinstance")(z1:zn K "int")(z2:zn K "bool")(z3:zn K "tuple")(z4:zn K "list")(z5:zn K "len")(z6:zn K "all")(z7:zn K "min")(z8:zn K "max")(z9:zn K "sorted")(z10:zn K "range")(z11:zn K "abs")(z12:zn K "zip")(z13:zn K "sum"){occ:Value}{odc:Option Addr}{vsc:Array Value}{slc:Array (Option Value)}(lc:K.lookup c=some ⟨occ,odc,.fields vsc,slc⟩)(v11:vsc[11]?=some (.ref PT))(hP0:K.lookup PT=none)(hcI:W.codeHdIn K c PT=true)
  :
  ∃(K':Ø) (c PT:Addr) (fd:FuncData) (sp:Sp),K'.In h/\K'.lookup PT=none/\W.CodeHd h c PT/\h.get? PT=some (W.tabObj #[])/\(∀(s:Shared) (u:Value),BindsTo s fd ⟨[u],[]⟩ [("_law_script",u)]) /\
    (∀base:Heap,K'.In base->base.Ns mainGlobals mg->base.BuiltinsAt mg PT->FnOk l.prog w K' mg base CX0 21 fa fd ["_law_script"] sp)/\∀(H:Hp) (a:Addr) (ns:List Int),SqL K' H a (ns.map Ÿ)->H PT=some (.tbl #[])->sp [.ref a] H (λv _=>v=.bl true) λ_ _ _=>False:=by
 have e:=hfa.symm.trans (Ą X G a32)
 cases e
 have F0:=ğ (st:=top 5) l0 c0 (aC l0)
 have b0:=F0.binds (ps:=["thing"])
 have m0:=Ą X G a0
 have F1:=ğ (st:=top 6) l1 c1 (aC l1)
 have b1:=F1.binds (ps:=["limit","thing"])
 have m1:=Ą X G a1
 have F2:=ğ (st:=top 7) l2 c2 (aC l2)
 have b2:=F2.binds (ps:=["n","thing"])
 have m2:=Ą X G a2
 have F3:=ğ (st:=top 8) l3 c3 (aC l3)
 have b3:=F3.binds (ps:=["web","added"])
 have m3:=Ą X G a3
 have F4:=ğ (st:=top 10) l4 c4 (aC l4)
 have b4:=F4.binds (ps:=["places"])
 have m4:=Ą X G a4
 have F5:=ğ (st:=top 12) l5 c5 (aC l5)
 have b5:=F5.binds (ps:=["limit","thing"])
 have m5:=Ą X G a5
 have F6:=ğ (st:=top 13) l6 c6 (aC l6)
 have b6:=F6.binds (ps:=["n","thing"])
 have m6:=Ą X G a6
 have F7:=ğ (st:=top 14) l7 c7 (aC l7)
 have b7:=F7.binds (ps:=["web","thing"])
 have m7:=Ą X G a7
 have F8:=ğ (st:=top 15) l8 c8 (aC l8)
 have b8:=F8.binds (ps:=["count"])
 have m8:=Ą X G a8
 have F9:=ğ (st:=top 16) l9 c9 (aC l9)
 have b9:=F9.binds (ps:=["tie","some"])
 have m9:=Ą X G a9
 have F10:=ğ (st:=top 17) l10 c10 (aC l10)
 have b10:=F10.binds (ps:=["web","some"])
 have m10:=Ą X G a10
 have F11:=ğ (st:=top 18) l11 c11 (aC l11)
 have b11:=F11.binds (ps:=["web","some"])
 have m11:=Ą X G a11
 have F12:=ğ (st:=top 19) l12 c12 (aC l12)
 have b12:=F12.binds (ps:=["web","falls","some"])
 have m12:=Ą X G a12
 have F13:=ğ (st:=top 21) l13 c13 (aC l13)
 have b13:=F13.binds (ps:=["web","falls"])
 have m13:=Ą X G a13
 have F14:=ğ (st:=top 22) l14 c14 (aC l14)
 have b14:=F14.binds (ps:=["web","falls"])
 have m14:=Ą X G a14
 have F15:=ğ (st:=top 25) l15 c15 (aC l15)
 have b15:=F15.binds (ps:=["web","thing"])
 have m15:=Ą X G a15
 have F16:=ğ (st:=top 26) l16 c16 (aC l16)
 have b16:=F16.binds (ps:=["web","thing"])
 have m16:=Ą X G a16
 have F17:=ğ (st:=top 27) l17 c17 (aC l17)
 have b17:=F17.binds (ps:=["web","offers","numbers"])
 have m17:=Ą X G a17
 have F18:=ğ (st:=top 28) l18 c18 (aC l18)
 have b18:=F18.binds (ps:=["offers","numbers"])
 have m18:=Ą X G a18
 have F19:=ğ (st:=top 29) l19 c19 (aC l19)
 have b19:=F19.binds (ps:=["web","offers","numbers"])
 have m19:=Ą X G a19
 have F20:=ğ (st:=top 30) l20 c20 (aC l20)
 have b20:=F20.binds (ps:=["web","offers"])
 have m20:=Ą X G a20
 have F21:=ğ (st:=top 31) l21 c21 (aC l21)
 have b21:=F21.binds (ps:=["made","offers","free","asked"]) λ_ _ _ _ _ _ us hl=>by obtain⟨_,_,_,_,rfl⟩:=QL us hl;rfl
 have m21:=Ą X G a21
 have F22:=ğ (st:=top 32) l22 c22 (aC l22)
 have b22:=F22.binds (ps:=["web","offers"])
 have m22:=Ą X G a22
 have F23:=ğ (st:=top 34) l23 c23 (aC l23)
 have b23:=F23.binds (ps:=["_law_script","_law_k"])
 have m23:=Ą X G a23
 have F24:=ğ (st:=top 35) l24 c24 (aC l24)
 have b24:=F24.binds (ps:=["_law_pen_here","_law_many"])
 have m24:=Ą X G a24
 have F25:=ğ (st:=top 36) l25 c25 (aC l25)
 have b25:=F25.binds (ps:=["_law_pen_here","_law_n","_law_pick"])
 have m25:=Ą X G a25
 have F26:=ğ (st:=top 37) l26 c26 (aC l26)
 have b26:=F26.binds (ps:=["_law_pen_here","_law_n"])
 have m26:=Ą X G a26
 have F27:=ğ (st:=top 38) l27 c27 (aC l27)
 have b27:=F27.binds (ps:=["_law_pen_here","_law_most"])
 have m27:=Ą X G a27
 have F28:=ğ (st:=top 39) l28 c28 (aC l28)
 have b28:=F28.binds (ps:=["_law_pen_here"])
 have m28:=Ą X G a28
 have F29:=ğ (st:=top 40) l29 c29 (aC l29)
 have b29:=F29.binds (ps:=["_law_pen_here","_law_n"])
 have m29:=Ą X G a29
 have F30:=ğ (st:=top 41) l30 c30 (aC l30)
 have b30:=F30.binds (ps:=["_law_told"])
 have m30:=Ą X G a30
 have F31:=ğ (st:=top 42) l31 c31 (aC l31)
 have b31:=F31.binds (ps:=["_law_one","_law_other"])
 have m31:=Ą X G a31
 have F32:=ğ (st:=top 43) l32 c32 (aC l32)
 have B:Ļ mg:=⟨ě X G z0,ě X G z1,ě X G z2,ě X G z3,ě X G z4,ě X G z5,ě X G z6,ě X G z7,ě X G z8,ě X G z9,ě X G z10,ě X G z11⟩
 have N12:=ě X G z12
 have N13:=ě X G z13
 have HC:∀h:Heap,K.In h->W.CodeHd h c PT:=λh X2=>W.codeHd_of_K X2 hcI
 refine⟨K,c,PT,W.fnOf "law" "law" (eU (top 43)) (bQ (top 43)) (aj (top 43)) .none kV32 dc32 pm32 an32 cd32 ct32,BL K (fD PT),X,hP0,W.codeHd_of_K X hcI,hT,λs v=>.of_eq rfl,λbase _ _ hBm=>?_,λH a ns hS hT=>⟨a,ns,rfl,hS,⟨_,hT,.inl rfl⟩,λ_=>rfl⟩⟩
 have C0:=λbase=>aK F0 b0 m0 (Du (P:=l.prog) (w:=w) (base:=base) F0 B)
 have C1:=λbase=>aK F1 b1 m1 (Dz (P:=l.prog) (w:=w) (base:=base) F1 (C0 base))
 have C2:=λbase=>aK F2 b2 m2 (zY (P:=l.prog) (w:=w) (base:=base) F2 B (C1 base))
 have C3:=λbase=>aK F3 b3 m3 (rm (P:=l.prog) (w:=w) (base:=base) F3 B)
 have C4:=λbase=>aK F4 b4 m4 (HB (P:=l.prog) (w:=w) (base:=base) F4 B N12)
 have C5:=λbase=>aK F5 b5 m5 (zU (P:=l.prog) (w:=w) (base:=base) F5 B (C1 base) (C4 base))
 have C6:=λbase=>aK F6 b6 m6 (zV (P:=l.prog) (w:=w) (base:=base) F6 B (C5 base))
 have C7:=λbase=>aK F7 b7 m7 (uH (P:=l.prog) (w:=w) (base:=base) F7 (C6 base))
 have C8:=λbase=>aK F8 b8 m8 (Ou (P:=l.prog) (w:=w) (base:=base) F8 B)
 have C9:=λbase=>aK F9 b9 m9 (zX (P:=l.prog) (w:=w) (base:=base) F9 )
 have C10:=λbase=>aK F10 b10 m10 (K9 (P:=l.prog) (w:=w) (base:=base) F10 (C7 base) (C9 base))
 have C11:=λbase=>aK F11 b11 m11 (Hz (P:=l.prog) (w:=w) (base:=base) F11 B (C10 base))
 have C12:=λbase=>aK F12 b12 m12 (Hy (P:=l.prog) (w:=w) (base:=base) F12 B (C11 base))
 have C13:=λbase=>aK F13 b13 m13 (Dw (P:=l.prog) (w:=w) (base:=base) F13 (C8 base) (C12 base))
 have C14:=λbase=>aK F14 b14 m14 (zT (P:=l.prog) (w:=w) (base:=base) F14 (C13 base))
 have C15:=λbase=>aK F15 b15 m15 (uG (P:=l.prog) (w:=w) (base:=base) F15 B (C0 base) (C2 base))
 have C16:=λbase=>aK F16 b16 m16 (lX (P:=l.prog) (w:=w) (base:=base) F16 B (Ą X G g_MOST_OFFERS) (C15 base))
 have C17:=λbase=>aK F17 b17 m17 (nZ (P:=l.prog) (w:=w) (base:=base) F17 B (C3 base))
 have C18:=λbase=>aK F18 b18 m18 (wA (P:=l.prog) (w:=w) (base:=base) F18 B N13)
 have C19:=λbase=>aK F19 b19 m19 (rB (P:=l.prog) (w:=w) (base:=base) F19 B (C16 base) (C14 base) (C17 base) (C5 base))
 have C20:=aK F20 b20 m20 (Ov (P:=l.prog) (w:=w) (base:=base) l20 c20 HC hBm B C18 (C8 base) (C14 base) (C17 base))
 have C21:=λbase=>aK F21 b21 m21 (Lb (P:=l.prog) (w:=w) (base:=base) F21 B b21 m21 (C13 base) (C9 base) (C11 base) (C17 base))
 have C22:=aK F22 b22 m22 (Lg (P:=l.prog) (w:=w) (base:=base) F22 B (C16 base) C20 (C13 base) (C17 base) (C18 base) (C21 base))
 have C23:=λbase=>aK F23 b23 m23 (Le (P:=l.prog) (w:=w) (base:=base) F23 B)
 have C24:=λbase=>aK F24 b24 m24 (HD (P:=l.prog) (w:=w) (base:=base) F24 B)
 have C25:=λbase=>aK F25 b25 m25 (rA (P:=l.prog) (w:=w) (base:=base) F25 B (C24 base))
 have C26:=λbase=>aK F26 b26 m26 (Dv (P:=l.prog) (w:=w) (base:=base) F26 B (C24 base))
 have C27:=λbase=>aK F27 b27 m27 (wz (P:=l.prog) (w:=w) (base:=base) F27 B (C24 base) (C25 base) (C26 base))
 have C28:=λbase=>aK F28 b28 m28 (uF (P:=l.prog) (w:=w) (base:=base) F28 B (C24 base))
 have C29:=λbase=>aK F29 b29 m29 (pC (P:=l.prog) (w:=w) (base:=base) F29 B (C24 base) (C28 base))
 have C30:=λbase=>aK F30 b30 m30 (Dy (P:=l.prog) (w:=w) (base:=base) F30 B)
 have C31:=λbase=>aK F31 b31 m31 (n6 (P:=l.prog) (w:=w) (base:=base) F31 B)
 exact Lf F32 B (C23 base) (C27 base) (C29 base) C22 (C30 base) (C24 base) (C28 base) (C31 base) (C19 base)
end Nf
namespace Nf
open PySem PySem.W PyProof.Rows
def pY:List Nat:=[1,2,3,5,6,7,8,10,12,13,14,15,16,17,18,19,21,22,24,25,26,27,28,29,30,31,32,34,35,36,37,38,39,40,41,42,43]
def uO(p:Program)(w:World)(os:OsState):=(zM p 3410 w os).map (λs=>BZ p (view p pY) (λs=>xlAt (view p pY) [] s&&recOk [] s) w s.abs)
def goodW(p:Program):=some (true,openGood (view p pY) [])
def frF(fr:Frag)(k:Nat):=some ((fr.map λp=>some p.2).take k)
def frB(fr:Frag)(k:Nat):=some ((fr.map λp=>some p.2).drop k)
def oR(p:Program)(w:World)(os:OsState)(as:List Addr)(k:Nat):=(zM p 3410 w os).map (λs=>(as.map s.abs.heap.get?).take k)
def vg(p:Program)(w:World)(os:OsState)(as:List Addr)(k:Nat):=(zM p 3410 w os).map (λs=>(as.map s.abs.heap.get?).drop k)
def wG:uO=uO:=rfl
def wL:goodW=goodW:=rfl
def uV:oR=oR:=rfl
def xq:vg=vg:=rfl
end Nf
lay_quick Nf.uO Nf.goodW Nf.oR Nf.vg
name_quick lookQ for Nf.uO by Nf.wG
name_quick goodQ for Nf.goodW by Nf.wL
name_quick frontQ for Nf.oR by Nf.uV
name_quick backQ for Nf.vg by Nf.xq
set_option maxHeartbeats 0 in
def Nf.Ia(w:PySem.World)(os:PySem.OsState):Nf.uO å w os=Nf.goodW å:=by
 rw[PySem.W.Fast.lookQ_eq,PySem.W.Fast.goodQ_eq]
 kernel_rfl
def Nf.well:PySem.Challenge.rw_nofall_k45_whole_offers_changed.wellSaid=true:=by kernel_rfl
open PySem PySem.W PyProof.Rows
local macro_rules
 |`(tactic| k_qdec)=>`(tactic| fail)
local macro_rules
 |`(tactic| o_head (kmHook $k $a $e $t))=>`(tactic| o_head (kHook (λP=>List.append (List.map (λa=>(a,PySem.W.tabObj #[])) $t) ($k P)) (List.append $t $a) (λ_=>by kernel_rfl)))
local macro_rules
 |`(tactic| o_head (kHook $k $a $e))=>`(tactic| (
  refine holds_open (q:=view å Nf.pY) (loose:=[]) (Xt:=λs=>xlAt (view å Nf.pY) [] s&&recOk [] s) (XP:=XL (view å Nf.pY) []) (Yf:=Hook.obs (kHook $k $a $e)) (Ya:=Hook.val (kHook $k $a $e)) (YP:=Hook.says (kHook $k $a $e)) (N:=3410) ?hl (Hook.of (kHook $k $a $e)) (Hook.keeps (kHook $k $a $e)) (λs e=>xl_of s (Bool.and_eq_true_iff.mp e).1) XL.keeps (by rfl) (by rfl) (by rfl) (λs e=>recFacts_of (Bool.and_eq_true_iff.mp e).2) (by rfl) (by first|assumption|decide +kernel) (by decide +kernel) ⟨rfl,rfl,rfl,rfl,rfl,by decide +kernel⟩ ?hw ?hc))
set_option maxRecDepth 100000 in
set_option maxHeartbeats 0 in
theorem PySem.Challenge.cw_nofall_k45_whole_offers_changed_holds : PySem.Challenge.rw_nofall_k45_whole_offers_changed.Holds := by
 w_on;refine PySem.W.holds_law Nf.well λsaid=>?_;k_head
 ·refine Nf.Ij 90 (boot_open (by kernel_rfl) rfl (λs=>by kernel_rfl)) Nf.Ia (λw os=>?_) (λw os=>?_)
  ·show Nf.oR å w os _ 90=Nf.frF _ 90
   rw[PySem.W.Fast.frontQ_eq]
   kernel_rfl
  ·show Nf.vg å w os _ 90=Nf.frB _ 90
   rw[PySem.W.Fast.backQ_eq]
   kernel_rfl
 ·w_witness2
 k_fill
 refine L2.Bq (n:=63) (k:=21) (x:="_law_script") (l:=PySem.Challenge.rw_nofall_k45_whole_offers_changed) rfl (by decide) rfl ⟨rfl,by decide,by decide,rfl⟩ (λw h Y=>PySem.W.kIn_of Y) ?F
 case F =>
  intro w mg fa h KX2 G hmg
  obtain⟨KX,hPT⟩:=L2.Ka KX2 (by kernel_rfl)
  refine' Nf.all_mk hPT KX G hmg ?a0 ?l0 ?c0 ?a1 ?l1 ?c1 ?a2 ?l2 ?c2 ?a3 ?l3 ?c3 ?a4 ?l4 ?c4 ?a5 ?l5 ?c5 ?a6 ?l6 ?c6 ?a7 ?l7 ?c7 ?a8 ?l8 ?c8 ?a9 ?l9 ?c9 ?a10 ?l10 ?c10 ?a11 ?l11 ?c11 ?a12 ?l12 ?c12 ?a13 ?l13 ?c13 ?a14 ?l14 ?c14 ?a15 ?l15 ?c15 ?a16 ?l16 ?c16 ?a17 ?l17 ?c17 ?a18 ?l18 ?c18 ?a19 ?l19 ?c19 ?a20 ?l20 ?c20 ?a21 ?l21 ?c21 ?a22 ?l22 ?c22 ?a23 ?l23 ?c23 ?a24 ?l24 ?c24 ?a25 ?l25 ?c25 ?a26 ?l26 ?c26 ?a27 ?l27 ?c27 ?a28 ?l28 ?c28 ?a29 ?l29 ?c29 ?a30 ?l30 ?c30 ?a31 ?l31 ?c31 ?a32 ?l32 ?c32 ?g_MOST_OFFERS ?z0 ?z1 ?z2 ?z3 ?z4 ?z5 ?z6 ?z7 ?z8 ?z9 ?z10 ?z11 ?z12 ?z13 ?lc ?v11 ?hP0 ?hcI
  any_goals (show _=_;k_is)
  case v11=>exact rfl
  case hP0=>kernel_rfl
  case hcI=>kernel_rfl
  all_goals rfl
end
