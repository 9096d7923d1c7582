import PyProof.Rows.All
import Wide.All
import OpenK.AllK
import Wide.FinOn
import Lean
import PyProof.EqAt
import PyProof.EqKinds
import PyProof.TupleCall
import PySem.Challenge.RW_nofall_k13_what_shows_by_ties
set_option genSizeOf false
set_option genSizeOfSpec false
set_option Elab.async false
set_option linter.all false
set_option maxRecDepth 100000
open PySem.PyData renaming int → Â,eqv → á,list → Ć,canLayAll0 → Ĉ,str → Č,depthAll → ē,tuple → ŋ
open List renaming length_map → Ä,getElem?_eq_some_iff → Ç,getElem?_eq_getElem → É,mem_cons_of_mem → Ê,mem_singleton → Ë,length_append → Í,mem_of_getElem? → Ð,mem_cons_self → Ñ,size_toArray → Ò,replicate → Ú,getElem?_map → Û,mem_cons → Ü,mem_append → à,mem_append_right → ç,length_singleton → è,range → ê,length_cons → ï,mem_filter → ð,map_append → ñ,map_cons → ò,getD_eq_getElem?_getD → ö,getElem?_append_left → ù,mem_append_left → ú,not_mem_nil → ý,mem_zipIdx_iff_getElem? → ÿ,mem_map → Ā,getElem?_append_right → Ą,getElem?_set_self → Ē,all_eq_true → Ĕ,length_take → ě,mem_range → Ħ,length_filter_le → ħ,take_length → Į,getElem_mem → į,length_reverse → ĳ,length_pos_iff → Ĵ,take_add_one → Ķ,map_map → ĺ,getElem?_set_ne → ľ,length_range → ł,lookup_cons → Ō,mem_of_mem_take → Ő,getElem?_of_mem → ő,find?_cons → ŕ,append_nil → Ŗ,replicate_succ → Ř,length_drop → ŝ,drop_eq_getElem_cons → Ţ,toArray → ť,mem_iff_getElem → Ŧ,any_cons → ũ,all_cons → Ū,getElem?_replicate → Ű,take_of_length_le → Ŵ,nodup_cons → ź,length_set → Ż,take_append_drop → ž
open PySem renaming wpAny_bind → Æ,wpAny_pure → Ö,sizeLine_eq → ą,wpAny_holding → Ě,wpAny_truthy_bool → ģ,wpAny_call_entry → ĵ,wpAny_callSpecial?_slot → Ł,wpAny_mono → Œ,mem_of_lookup → ŗ,wpAny_newObj_type → ř,wpAny_pyIter_tuple → ţ,wpAny_Call_Name_kw → Ť,wpAny_field → ů
open PySem.Heap renaming get?_push_of_some → Î,lt_size → Ï,get?_push_size → Þ,get?_update_other → ĭ,size_push → ĸ,get?_update_self → ň,size_update → ś
open Bool renaming false_ne_true → Ó,and_eq_true → Õ,true_and → Ċ,eq_iff_iff → ĕ,false_eq_true → Ĭ
open Nat renaming le_refl → Ô,ne_of_lt → ä,le_of_ble_eq_true → é,lt_of_lt_of_le → ì,le_trans → õ,zero_le → ü,lt_irrefl → ċ,lt_succ_of_lt → ď,ne_of_gt → Ļ,le_succ → Ň,lt_succ_self → ō
open Option.some renaming inj → Ø
open PySem.W renaming Frag → Ý,mg_none_of → ę,boot_heap → Ů
open PySem.Obj renaming mapSeq → ô
open PySem.Challenge renaming pw_nofall_k13_what_shows_by_ties → ø
open Sum renaming inl → û
open PySem.PassesOwn renaming never → þ
open PySem.NameKind renaming free → ă,cell → Ė
open PyProof.Rows renaming callWith_type1 → ć,slot_tupleiter_next → Ŝ
open PySem.Value renaming type → ĉ,ref → Ģ,none → İ,int → œ
open Array renaming length_toList → Ę
open PySem.Builtin.SmallTypes renaming nextOf → ğ,ownedTupleIsFree → Ŋ
open Ne renaming symm → ġ
open PySem.Builtin.List renaming listExtendWith → ĥ
open Int renaming toNat_natCast → ĩ,le_refl → Ş,emod_lt_of_pos → Š,emod_nonneg → ż
open ForInStep renaming yield → Ī
open PySem.F renaming slot_enumerate_next → ļ,plainAttrs_list → ŏ,slot_enumerate_iter → Ÿ
open PySem.Str renaming ofString → Ś
open False renaming elim → Ũ
open True renaming intro → ų
open PySem.Builtin.Slice renaming slicePlaces → Ź
noncomputable section
namespace L2
open PySem PySem.Spec PyProof.Rows
def zK{n:Nat}(h:Nat.ble n 1000=true:=by rfl):n<=1000:=é h
abbrev Key:=Sum Int Str
def o8:Key->Value->Bool
 |.inl k,v=>Value.isInt k v
 |.inr x,v=>Value.isStrOf x v
def Wm(w:World):Key->Int
 |.inl k=>hashInt k
 |.inr x=>hashStr w x
theorem aO:∀{k:Key}{v:Value},o8 k v=true->(∃i t,k=û i/\v=œ i t)\/(∃x t,k=Sum.inr x/\v=Value.str x t)
 |.inl i,v,h=>by
  obtain⟨t,e⟩:=Value.isInt_shape (k:=i) (v:=v) h
  exact .inl ⟨i,t,rfl,e⟩
 |.inr x,v,h=>by
  obtain⟨t,e⟩:=Value.isStrOf_shape (x:=x) (v:=v) h
  exact .inr ⟨x,t,rfl,e⟩
def G7(i:Int)(t:Tok):o8 (.inl i) (.int i t)=true:=by simp[o8,Value.isInt]
def G6(x:Str)(t:Tok):o8 (.inr x) (.str x t)=true:=by simp[o8,Value.isStrOf]
def Sx(a b:Int):decide ((û a:Key)=û b)=(a == b):=by
 by_cases e:a=b
 ·subst e;simp
 ·have h:¬(û a:Key)=û b:=λq=>e (Sum.inl.inj q)
  rw[decide_eq_false h]
  exact(beq_eq_false_iff_ne.mpr e).symm
def Ss(a b:Str):decide ((Sum.inr a:Key)=Sum.inr b)=decide (a=b):=by
 by_cases e:a=b
 ·subst e;simp
 ·have h:¬(Sum.inr a:Key)=Sum.inr b:=λq=>e (Sum.inr.inj q)
  rw[decide_eq_false h,decide_eq_false e]
def Sw(a:Int)(b:Str):decide ((û a:Key)=Sum.inr b)=false:=decide_eq_false (λq=>nomatch q)
def Sv(a:Str)(b:Int):decide ((Sum.inr a:Key)=û b)=false:=decide_eq_false (λq=>nomatch q)
def aW(prog:Program)(w:World):PySem.KeyKind prog w Key where
 is:=o8
 hash:=Wm w
 inj:=λv a b ha hb=>by
  rcases aO ha with ⟨i,t,rfl,rfl⟩|⟨x,t,rfl,rfl⟩
  ·rcases aO hb with ⟨j,u,rfl,e⟩|⟨y,u,rfl,e⟩
   ·injection e with e1 _;rw[e1]
   ·exact nomatch e
  ·rcases aO hb with ⟨j,u,rfl,e⟩|⟨y,u,rfl,e⟩
   ·exact nomatch e
   ·injection e with e1 _;rw[e1]
 byValue:=λk v h=>by
  rcases aO h with ⟨i,t,rfl,rfl⟩|⟨x,t,rfl,rfl⟩ <;> rfl
 pyHash:=λhv h=>by
  rcases aO hv with ⟨i,t,rfl,rfl⟩|⟨x,t,rfl,rfl⟩
  ·exact wpAny_pyHash_int h
  ·exact wpAny_pyHash_str h
 eqBool:=λhu hv h=>by
  rcases aO hu with ⟨i,t,rfl,rfl⟩|⟨x,t,rfl,rfl⟩
  ·rcases aO hv with ⟨j,u,rfl,rfl⟩|⟨y,u,rfl,rfl⟩
   ·rw[Sx] at h;exact wpAny_eqBool_int h
   ·rw[Sw] at h;exact SeqAt.EqAt.int_str i t y u _ _ _ _ h
  ·rcases aO hv with ⟨j,u,rfl,rfl⟩|⟨y,u,rfl,rfl⟩
   ·rw[Sv] at h;exact SeqAt.EqAt.str_int x t j u _ _ _ _ h
   ·rw[Ss] at h;exact wpAny_eqBool_str h
 «strs»:=λk x t v h=>by
  rcases aO h with ⟨i,u,rfl,e⟩|⟨y,u,rfl,e⟩
  ·exact nomatch e
  ·injection e with e1 _
   subst e1
   cases v <;> rfl
def yQ(prog:Program)(w:World)(i:Int)(t:Tok):(aW prog w).is (.inl i) (.int i t)=true:=G7 i t
def yP(prog:Program)(w:World)(x:Str)(t:Tok):(aW prog w).is (.inr x) (.str x t)=true:=G6 x t
inductive V where
 |non|bl (b:Bool)|int (i:Int)|str (x:Str)|byt (b:Array UInt8)|flt (b:UInt64)|ref (a:Addr)|ty (n:String)
 deriving DecidableEq
def RelV:V->Value->Prop
 |.non,u=>u=İ
 |.bl b,u=>u=Value.bool b
 |.int i,u=>∃t,u=œ i t
 |.str x,u=>∃t,u=Value.str x t
 |.byt b,u=>∃t,u=Value.bytes b t
 |.flt b,u=>∃t,u=Value.float b t
 |.ref a,u=>u=Ģ a
 |.ty n,u=>u=ĉ n
abbrev Vals:List V->List Value->Prop:=Paired RelV
def Vals.length{xs:List V}{us:List Value}(r:Vals xs us):xs.length=us.length:=Paired.length r
theorem Vals.get:∀{xs:List V}{us:List Value}{i:Nat}{x:V},Vals xs us->xs[i]?=some x->∃u,us[i]?=some u/\RelV x u
 |_,_,_,_,.nil,e=>by simp at e
 |_,_,0,_,.cons r _,e=>by simp at e;subst e;exact⟨_,rfl,r⟩
 |_,_,i+1,x,.cons _ t,e=>by
  obtain⟨u,h1,h2⟩:=Vals.get (i:=i) (x:=x) t (by simpa using e)
  exact⟨u,by simpa using h1,h2⟩
theorem Vals.set{x:V}{u:Value}(r:RelV x u):∀{xs:List V}{us:List Value} (i:Nat),Vals xs us->Vals (xs.set i x) (us.set i u)
 |_,_,_,.nil=>.nil
 |_,_,0,.cons _ t=>.cons r t
 |_,_,i+1,.cons q t=>.cons q (Vals.set r i t)
theorem Vals.append:∀{xs ys:List V}{us ws:List Value},Vals xs us->Vals ys ws->Vals (xs++ys) (us++ws)
 |_,_,_,_,.nil,s=>s
 |_,_,_,_,.cons r t,s=>.cons r (Vals.append t s)
theorem Vals.take:∀{xs:List V}{us:List Value} (n:Nat),Vals xs us->Vals (xs.take n) (us.take n)
 |_,_,0,_=>.nil
 |_,_,_+1,.nil=>.nil
 |_,_,n+1,.cons r t=>.cons r (Vals.take n t)
theorem Vals.drop:∀{xs:List V}{us:List Value} (n:Nat),Vals xs us->Vals (xs.drop n) (us.drop n)
 |_,_,0,r=>r
 |_,_,_+1,.nil=>.nil
 |_,_,n+1,.cons _ t=>Vals.drop n t
def tQ:Option V->Option Value->Prop
 |some v,some u=>RelV v u
 |none,none=>True
 |_,_=>False
def KV{κ:Type}:List (κ×V)->List (κ×Value)->Prop:=Paired λ(p:κ×V) (q:κ×Value)=>p.1=q.1/\RelV p.2 q.2
def kV:Key->V
 |.inl i=>.int i
 |.inr x=>.str x
inductive HO where
 |lst (xs:List V)
 |tup (xs:List V)
 |dK (kvs:List (Key×V))|dT (kvs:List (List Key×V))
 |set (S:Int->Bool) (n:Nat)
 |ins (C dx:Addr) (fs:List (Str×V))
 |own (x:Addr)
 |xd (fs:List (Str×V))
 |met (f x:Addr)
 |rng (lo hi:Int)
 |frz (o:Obj) (u:HO)
 |tbl (ps:Array Value)
 |ext (φ:Heap->Prop)
abbrev Hp:=Addr->Option HO
def upd(H:Hp)(a:Addr)(o:HO):Hp:=λb=>if b=a then some o else H b
def aq{H:Hp}{a:Addr}{o:HO}:upd H a o a=some o:=by unfold upd;rw[if_pos rfl]
def aj{H:Hp}{a b:Addr}{o:HO}(h:b≠a):upd H a o b=H b:=by unfold upd;rw[if_neg h]
def U7{H:Hp}{a b:Addr}{o u:HO}(h:H a=some o)(h':H b=some u)(d:o≠u):a≠b:=by
 intro e;subst e;rw[h] at h';exact d (Ø h')
def ao{H:Hp}{a b:Addr}{o:HO}(h:H a=some o)(h':H b=none):a≠b:=by
 intro e;subst e;rw[h] at h';cases h'
section
variable (P:Program) (w:World)
def bf(H:Hp)(h:Heap)(a:Addr):HO->Prop
 |.lst xs=>xs.length<=sizeLine/\∃(its:List Value) (n:Nat),Vals xs its/\h.get? a=some { cls:=.type "list",data:=.seq its.toArray n }
 |.tup xs=>xs.length<=sizeLine/\∃its:List Value,Vals xs its/\IsTup h a its.toArray
 |.dK kvs=>kvs.length<=sizeLine/\(a == sysModules)=false/\∃vs,KV kvs vs/\h.DictOf (aW P w) a vs
 |.dT kvs=>kvs.length<=sizeLine/\(a == sysModules)=false/\∃xs:List (List Key×Addr×Value),
   Paired (λ(p:List Key×V) (q:List Key×Addr×Value)=>p.1=q.1/\H q.2.1=some (.tup (p.1.map kV))/\RelV p.2 q.2.2) kvs xs /\
   ∃o es ep,h.get? a=some o/\o.ExactDict/\o.data=.dict es ep/\es.toList=xs.map (entryOfKey (tupleKind (aW P w)))/\(xs.map (·.1)).Nodup
 |.set S n=>h.SetOf (intKind P w) a S n
 |.ins C dx fs=>H dx=some (.own a)/\fs.length<=1000/\dx≠a/\h.get? a=some (W.instObj C dx) /\
   ∃mA,h.Ns1 dx mA/\(∀f,tQ (fs.lookup f) (mA f))/\PySem.Within mA (fs.map (·.1))
 |.own _=>∃o,h.get? a=some o
 |.xd fs=>∃mA,h.Ns1 a mA/\∀f,tQ (fs.lookup f) (mA f)
 |.rng lo hi=>∃t u v,h.get? a=some { cls:=.type "range",data:=.fields #[.int lo t,.int hi u,.int 1 v] }
 |.frz o u=>h.get? a=some o/\bf H h a u
 |.tbl ps=>h.get? a=some { cls:=.none,data:=.fields ps }
 |.met f x=>h.get? a=some (W.methodObj (.ref f) (.ref x))
 |.ext φ=>φ h/\(∃o,h.get? a=some o)/\∀h1 h2:Heap,φ h1->(∀o,h1.get? a=some o->h2.get? a=some o)->φ h2
def HOk(H:Hp)(h:Heap):Prop:=∀a o,H a=some o->bf P w H h a o
end
section
variable {P:Program}{w:World}{H H':Hp}{h h':Heap}{a:Addr}{o:HO}
def bf.lt(x:bf P w H h a o):a<h.objs.size:=by
 cases o with
 |lst xs=>obtain⟨_,_,_,_,e⟩:=x;exact Ï e
 |tup xs=>obtain⟨_,_,_,p⟩:=x;exact p.lt
 |dK kvs=>obtain⟨_,_,_,_,o,_,_,e,_⟩:=x;exact Ï e
 |dT kvs=>obtain⟨_,_,_,_,o,_,_,e,_⟩:=x;exact Ï e
 |set S n=>obtain⟨o,_,_,_,e,_⟩:=x;exact Ï e
 |ins C dx fs=>obtain⟨_,_,_,e,_⟩:=x;exact Ï e
 |own y=>obtain⟨_,e⟩:=x;exact Ï e
 |xd fs=>obtain⟨_,⟨_,_,_,e,_⟩,_⟩:=x;exact Ï e
 |rng lo hi=>obtain⟨_,_,_,e⟩:=x;exact Ï e
 |frz ob u=>obtain⟨e,_⟩:=x;exact Ï e
 |tbl ps=>exact Ï (show h.get? a=some _ from x)
 |met f y=>exact Ï (show h.get? a=some _ from x)
 |ext φ=>obtain⟨_,⟨_,e⟩,_⟩:=x;exact Ï e
theorem Paired.GX{α β:Type}{F G:α->β->Prop}:∀{l₁:List α}{l₂:List β},Paired F l₁ l₂->(∀a b,F a b->G a b)->Paired G l₁ l₂
 |_,_,.nil,_=>.nil
 |_,_,.cons r t,f=>.cons (f _ _ r) (Paired.GX t f)
def bf.stay(x:bf P w H h a o)(k:∀b u,(b=a\/H b=some (.own a))->h.get? b=some u->h'.get? b=some u)(ho:∀b,H b=some (.own a)->H' b=some (.own a))(ht:∀b xs,H b=some (.tup xs)->H' b=some (.tup xs)):bf P w H' h' a o:=by
 induction o with
 |lst xs=>obtain⟨z,its,n,r,e⟩:=x;exact⟨z,its,n,r,k _ _ (.inl rfl) e⟩
 |tup xs=>obtain⟨z,its,r,ob,e,c⟩:=x;exact⟨z,its,r,ob,k _ _ (.inl rfl) e,c⟩
 |dK kvs=>obtain⟨z,y,vs,r,ob,es,ep,e,c⟩:=x;exact⟨z,y,vs,r,ob,es,ep,k _ _ (.inl rfl) e,c⟩
 |dT kvs =>
  obtain⟨z,y,xs,r,ob,es,ep,e,c⟩:=x
  exact⟨z,y,xs,Paired.GX r λp q z=>⟨z.1,ht _ _ z.2.1,z.2.2⟩,ob,es,ep,k _ _ (.inl rfl) e,c⟩
 |set S n=>obtain⟨ob,es,ep,t,e,c⟩:=x;exact⟨ob,es,ep,t,k _ _ (.inl rfl) e,c⟩
 |ins C dx fs =>
  obtain⟨d,z,ne,e,mA,⟨od,es,ep,e2,c⟩,r⟩:=x
  exact⟨ho _ d,z,ne,k _ _ (.inl rfl) e,mA,⟨od,es,ep,k _ _ (.inr d) e2,c⟩,r⟩
 |own y=>obtain⟨ob,e⟩:=x;exact⟨ob,k _ _ (.inl rfl) e⟩
 |xd fs=>obtain⟨mA,⟨od,es,ep,e,c⟩,r⟩:=x;exact⟨mA,⟨od,es,ep,k _ _ (.inl rfl) e,c⟩,r⟩
 |rng lo hi=>obtain⟨t,u,v,e⟩:=x;exact⟨t,u,v,k _ _ (.inl rfl) e⟩
 |frz ob u ih=>obtain⟨e,q⟩:=x;exact⟨k _ _ (.inl rfl) e,ih q⟩
 |tbl ps =>
  have e:h.get? a=some { cls:=.none,data:=.fields ps }:=x
  show h'.get? a=some { cls:=.none,data:=.fields ps }
  exact k a _ (.inl rfl) e
 |met f y =>
  have e:h.get? a=some (W.methodObj (.ref f) (.ref y)):=x
  show h'.get? a=some (W.methodObj (.ref f) (.ref y))
  exact k a _ (.inl rfl) e
 |ext φ=>obtain⟨p,⟨o,e⟩,st⟩:=x;exact⟨st _ _ p λo q=>k _ _ (.inl rfl) q,⟨o,k _ _ (.inl rfl) e⟩,st⟩
def HOk.lt(x:HOk P w H h)(e:H a=some o):a<h.objs.size:=(x a o e).lt
def HOk.fresh(x:HOk P w H h)(e:h.objs.size<=a):H a=none:=by
 cases q:H a with
 |none=>rfl
 |some u=>exact absurd (ì (x.lt q) e) (ċ _)
def HOk.kept(x:HOk P w H h)(k:∀b u,h.get? b=some u->h'.get? b=some u):HOk P w H h':=λa o e =>
 (x a o e).stay (λb u _ q=>k b u q) (λ_ q=>q) λ_ _ q=>q
def HOk.laid(x:HOk P w H h)(k:∀b u,h.get? b=some u->h'.get? b=some u)(hp:h.objs.size<=a)(new:bf P w (upd H a o) h' a o):HOk P w (upd H a o) h':=λb u e=>by
 have hn:=x.fresh hp
 by_cases hb:b=a
 ·subst hb;rw[aq] at e;cases e;exact new
 ·rw[aj hb] at e
  exact(x b u e).stay (λc v _ q=>k c v q) (λc q=>by rw[aj (ao q hn)];exact q) λc xs q=>by rw[aj (ao q hn)];exact q
end
def Rd(H:Hp)(a:Addr)(u:HO):Prop:=H a=some u\/∃o,H a=some (.frz o u)
def Rd.ok{P:Program}{w:World}{H:Hp}{h:Heap}{a:Addr}{u:HO}(r:Rd H a u)(x:HOk P w H h):bf P w H h a u:=by
 rcases r with r|⟨o,r⟩
 ·exact x a u r
 ·obtain⟨_,q⟩:=x a _ r
  exact q
def Mut:Option HO->Prop
 |some (.lst _)=>True
 |some (.dK _)=>True
 |some (.dT _)=>True
 |some (.set _ _)=>True
 |some (.ins _ _ _)=>True
 |some (.ext _)=>True
 |_=>False
section
variable {P:Program}{w:World}{H:Hp}{h h':Heap}{x e:Addr}{o':HO}
def HOk.write(ok:HOk P w H h)(mu:Mut (H x))(he:e=x\/H e=some (.own x))(k:∀b u,b≠e->h.get? b=some u->h'.get? b=some u)(heo:∃u,h'.get? e=some u)(new:bf P w (upd H x o') h' x o'):HOk P w (upd H x o') h':=λb u q=>by
 have nown:∀c y,H c=some (.own y)->c≠x:=λc y r z=>by subst z;rw[r] at mu;exact mu
 have ntup:∀c xs,H c=some (.tup xs)->c≠x:=λc xs r z=>by subst z;rw[r] at mu;exact mu
 by_cases hb:b=x
 ·subst hb;rw[aq] at q;cases q;exact new
 ·rw[aj hb] at q
  by_cases hbe:b=e
  ·have q':H b=some (.own x):=by
    rcases he with z|z
    ·exact absurd (hbe.trans z) hb
    ·rw[hbe];exact z
   rw[q] at q';cases q'
   obtain⟨v,hv⟩:=heo
   exact⟨v,by rw[hbe];exact hv⟩
  ·refine(ok b u q).stay (λc v hc r=>k c v ?_ r) (λc r=>by rw[aj (nown c b r)];exact r) λc xs r=>by rw[aj (ntup c xs r)];exact r
   rcases hc with rfl|hc
   ·exact hbe
   ·rintro rfl
    rcases he with z|z
    ·exact nown c b hc z
    ·rw[hc] at z;cases z;exact hb rfl
end
structure Un(fs ex:List Addr)(H H':Hp)(h h':Heap):Prop where
 keep:∀b o,h.get? b=some o->H b=none->b∉fs->b∉ex->h'.get? b=some o
 slot:∀b o,h.get? b=some o->H b=none->b∈fs->b∉ex->∃sl,h'.get? b=some { o with slots:=sl }
 free:∀b o,h.get? b=some o->H b=none->b∉ex->H' b=none
 there:∀b o,h.get? b=some o->b∉ex->∃o',h'.get? b=some o'
 tups:∀b xs,H b=some (.tup xs)->H' b=some (.tup xs)
 frzs:∀b o u,H b=some (.frz o u)->H' b=some (.frz o u)
 tbls:∀b ps,H b=some (.tbl ps)->∃more,H' b=some (.tbl (ps++more))
section
variable {fs fs' ex ex':List Addr}{H H1 H2:Hp}{h h1 h2 h':Heap}{a x e:Addr}{o:HO}
def Un.any(u:Un fs ex H H1 h h1){b:Addr}{ob:Obj}(q:h.get? b=some ob)(n:H b=none)(hx:b∉ex):∃sl,h1.get? b=some { ob with slots:=sl }:=by
 by_cases hb:b∈fs
 ·exact u.slot b ob q n hb hx
 ·exact⟨ob.slots,u.keep b ob q n hb hx⟩
def Un.kept(k:∀b u,h.get? b=some u->h'.get? b=some u):Un fs ex H H h h' :=
 ⟨λb ob q _ _ _=>k b ob q,λb ob q _ _ _=>⟨ob.slots,k b ob q⟩,λ_ _ _ n _=>n,λb ob q _=>⟨ob,k b ob q⟩,λ_ _ q=>q,λ_ _ _ q=>q,λ_ ps q=>⟨#[],by rw[q];simp⟩⟩
def Un.refl:Un fs ex H H h h:=Un.kept λ_ _ q=>q
def Un.laid(k:∀b u,h.get? b=some u->h'.get? b=some u)(hp:h.objs.size<=a)(hn:H a=none):Un fs ex H (upd H a o) h h' where
 keep:=λb u q _ _ _=>k b u q
 slot:=λb u q _ _ _=>⟨u.slots,k b u q⟩
 free:=λb u q n _=>by rw[aj (ä (ì (Ï q) hp))];exact n
 there:=λb u q _=>⟨u,k b u q⟩
 tups:=λb xs q=>by rw[aj (ao q hn)];exact q
 frzs:=λb u xs q=>by rw[aj (ao q hn)];exact q
 tbls:=λb ps q=>⟨#[],by rw[aj (ao q hn),q];simp⟩
def Un.write(mu:Mut (H x))(he:e=x\/H e=some (.own x))(k:∀b u,b≠e->h.get? b=some u->h'.get? b=some u)(heo:∃u,h'.get? e=some u):Un fs ex H (upd H x o) h h':=by
 have hx:∀b,H b=none->b≠x:=λb n z=>by subst z;rw[n] at mu;exact mu
 have hb:∀b,H b=none->b≠e:=λb n z=>by
  subst z
  rcases he with r|r
  ·exact hx b n r
  ·rw[n] at r;cases r
 have hm:∀b u,H b=some u->¬Mut (some u)->b≠x:=λb u q nm z=>by subst z;rw[q] at mu;exact nm mu
 refine⟨λb u q n _ _=>k b u (hb b n) q,λb u q n _ _=>⟨u.slots,k b u (hb b n) q⟩,λb u q n _=>by rw[aj (hx b n)];exact n,λb u q _=>?_,
  λb xs q=>by rw[aj (hm b _ q λz=>z)];exact q,λb u xs q=>by rw[aj (hm b _ q λz=>z)];exact q,λb ps q=>⟨#[],by rw[aj (hm b _ q λz=>z),q];simp⟩⟩
 by_cases hbe:b=e
 ·subst hbe;exact heo
 ·exact⟨u,k b u hbe q⟩
end
def trk(h:Heap)(H:Hp):List Addr:=(ê h.objs.size).filter λa=>(H a).isSome
def wG(h:Heap)(H:Hp):Heap:=W.hideAll h (trk h H)
def Hg(h:Heap)(H:Hp):(wG h H).objs.size=h.objs.size:=W.hideAll_size _ _
def Ko{h:Heap}{H:Hp}{b:Addr}{o:Obj}(e:h.get? b=some o)(n:H b=none):(wG h H).get? b=some o :=
 W.hideAll_get _ e λhm=>by
  have q:(H b).isSome=true:=(ð.mp hm).2
  rw[n] at q;simp at q
def NP{h:Heap}{H:Hp}{b:Addr}{o:Obj}(e:(wG h H).get? b=some o):h.get? b=some o/\H b=none:=by
 have e':h.get? b=some o:=W.of_hideAll (trk h H) e
 refine⟨e',?_⟩
 cases q:H b with
 |none=>rfl
 |some x =>
  have hm:b∈trk h H:=ð.mpr ⟨Ħ.mpr (Ï e'),by simp[q]⟩
  have z:(wG h H).get? b=none:=W.hideAll_none (trk h H) hm
  rw[z] at e;cases e
def xu(g h:Heap)(L:Addr):List (Addr×Obj):=(ê h.objs.size).filterMap λa=>if a=L\/(g.get? a).isSome=true then none else (h.get? a).map λo=>(a,o)
def rR{g h:Heap}{L:Addr}{p:Addr×Obj}(hp:p∈xu g h L):p.1≠L/\g.get? p.1=none/\h.get? p.1=some p.2:=by
 obtain⟨b,_,e⟩:=List.mem_filterMap.mp hp
 split at e
 ·cases e
 ·rename_i hn
  cases q:h.get? b with
  |none=>rw[q] at e;simp at e
  |some u =>
   rw[q] at e
   simp only[Option.map_some,Option.some.injEq] at e
   subst e
   refine⟨λz=>hn (.inl z),?_,q⟩
   show g.get? b=none
   cases r:g.get? b with
   |none=>rfl
   |some v=>exact(hn (.inr (by simp[r]))).elim
def rest(g h:Heap)(L d:Addr):List (Addr×Obj):=(xu g h L).filter λp=>decide (p.1≠d)
def J0{g h:Heap}{L:Addr}:News g L h (xu g h L):=λp hp=>let ⟨a,b,c⟩:=rR hp;⟨c,a,b⟩
structure Mod(K:Ý)(mg:Str->Option Value)(base:Heap):Prop where
 kin:K.In base
 glob:base.Ns mainGlobals mg
 blt:∃mb,base.Ns builtinsNs mb/\∀x:Str,x≠"__name__"->mb x=bootBuiltins x
 nolimit:base.NoLimit
structure Cx where
 prog:Program
 w:World
 K:Ý
 mg:Str->Option Value
 base:Heap
 A:Around
 N:List Str
 s₀:Shared
 H₀:Hp
 env:Env
 outer:List Env
 stack:List Env
 ex:List Addr
 fn:Str->Bool
 calm:Bool
 pn:List (Addr×Obj)
 xe:Value->Shared->Prop
 sf:List (Addr×Obj×HO):=[]
def frs(l:List Env):List Addr:=l.filterMap (·.frame)
abbrev Cx.fs(X:Cx):List Addr:=frs X.outer
def Vis(sc:Scope)(x:Str):Prop:=sc.names.lookup x=some .local\/sc.names.lookup x=some .cell\/sc.names.lookup x=some .free
def Loc(sc:Scope)(x:Str):Prop:=sc.names.lookup x=some .local\/sc.names.lookup x=some .cell
def Look(env:Env)(h:Heap)(m:Str->Option Value)(x:Str)(u:Value):Prop :=
 (env.kindOf x=some .local/\m x=some u)\/((env.kindOf x=some .cell\/env.kindOf x=some .free)/\∃c,env.cells.lookup x=some c/\h.IsCell c (some u))
abbrev zS(X:Cx)(e:Expr)(es:List Expr):Prop:=starEach (e::es) X.env=(false,eval e X.env)::starEach es X.env
abbrev zP(X:Cx)(p:Pos)(es:List Expr):Prop:=(backTo p (starEach es X.env)).any (·.1)=false
abbrev zB(x:Str):Prop:=(x == ("__debug__":Str))=false
abbrev zF(X:Cx)(e:Expr):Prop:=∀x,foldedSetIterable e X.env x=pure x
abbrev zL(X:Cx)(x:Str):Prop:=X.fn x=true\/X.env.scope.names.lookup x=some .local
abbrev zW(X:Cx)(p:Pos)(es:List Expr):Prop:=((backTo p (starEach es X.env)).all (λx=>!x.1)&&(backToKw p (keywordEach [] X.env)).all (λx=>x.1.isSome)&&decide (es.length+([]:List Keyword).length+(if ([]:List Keyword).isEmpty then 0 else 1)<30))=true
def zQ{sc:Scope}{x:Str}(h:(sc.names.lookup x == some .local||sc.names.lookup x == some .cell)=true:=by rfl):Loc sc x:=(Bool.or_eq_true_iff.mp h).imp (λz=>eq_of_beq z) λz=>eq_of_beq z
structure Cx.Ok(X:Cx):Prop where
 mod:Mod X.K X.mg X.base
 kind:X.env.scope.kind=.function
 glob:X.env.globals=mainGlobals
 blt:X.env.builtins=builtinsNs
 above:X.s₀.heap.objs.size<=X.env.locals
 inj:∀x y c,X.env.cells.lookup x=some c->X.env.cells.lookup y=some c->x=y
 has:∀x,(X.env.kindOf x=some .cell\/X.env.kindOf x=some .free)->∃c,X.env.cells.lookup x=some c
 cab:∀x c,X.fn x=true->X.env.cells.lookup x=some c->X.s₀.heap.objs.size<=c
 hd:X.calm=true->X.A.handled=none
 frames:X.A.frames=some X.stack
 stk:X.stack=X.outer\/(X.stack=X.env::X.outer/\X.env.frame=some X.env.locals)
 exf:∀b∈X.ex,b≠X.env.locals/\∀x c,X.env.cells.lookup x=some c->c≠b
 bs:∀b o,X.base.get? b=some o->X.s₀.heap.get? b=some o/\X.H₀ b=none
 bsz:X.base.objs.size<=X.s₀.heap.objs.size
 noex:∀b o,X.base.get? b=some o->b∉X.ex
 exfs:∀b∈X.ex,b∉X.fs
 sJ:X.s₀.heap.FunFrames X.base X.outer
 frf:∀b∈X.fs,X.H₀ b=none
 sof:∀q∈X.sf,X.A.handled=some (.ref q.1)/\X.H₀ q.1=some (.frz q.2.1 q.2.2)/\∃ws,q.2.1.data=.fields ws/\ws[2]?=some .none
structure Inv(X:Cx)(pins:List (Addr×Obj))(σ:List (Option V))(H:Hp)(s:Shared):Prop where
 ok:X.Ok
 os:s.os=X.s₀.os
 bare:AllBare s.gens
 base:Un X.fs X.ex X.H₀ H X.s₀.heap s.heap
 loc:∃m,s.heap.Ns X.env.locals m/\∀(i:Nat) (x:Str) (v:V),X.N[i]?=some x->σ[i]?=some (some v)->Vis X.env.scope x->∃u,RelV v u/\Look X.env s.heap m x u
 cell:∀x c,X.env.cells.lookup x=some c->∃v,s.heap.IsCell c v
 free:H X.env.locals=none
 freeC:∀x c,X.env.cells.lookup x=some c->H c=none
 pin:∀p∈X.pn++pins,s.heap.get? p.1=some p.2/\H p.1=none/\p.1≠X.env.locals/\p.1∉X.fs/\∀v,p.2.data≠.cell v
 hok:HOk X.prog X.w H s.heap
 len:σ.length=X.N.length
section
variable {X:Cx}{pins:List (Addr×Obj)}{σ:List (Option V)}{H H':Hp}{s:Shared}{h':Heap}
def Cx.Ok.Wh(ok:X.Ok){b:Addr}{o:Obj}(e:X.base.get? b=some o):b∉X.fs:=λhb=>by
 have:=(ok.sJ.mem hb).1
 rw[e] at this;cases this
def Inv.bs(I:Inv X pins σ H s):∀b o,X.base.get? b=some o->s.heap.get? b=some o/\H b=none:=λb o e =>
 ⟨I.base.keep b o (I.ok.bs b o e).1 (I.ok.bs b o e).2 (I.ok.Wh e) (I.ok.noex b o e),I.base.free b o (I.ok.bs b o e).1 (I.ok.bs b o e).2 (I.ok.noex b o e)⟩
def Inv.bk(I:Inv X pins σ H s):∀b o,X.base.get? b=some o->s.heap.get? b=some o:=λb o e=>(I.bs b o e).1
def Inv.mod(I:Inv X pins σ H s):Mod X.K X.mg X.base:=I.ok.mod
def Inv.kIn(I:Inv X pins σ H s):X.K.In s.heap:=I.ok.mod.kin.keeps I.bk
def Inv.fr(I:Inv X pins σ H s):∃m,Fr X.base X.env.locals s.heap m :=
 let ⟨m,hn,_⟩:=I.loc
 ⟨m,hn,I.bk,õ I.ok.bsz I.ok.above⟩
def Inv.lt(I:Inv X pins σ H s):X.env.locals<s.heap.objs.size:=let ⟨_,hn,_⟩:=I.loc;hn.lt
def Inv.sz(I:Inv X pins σ H s):X.s₀.heap.objs.size<=s.heap.objs.size:=õ I.ok.above (Nat.le_of_lt I.lt)
def Inv.Wg(I:Inv X pins σ H s){a:Addr}(h:s.heap.objs.size<=a):a∉X.fs:=λhb=>by
 obtain⟨_,o,ho,_⟩:=I.ok.sJ.mem hb
 exact absurd (ì (Ï ho) (õ I.sz h)) (ċ _)
def Inv.cne(I:Inv X pins σ H s):∀x c,X.env.cells.lookup x=some c->c≠X.env.locals:=λx c e z=>by
 obtain⟨v,o,ho,hd⟩:=I.cell x c e
 obtain⟨m,⟨o',es,ep,ho',hd',_⟩,_⟩:=I.loc
 rw[z,ho'] at ho;cases ho;rw[hd'] at hd;cases hd
def Inv.sJ(I:Inv X pins σ H s):s.heap.FunFrames X.base X.outer:=by
 have all:∀(l:List Env),(∀b∈frs l,b∈X.fs)->X.s₀.heap.FunFrames X.base l->s.heap.FunFrames X.base l:=by
  intro l
  induction l with
  |nil=>intro _ _;trivial
  |cons env r ih =>
   intro hs hl
   obtain⟨hk,⟨L,o,hf,hn,ho,hd⟩,hr⟩:=hl
   have hL:L∈X.fs:=hs L (by unfold frs;rw[List.filterMap_cons,hf];exact Ñ)
   obtain⟨sl,e⟩:=I.base.slot L o ho (I.ok.frf L hL) hL λz=>I.ok.exfs L z hL
   exact⟨hk,⟨L,_,hf,hn,e,hd⟩,ih (λb hb=>hs b (by unfold frs;rw[List.filterMap_cons,hf];exact Ê _ hb)) hr⟩
 exact all X.outer (λ_ hb=>hb) I.ok.sJ
def Inv.stack(I:Inv X pins σ H s):s.heap.FunFrames X.base X.stack:=by
 rcases I.ok.stk with e|⟨e,hf⟩
 ·rw[e];exact I.sJ
 ·rw[e]
  obtain⟨m,hn,_⟩:=I.loc
  refine .cons (by rw[I.ok.kind];decide) hf hn ?_ I.sJ
  exact Heap.get?_none_of_le (õ I.ok.bsz I.ok.above)
def Inv.Aq(I:Inv X pins σ H s):∀b∈frs X.stack,b∈X.env.locals::X.fs:=λb hb=>by
 rcases I.ok.stk with e|⟨e,hf⟩
 ·rw[e] at hb;exact Ê _ hb
 ·rw[e] at hb
  unfold frs at hb
  rw[List.filterMap_cons,hf] at hb
  exact hb
def Inv.DQ(I:Inv X pins σ H s):∀b∈frs X.stack,H b=none:=λb hb=>by
 rcases Ü.mp (I.Aq b hb) with e|hb
 ·rw[e];exact I.free
 ·obtain⟨_,o,ho,_⟩:=I.ok.sJ.mem hb
  exact I.base.free b o ho (I.ok.frf b hb) λz=>I.ok.exfs b z hb
def Inv.step{g':Array GenState}{t':Nat}{d':Drawn}{ch:List Addr}(I:Inv X pins σ H s)(hch:∀b∈ch,(b∈X.ex\/X.s₀.heap.objs.size<=b)/\b≠X.env.locals/\(∀x c,X.env.cells.lookup x=some c->c≠b)/\∀p∈X.pn++pins,p.1≠b)(keep:∀b o,b≠X.env.locals->b∉X.fs->b∉ch->s.heap.get? b=some o->H b=none->h'.get? b=some o)(slot:∀b o,b≠X.env.locals->b∈X.fs->b∉ch->s.heap.get? b=some o->H b=none->∃sl,h'.get? b=some { o with slots:=sl })(free:∀b o,b∉ch->s.heap.get? b=some o->H b=none->H' b=none)(there:∀b o,b∉ch->s.heap.get? b=some o->∃o',h'.get? b=some o')(tups:∀b xs,H b=some (.tup xs)->H' b=some (.tup xs))(frzs:∀b o u,H b=some (.frz o u)->H' b=some (.frz o u))(tbls:∀b ps,H b=some (.tbl ps)->∃more,H' b=some (.tbl (ps++more)))(ns:∀m,s.heap.Ns X.env.locals m->h'.Ns X.env.locals m)(hok:HOk X.prog X.w H' h')(hg:AllBare g') :
  Inv X pins σ H' { s with heap:=h',gens:=g',drawn:=d',toks:=t' }:=by
 have neL:∀b o,X.s₀.heap.get? b=some o->b≠X.env.locals:=λb o e=>ä (ì (Ï e) I.ok.above)
 have neC:∀b o,X.s₀.heap.get? b=some o->b∉X.ex->b∉ch:=λb o e hx hb=>by
  rcases(hch b hb).1 with z|z
  ·exact hx z
  ·exact absurd (ì (Ï e) z) (ċ _)
 have cellK:∀x c,X.env.cells.lookup x=some c->∀v,s.heap.IsCell c v->h'.IsCell c v:=λx c e v ⟨o,ho,hd⟩=>by
  have nch:c∉ch:=λz=>(hch c z).2.2.1 x c e rfl
  by_cases hc:c∈X.fs
  ·obtain⟨sl,q⟩:=slot c o (I.cne x c e) hc nch ho (I.freeC x c e)
   exact⟨_,q,hd⟩
  ·exact⟨o,keep c o (I.cne x c e) hc nch ho (I.freeC x c e),hd⟩
 refine⟨I.ok,I.os,hg,⟨λb o e n hb hx=>?_,λb o e n hb hx=>?_,λb o e n hx=>?_,λb o e hx=>?_,λb xs e=>tups b xs (I.base.tups b xs e),λb o xs e=>frzs b o xs (I.base.frzs b o xs e),λb ps e=>?_⟩,?_,λx c e=>?_,?_,λx c e=>?_,λp hp=>?_,hok,I.len⟩
 ·exact keep b o (neL b o e) hb (neC b o e hx) (I.base.keep b o e n hb hx) (I.base.free b o e n hx)
 ·obtain⟨sl,e1⟩:=I.base.slot b o e n hb hx
  obtain⟨sl',e2⟩:=slot b _ (neL b o e) hb (neC b o e hx) e1 (I.base.free b o e n hx)
  exact⟨sl',e2⟩
 ·obtain⟨o',e1⟩:=I.base.there b o e hx
  exact free b o' (neC b o e hx) e1 (I.base.free b o e n hx)
 ·obtain⟨o',e1⟩:=I.base.there b o e hx
  exact there b o' (neC b o e hx) e1
 ·obtain⟨m1,e1⟩:=I.base.tbls b ps e
  obtain⟨m2,e2⟩:=tbls b _ e1
  exact⟨m1++m2,by rw[e2,Array.append_assoc]⟩
 ·obtain⟨m,hn,hl⟩:=I.loc
  refine⟨m,ns m hn,λi x v e1 e2 e3=>?_⟩
  obtain⟨u,r,l⟩:=hl i x v e1 e2 e3
  refine⟨u,r,?_⟩
  rcases l with l|⟨k,c,e,z⟩
  ·exact .inl l
  ·exact .inr ⟨k,c,e,cellK x c e _ z⟩
 ·obtain⟨v,z⟩:=I.cell x c e
  exact⟨v,cellK x c e v z⟩
 ·obtain⟨m,⟨o,_,_,ho,_⟩,_⟩:=I.loc
  exact free _ o (λz=>(hch _ z).2.1 rfl) ho I.free
 ·obtain⟨v,o,ho,hd⟩:=I.cell x c e
  exact free c o (λz=>(hch c z).2.2.1 x c e rfl) ho (I.freeC x c e)
 ·obtain⟨e,n,ne,nf,d⟩:=I.pin p hp
  have nch:p.1∉ch:=λz=>(hch p.1 z).2.2.2 p hp rfl
  exact⟨keep p.1 p.2 ne nf nch e n,free p.1 p.2 nch e n,ne,nf,d⟩
def Inv.un{t':Nat}(I:Inv X pins σ H s)(u:Un X.fs [] H H' s.heap h')(hok:HOk X.prog X.w H' h'):Inv X pins σ H' { s with heap:=h',toks:=t' }:=by
 obtain⟨m,⟨o,es,ep,ho,r⟩,_⟩:=id I.loc
 obtain⟨sl,hL⟩:=u.any ho I.free (by simp)
 exact I.step (g':=s.gens) (d':=s.drawn) (ch:=[]) (λ_ z=>nomatch z) (λb o _ hb _ e n=>u.keep b o e n hb (by simp)) (λb o _ hb _ e n=>u.slot b o e n hb (by simp)) (λb o _ e n=>u.free b o e n (by simp)) (λb o _ e=>u.there b o e (by simp)) u.tups u.frzs u.tbls (λm' hm=>by
  obtain⟨o',es',ep',ho',r'⟩:=hm
  rw[ho] at ho';cases ho'
  exact⟨_,es',ep',hL,r'⟩) hok I.bare
def Inv.call{g':Array GenState}{t':Nat}{d':Drawn}{ch:List Addr}(I:Inv X pins σ H s)(u:Un (frs X.stack) ch H H' s.heap h')(hok:HOk X.prog X.w H' h')(hg:AllBare g')(hch:∀b∈ch,(b∈X.ex\/X.s₀.heap.objs.size<=b)/\b≠X.env.locals/\(∀x c,X.env.cells.lookup x=some c->c≠b)/\∀p∈X.pn++pins,p.1≠b) :
  Inv X pins σ H' { s with heap:=h',gens:=g',drawn:=d',toks:=t' }:=by
 obtain⟨m,⟨o,es,ep,ho,r⟩,_⟩:=id I.loc
 obtain⟨sl,hL⟩:=u.any ho I.free λz=>(hch _ z).2.1 rfl
 exact I.step (ch:=ch) hch (λb o hL hb hc e n=>u.keep b o e n (λz=>(Ü.mp (I.Aq b z)).elim hL hb) hc) (λb o _ _ hc e n=>u.any e n hc) (λb o hc e n=>u.free b o e n hc) (λb o hc e=>u.there b o e hc) u.tups u.frzs u.tbls (λm' hm=>by
  obtain⟨o',es',ep',ho',r'⟩:=hm
  rw[ho] at ho';cases ho'
  exact⟨_,es',ep',hL,r'⟩) hok hg
def Inv.turned{t':Nat}{it:Addr}(I:Inv X pins σ H s)(k:∀b o,b≠it->s.heap.get? b=some o->h'.get? b=some o)(hn:H it=none)(hL:it≠X.env.locals)(h1:it∈X.ex\/X.s₀.heap.objs.size<=it)(h2:∀x c,X.env.cells.lookup x=some c->c≠it)(h3:∀p∈X.pn++pins,p.1≠it):Inv X pins σ H { s with heap:=h',toks:=t' }:=by
 have nit:∀b u,H b=some u->b≠it:=λb u e z=>by rw[z,hn] at e;cases e
 refine I.step (g':=s.gens) (d':=s.drawn) (ch:=[it]) (λb hb=>?_) (λb o _ _ hc e _=>k b o (λz=>hc (by simp[z])) e) (λb o _ _ hc e _=>⟨o.slots,k b o (λz=>hc (by simp[z])) e⟩) (λ_ _ _ _ n=>n)
  (λb o hc e=>⟨o,k b o (λz=>hc (by simp[z])) e⟩) (λ_ _ e=>e) (λ_ _ _ e=>e) (λb ps e=>⟨#[],by rw[e];simp⟩) (λm hm=>?_) (λb u e=>?_) I.bare
 ·have e:b=it:=by simpa using hb
  subst e
  exact⟨h1,hL,h2,h3⟩
 ·obtain⟨o,es,ep,ho,r⟩:=hm
  exact⟨o,es,ep,k _ o (ġ hL) ho,r⟩
 ·refine(I.hok b u e).stay (λc v hc q=>k c v ?_ q) (λ_ q=>q) λ_ _ q=>q
  rcases hc with z|z
  ·rw[z];exact nit b u e
  ·exact nit c _ z
def Inv.tok(I:Inv X pins σ H s)(t:Nat):Inv X pins σ H { s with toks:=t }:=I.un (h':=s.heap) (t':=t) Un.refl I.hok
def Inv.kept{t':Nat}(I:Inv X pins σ H s)(k:∀b u,s.heap.get? b=some u->h'.get? b=some u):Inv X pins σ H { s with heap:=h',toks:=t' }:=I.un (Un.kept k) (I.hok.kept k)
def Inv.laid{a:Addr}{o:HO}{t':Nat}(I:Inv X pins σ H s)(k:∀b u,s.heap.get? b=some u->h'.get? b=some u)(hp:s.heap.objs.size<=a)(new:bf X.prog X.w (upd H a o) h' a o) :
  Inv X pins σ (upd H a o) { s with heap:=h',toks:=t' }:=I.un (Un.laid k hp (I.hok.fresh hp)) (I.hok.laid k hp new)
def Inv.write{x e:Addr}{o:HO}{t':Nat}(I:Inv X pins σ H s)(mu:Mut (H x))(he:e=x\/H e=some (.own x))(k:∀b u,b≠e->s.heap.get? b=some u->h'.get? b=some u)(heo:∃u,h'.get? e=some u)(new:bf X.prog X.w (upd H x o) h' x o):Inv X pins σ (upd H x o) { s with heap:=h',toks:=t' }:=I.un (Un.write mu he k heo) (I.hok.write mu he k heo new)
def Inv.pR{pins':List (Addr×Obj)}(I:Inv X pins σ H s)(h:∀p∈pins',s.heap.get? p.1=some p.2/\H p.1=none/\p.1≠X.env.locals/\p.1∉X.fs/\∀v,p.2.data≠.cell v):Inv X pins' σ H s :=
 ⟨I.ok,I.os,I.bare,I.base,I.loc,I.cell,I.free,I.freeC,λp hp=>(à.mp hp).elim (λz=>I.pin p (ú _ z)) (h p),I.hok,I.len⟩
def yO{N:List Str}(hN:N.Nodup){i j:Nat}{x:Str}(a:N[i]?=some x)(b:N[j]?=some x):i=j:=by
 obtain⟨h1,e1⟩:=Ç.mp a
 obtain⟨h2,e2⟩:=Ç.mp b
 exact(List.getElem_inj hN).mp (e1.trans e2.symm)
def ur{M:Model}{A:Around}{E:Value->Shared->Prop}{i:Nat}{x:Str}{v:V}{u:Value}{Q:Unit->Shared->Prop}(I:Inv X pins σ H s)(hU:∀j,X.N[j]?=some x->j=i)(hi:X.N[i]?=some x)(hx:Loc X.env.scope x)(r:RelV v u)(h:∀s',Inv X pins (σ.set i (some v)) H s'->(∃a,Heap.SameBut a s.heap s'.heap/\(a=X.env.locals\/X.env.cells.lookup x=some a))->Q () s')(hf:X.fn x=true\/X.env.scope.names.lookup x=some .local:=by first|exact .inl rfl|exact .inr rfl|assumption):wpAny M A (storeName X.env x u) Q E s:=by
 obtain⟨m,hn,hl⟩:=id I.loc
 have hcls:(X.env.scope.kind == .class || (X.env.scope.kind == .module&&X.env.locals != X.env.globals))=false:=by rw[I.ok.kind];rfl
 have hiσ:i<σ.length:=by rw[I.len];exact(Ç.mp hi).1
 have cne:=I.cne
 have tracked:∀{a:Addr}{h':Heap},(∃o,s.heap.get? a=some o/\H a=none)->Heap.SameBut a s.heap h'->HOk X.prog X.w H h':=λ{a h'} ha hs b ob e=>by
  obtain⟨_,_,hfree⟩:=ha
  refine(I.hok b ob e).stay (λc w' hc q=>(hs.2 c ?_).trans q) (λ_ q=>q) λ_ _ q=>q
  rintro rfl
  rcases hc with rfl|hc
  ·rw[hfree] at e;cases e
  ·rw[hfree] at hc;cases hc
 rcases hx with hk|hk
 ·refine wpAny_storeName_local hk hn (λh' hn' hs=>?_) hcls
  obtain⟨oL,_,_,hoL,_⟩:=id hn
  refine h _ ⟨I.ok,I.os,I.bare,⟨λb o e n hb hx=>?_,λb o e n hb hx=>?_,I.base.free,λb o e hx=>?_,I.base.tups,I.base.frzs,I.base.tbls⟩,⟨_,hn',λj y v' e1 e2 e3=>?_⟩,λy c e=>?_,I.free,I.freeC,λp hp=>?_,tracked ⟨oL,hoL,I.free⟩ hs,by simpa using I.len⟩ ⟨_,hs,.inl rfl⟩
  ·exact(hs.2 b (ä (ì (Ï e) I.ok.above))).trans (I.base.keep b o e n hb hx)
  ·obtain⟨sl,e1⟩:=I.base.slot b o e n hb hx
   exact⟨sl,(hs.2 b (ä (ì (Ï e) I.ok.above))).trans e1⟩
  ·obtain⟨o',e1⟩:=I.base.there b o e hx
   exact⟨o',(hs.2 b (ä (ì (Ï e) I.ok.above))).trans e1⟩
  ·by_cases hj:j=i
   ·subst hj
    rw[hi] at e1;cases e1
    rw[Ē hiσ] at e2
    cases e2
    exact⟨u,r,.inl ⟨hk,by simp⟩⟩
   ·rw[ľ (ġ hj)] at e2
    obtain⟨u',r',q⟩:=hl j y v' e1 e2 e3
    refine⟨u',r',?_⟩
    rcases q with ⟨k,e⟩|⟨k,c,e,z⟩
    ·refine .inl ⟨k,?_⟩
     have:y≠x:=λe=>hj (hU _ (e ▸ e1))
     simp[this,e]
    ·exact .inr ⟨k,c,e,z.sameBut hs (cne y c e)⟩
  ·obtain⟨w',z⟩:=I.cell y c e
   exact⟨w',z.sameBut hs (cne y c e)⟩
  ·obtain⟨e,n,ne,nf,d⟩:=I.pin p hp
   exact⟨(hs.2 p.1 ne).trans e,n,ne,nf,d⟩
 ·have hfn:X.fn x=true:=by
   rcases hf with z|z
   ·exact z
   ·rw[z] at hk;cases hk
  obtain⟨c,hc⟩:=I.ok.has x (.inl hk)
  obtain⟨w',z⟩:=I.cell x c hc
  refine wpAny_storeName_cell I.ok.kind hk hc z (λh' hc' hs=>?_)
  obtain⟨oc,hoc,hocd⟩:=id z
  refine h { s with heap:=h' } ⟨I.ok,I.os,I.bare,⟨λb o e n hb hx=>?_,λb o e n hb hx=>?_,I.base.free,λb o e hx=>?_,I.base.tups,I.base.frzs,I.base.tbls⟩,⟨m,hn.sameBut hs (ġ (cne x c hc)),λj y v' e1 e2 e3=>?_⟩,λy c' e=>?_,I.free,I.freeC,λp hp=>?_,tracked ⟨oc,hoc,I.freeC x c hc⟩ hs,by simpa using I.len⟩ ⟨c,hs,.inr hc⟩
  ·exact(hs.2 b (ä (ì (Ï e) (I.ok.cab x c hfn hc)))).trans (I.base.keep b o e n hb hx)
  ·obtain⟨sl,e1⟩:=I.base.slot b o e n hb hx
   exact⟨sl,(hs.2 b (ä (ì (Ï e) (I.ok.cab x c hfn hc)))).trans e1⟩
  ·obtain⟨o',e1⟩:=I.base.there b o e hx
   exact⟨o',(hs.2 b (ä (ì (Ï e) (I.ok.cab x c hfn hc)))).trans e1⟩
  ·by_cases hj:j=i
   ·subst hj
    rw[hi] at e1;cases e1
    rw[Ē hiσ] at e2
    cases e2
    exact⟨u,r,.inr ⟨.inl hk,c,hc,hc'⟩⟩
   ·rw[ľ (ġ hj)] at e2
    obtain⟨u',r',q⟩:=hl j y v' e1 e2 e3
    refine⟨u',r',?_⟩
    rcases q with q|⟨k,c',e,z'⟩
    ·exact .inl q
    ·refine .inr ⟨k,c',e,z'.sameBut hs ?_⟩
     rintro rfl
     exact hj (hU _ (I.ok.inj _ _ _ e hc ▸ e1))
  ·by_cases hcc:c'=c
   ·subst hcc;exact⟨_,hc'⟩
   ·obtain⟨w2,z2⟩:=I.cell y c' e
    exact⟨w2,z2.sameBut hs hcc⟩
  ·obtain⟨e,n,ne,nf,d⟩:=I.pin p hp
   refine⟨(hs.2 p.1 ?_).trans e,n,ne,nf,d⟩
   intro q
   rw[q,hoc] at e
   have q':oc=p.2:=Ø e
   exact d w' (by rw[←q'];exact hocd)
def xV{M:Model}{A:Around}{E:Value->Shared->Prop}{i:Nat}{x:Str}{v:V}{u:Value}{Q:Unit->Shared->Prop}(I:Inv X pins σ H s)(hN:X.N.Nodup)(hi:X.N[i]?=some x)(hx:Loc X.env.scope x)(r:RelV v u)(h:∀s',Inv X pins (σ.set i (some v)) H s'->Q () s')(hf:X.fn x=true\/X.env.scope.names.lookup x=some .local:=by first|exact .inl rfl|exact .inr rfl|assumption):wpAny M A (storeName X.env x u) Q E s :=
 ur I (λj h=>yO hN h hi) hi hx r (λs' I' _=>h s' I') hf
def Inv.call'{s':Shared}{ch:List Addr}(I:Inv X pins σ H s)(ho:s'.os=s.os)(u:Un (frs X.stack) ch H H' s.heap s'.heap)(hok:HOk X.prog X.w H' s'.heap)(hg:AllBare s'.gens)(hch:∀b∈ch,(b∈X.ex\/X.s₀.heap.objs.size<=b)/\b≠X.env.locals/\(∀x c,X.env.cells.lookup x=some c->c≠b)/\∀p∈X.pn++pins,p.1≠b):Inv X pins σ H' s':=by
 obtain⟨h',g',d',t',o'⟩:=s'
 have e:o'=s.os:=ho
 subst e
 exact I.call (g':=g') (t':=t') (d':=d') u hok hg hch
end
abbrev XK:=Value->Option Addr->Hp->Prop
abbrev St:=List (Option V)
abbrev VK:=V->Hp->Prop
abbrev TE:=St->Hp->VK->Prop
abbrev TT:=St->Hp->(Bool->Hp->Prop)->Prop
abbrev TA:=St->Hp->(List V->Hp->Prop)->Prop
structure Ends where
 nx:St->Hp->Prop
 rt:VK
 bk:St->Hp->Prop:=λ_ _=>False
 ct:St->Hp->Prop:=λ_ _=>False
abbrev TS:=Ends->St->Hp->Prop
def EP(X:Cx)(pins:List (Addr×Obj))(σ:St)(Q:VK)(u:Value)(s':Shared):Prop:=∃v H',Inv X pins σ H' s'/\RelV v u/\Q v H'
def TP(X:Cx)(pins:List (Addr×Obj))(σ:St)(Q:Bool->Hp->Prop)(b:Bool)(s':Shared):Prop:=∃H',Inv X pins σ H' s'/\Q b H'
def AP(X:Cx)(pins:List (Addr×Obj))(σ:St)(Q:List V->Hp->Prop)(us:List Value)(s':Shared):Prop:=∃vs H',Inv X pins σ H' s'/\Vals vs us/\Q vs H'
def SP(X:Cx)(pins:List (Addr×Obj))(D:Ends)(f:Flow)(s':Shared):Prop :=
 match f with
 |.next=>∃σ' H',Inv X pins σ' H' s'/\D.nx σ' H'
 |.brk=>∃σ' H',Inv X pins σ' H' s'/\D.bk σ' H'
 |.cont=>∃σ' H',Inv X pins σ' H' s'/\D.ct σ' H'
 |.ret u=>∃v σ' H',Inv X pins σ' H' s'/\RelV v u/\D.rt v H'
def PE(X:Cx)(e:Expr)(t:TE):Prop :=
 ∀(pins:List (Addr×Obj)) (s:Shared) (σ:St) (H:Hp) (Q:VK),Inv X pins σ H s->t σ H Q->wpAny (model X.prog X.w) X.A (eval e X.env) (EP X pins σ Q) X.xe s
def PT(X:Cx)(e:Expr)(t:TT):Prop :=
 ∀(pins:List (Addr×Obj)) (s:Shared) (σ:St) (H:Hp) (Q:Bool->Hp->Prop),Inv X pins σ H s->t σ H Q->wpAny (model X.prog X.w) X.A (isTrue e X.env (eval e X.env)) (TP X pins σ Q) X.xe s
def PW(X:Cx)(e:Expr)(t:TT):Prop :=
 ∀(whole:Sem Value) (pins:List (Addr×Obj)) (s:Shared) (σ:St) (H:Hp) (Q:Bool->Hp->Prop),Inv X pins σ H s->t σ H Q->wpAny (model X.prog X.w) X.A (isTrue e X.env whole) (TP X pins σ Q) X.xe s
def PW.pt{X:Cx}{e:Expr}{t:TT}(h:PW X e t):PT X e t:=h _
def PA(X:Cx)(es:List Expr)(t:TA):Prop :=
 ∀(pos:Pos) (pins:List (Addr×Obj)) (s:Shared) (σ:St) (H:Hp) (Q:List V->Hp->Prop),Inv X pins σ H s->t σ H Q->wpAny (model X.prog X.w) X.A (spliced (backTo pos (starEach es X.env))) (AP X pins σ Q) X.xe s
def PS(X:Cx)(st:Stmt)(t:TS):Prop :=
 ∀(pins:List (Addr×Obj)) (s:Shared) (σ:St) (H:Hp) (D:Ends),Inv X pins σ H s->t D σ H->wpAny (model X.prog X.w) X.A (exec st X.env) (SP X pins D) X.xe s
def PSs(X:Cx)(st:List Stmt)(t:TS):Prop :=
 ∀(pins:List (Addr×Obj)) (s:Shared) (σ:St) (H:Hp) (D:Ends),Inv X pins σ H s->t D σ H->wpAny (model X.prog X.w) X.A (execs st X.env) (SP X pins D) X.xe s
def thn{α:Type}{t:Sem α}{Q Q':α->Shared->Prop}{M:Model}{A:Around}{E:Value->Shared->Prop}{s:Shared}(h:wpAny M A t Q E s)(hQ:∀a s,Q a s->Q' a s):wpAny M A t Q' E s:=Œ h hQ λ_ _ x=>x
section
variable {X:Cx}
def bin{a b:Expr}{ta tb:TE}(ha:PE X a ta)(hb:PE X b tb){pins:List (Addr×Obj)}{s:Shared}{σ:St}{H:Hp}{R:V->V->Hp->Prop}(I:Inv X pins σ H s)(h:ta σ H λx H1=>tb σ H1 λy H2=>R x y H2){α:Type}{Q:α->Shared->Prop}{f:Value->Value->Sem α}(hf:∀v u s2 x y H2,Inv X pins σ H2 s2->RelV x v->RelV y u->R x y H2->wpAny (model X.prog X.w) X.A (f v u) Q X.xe s2) :
  wpAny (model X.prog X.w) X.A (eval a X.env) (λv s₁=>wpAny (model X.prog X.w) X.A (eval b X.env) (λu s₂=>wpAny (model X.prog X.w) X.A (f v u) Q X.xe s₂) X.xe s₁) X.xe s:=by
 refine thn (ha pins s σ H _ I h) λv s1 ⟨x,H1,I1,r1,q1⟩=>?_
 refine thn (hb pins s1 σ H1 _ I1 q1) λu s2 ⟨y,H2,I2,r2,q2⟩=>?_
 exact hf v u s2 x y H2 I2 r1 r2 q2
def j9(i:Nat):TE:=λσ H Q=>∃v,σ[i]?=some (some v)/\Q v H
def tC(v:V):TE:=λ_ H Q=>Q v H
def Rx{i:Nat}{x:Str}{pos:Pos}(hN:X.N[i]?=some x)(hv:Vis X.env.scope x)(hd:(x == ("__debug__":Str))=false:=by decide)(hcd:(x == ("__classdict__":Str))=false:=by decide):PE X (.Name x pos) (j9 i):=by
 intro pins s σ H Q I h
 obtain⟨v,e,h⟩:=h
 obtain⟨m,hn,hl⟩:=I.loc
 obtain⟨u,r,l⟩:=hl i x v hN e hv
 have fin:EP X pins σ Q u s:=⟨v,H,I,r,h⟩
 rcases l with ⟨hk,hm⟩|⟨hk,c,hc,hcell⟩
 ·exact wpAny_Name (wpAny_loadName_local I.ok.kind hk hn hm fin) hd
 ·rcases hk with hk|hk
  ·exact wpAny_Name (wpAny_loadName_cell I.ok.kind hk hc hcell fin) hd
  ·exact wpAny_Name (wpAny_loadName_free I.ok.kind hk hc hcell fin hcd) hd
def JC{i j pos}:PE X (.Constant (.int i) j pos) (tC (.int i)):=λ_ _ _ H _ I h=>wpAny_Constant_int ⟨.int i,H,I.tok _,⟨_,rfl⟩,h⟩
def Uz{b j pos}:PE X (.Constant (.bool b) j pos) (tC (.bl b)):=λ_ _ _ H _ I h=>Constant_bool ⟨.bl b,H,I,rfl,h⟩
def RG{j pos}:PE X (.Constant .none j pos) (tC .non):=λ_ _ _ H _ I h=>Constant_none ⟨.non,H,I,rfl,h⟩
def Rz{x j pos}:PE X (.Constant (.str x) j pos) (tC (.str x)):=λ_ _ _ H _ I h=>Calls.Constant_str ⟨.str x,H,I.tok _,⟨_,rfl⟩,h⟩
def Gl(X:Cx)(x:Str):Prop:=X.env.kindOf x=some .globalImplicit
def Ob{E:Value->Shared->Prop}{pins:List (Addr×Obj)}{s:Shared}{σ:St}{H:Hp}{x:Str}{u:Value}{pos:Pos}{Q:Value->Shared->Prop}(I:Inv X pins σ H s)(hg:Gl X x)(hm:X.mg x=some u)(h:Q u s)(hd:(x == ("__debug__":Str))=false:=by decide):wpAny (model X.prog X.w) X.A (eval (.Name x pos) X.env) Q E s :=
 Calls.Name_function_global I.ok.kind hg (Calls.loadGlobal_global (by rw[I.ok.glob];exact I.mod.glob.keeps I.bk) hm h) hd
def dJ{E:Value->Shared->Prop}{pins:List (Addr×Obj)}{s:Shared}{σ:St}{H:Hp}{x:Str}{u:Value}{pos:Pos}{Q:Value->Shared->Prop}(I:Inv X pins σ H s)(hg:Gl X x)(hm:X.mg x=none)(hv:bootBuiltins x=some u)(h:Q u s)(hn:x≠"__name__":=by decide)(hd:(x == ("__debug__":Str))=false:=by decide):wpAny (model X.prog X.w) X.A (eval (.Name x pos) X.env) Q E s:=by
 obtain⟨mb,h1,h2⟩:=I.mod.blt
 exact Calls.Name_function_global I.ok.kind hg (Calls.loadGlobal_builtin (by rw[I.ok.glob];exact I.mod.glob.keeps I.bk) hm (by rw[I.ok.blt];exact h1.keeps I.bk) ((h2 x hn).trans hv) h) hd
def vA{x:Str}{v:V}{u:Value}{pos:Pos}(hg:Gl X x)(hm:X.mg x=none)(hv:bootBuiltins x=some u)(r:RelV v u)(hn:x≠"__name__":=by decide)(hd:(x == ("__debug__":Str))=false:=by decide):PE X (.Name x pos) (tC v) :=
 λ_ _ _ H _ I h=>dJ I hg hm hv ⟨v,H,I,r,h⟩ hn hd
variable {a b:Expr}{ta tb:TE}{pos:Pos}
def PC(X:Cx)(op:CmpOp)(a b:Expr)(t:TE):Prop :=
 ∀(pins:List (Addr×Obj)) (s:Shared) (σ:St) (H:Hp) (Q:VK),Inv X pins σ H s->t σ H Q ->
  wpAny (model X.prog X.w) X.A (eval a X.env) (λv s₁=>wpAny (model X.prog X.w) X.A (eval b X.env) (λu s₂=>wpAny (model X.prog X.w) X.A (compareOp op v u) (EP X pins σ Q) X.xe s₂) X.xe s₁) X.xe s
def tB(t:TE):TT:=λσ H Q=>t σ H λx H1=>∃c,x=.bl c/\Q c H1
def Rj{op:CmpOp}{t:TE}(h:PC X op a b t)(h1:behindInMarks op b=false:=by first|exact nobehind _ (by decide) (by decide)|rfl):PT X (.Compare a [op] [b] pos) (tB t):=by
 intro pins s σ H Q I hw
 refine wpAny_isTrue_Compare1 (thn (h pins s σ H _ I hw) λv s1 h1=>thn h1 λu s2 h2=>thn h2 λc s3 ⟨x,H1,I1,r1,q1⟩=>?_) h1
 obtain⟨d,rfl,q⟩:=q1
 cases r1
 exact ģ ⟨H1,I1,q⟩
def Rh{e:Expr}{t:TE}(h:PE X e t)(he:∀whole,isTrue e X.env whole=(do let v ←whole;standAt e.pos;holding [v] (truthy v)):=by intro _;rfl):PT X e (tB t):=by
 intro pins s σ H Q I hw
 refine isTrue_plain (thn (h pins s σ H _ I hw) λv s1 ⟨x,H1,I1,r1,q1⟩=>?_) (he _)
 obtain⟨d,rfl,q⟩:=q1
 cases r1
 exact ģ ⟨H1,I1,q⟩
variable {tA tB':TT}{rest:List Expr}
def Uj(t u:TT):TT:=λσ H Q=>t σ H λc H1=>if c=true then u σ H1 Q else Q false H1
def tOr(t u:TT):TT:=λσ H Q=>t σ H λc H1=>if c=true then Q true H1 else u σ H1 Q
def V5(t:TT):TT:=λσ H Q=>t σ H λc H1=>Q (!c) H1
def Ep(ha:PT X a tA):PW X (.BoolOp .And [a] pos) tA:=by
 intro wh pins s σ H Q I h
 refine isTrue_and (thn (ha pins s σ H Q I h) λc s1 e=>?_)
 cases c with
 |true=>exact isTrue_and_nil e
 |false=>exact e
def Rg(ha:PT X a tA):PW X (.BoolOp .Or [a] pos) tA:=by
 intro wh pins s σ H Q I h
 refine isTrue_or (thn (ha pins s σ H Q I h) λc s1 e=>?_)
 cases c with
 |false=>exact isTrue_or_nil e
 |true=>exact e
def Jq(ha:PT X a tA)(hb:PW X (.BoolOp .And (b::rest) pos) tB'):PW X (.BoolOp .And (a::b::rest) pos) (Uj tA tB'):=by
 intro wh pins s σ H Q I h
 refine isTrue_and (thn (ha pins s σ H _ I h) λc s1 ⟨H1,I1,q1⟩=>?_)
 cases c with
 |true=>exact hb wh pins s1 σ H1 Q I1 q1
 |false=>exact⟨H1,I1,q1⟩
def Uu(ha:PT X a tA)(hb:PW X (.BoolOp .Or (b::rest) pos) tB'):PW X (.BoolOp .Or (a::b::rest) pos) (tOr tA tB'):=by
 intro wh pins s σ H Q I h
 refine isTrue_or (thn (ha pins s σ H _ I h) λc s1 ⟨H1,I1,q1⟩=>?_)
 cases c with
 |true=>exact⟨H1,I1,q1⟩
 |false=>exact hb wh pins s1 σ H1 Q I1 q1
def Ri(ha:PT X a tA):PT X (.UnaryOp .Not a pos) (V5 tA):=by
 intro pins s σ H Q I h
 exact isTrue_not (ha pins s σ H (λc H1=>Q (!c) H1) I h)
def Ui(ta tb:TE):TE:=λσ H Q=>ta σ H λx H1=>∃c,x=.bl c/\if c=true then tb σ H1 Q else Q (.bl false) H1
def V4(ta tb:TE):TE:=λσ H Q=>ta σ H λx H1=>∃c,x=.bl c/\if c=true then Q (.bl true) H1 else tb σ H1 Q
def T9(ta:TE):TE:=λσ H Q=>ta σ H λx H1=>∃c,x=.bl c/\Q (.bl (!c)) H1
def RB{op}{t:TE}(h:PE X a t):PE X (.BoolOp op [a] pos) t:=λpins s σ H Q I hw=>BoolOp_one (h pins s σ H Q I hw)
def RL(ha:PE X a ta)(hb:PE X (.BoolOp .And (b::rest) pos) tb):PE X (.BoolOp .And (a::b::rest) pos) (Ui ta tb):=by
 intro pins s σ H Q I h
 refine BoolOp_and (thn (ha pins s σ H _ I h) λv s1 ⟨x,H1,I1,r1,q1⟩=>?_)
 obtain⟨c,rfl,q1⟩:=q1
 cases r1
 refine ģ ?_
 cases c with
 |true=>exact hb pins s1 σ H1 Q I1 q1
 |false=>exact⟨.bl false,H1,I1,rfl,q1⟩
def Ux(ha:PE X a ta)(hb:PE X (.BoolOp .Or (b::rest) pos) tb):PE X (.BoolOp .Or (a::b::rest) pos) (V4 ta tb):=by
 intro pins s σ H Q I h
 refine BoolOp_or (thn (ha pins s σ H _ I h) λv s1 ⟨x,H1,I1,r1,q1⟩=>?_)
 obtain⟨c,rfl,q1⟩:=q1
 cases r1
 refine ģ ?_
 cases c with
 |false=>exact hb pins s1 σ H1 Q I1 q1
 |true=>exact⟨.bl true,H1,I1,rfl,q1⟩
def RD(ha:PE X a ta):PE X (.UnaryOp .Not a pos) (T9 ta):=by
 intro pins s σ H Q I h
 refine UnaryOp_ (thn (ha pins s σ H _ I h) λv s1 ⟨x,H1,I1,r1,q1⟩=>?_)
 obtain⟨c,rfl,q1⟩:=q1
 cases r1
 exact not_of (ģ ⟨.bl (!c),H1,I1,rfl,q1⟩)
end
def SqL(K:Ý)(H:Hp)(a:Addr)(xs:List V):Prop :=
 Rd H a (.lst xs) ∨
  ∃(o:Obj) (its:Array Value) (n:Nat),K.lookup a=some o/\o.cls=.type "list"/\o.dict=none/\o.data=.seq its n/\its.size<=sizeLine/\Vals xs its.toList
def SqT(K:Ý)(H:Hp)(a:Addr)(xs:List V):Prop :=
 Rd H a (.tup xs) ∨
  ∃(o:Obj) (its:Array Value) (n:Nat),K.lookup a=some o/\o.cls=.type "tuple"/\o.data=.seq its n/\its.size<=sizeLine/\Vals xs its.toList
def Wt:Value->Option V
 |.none=>some .non
 |.bool b=>some (.bl b)
 |.int i _=>some (.int i)
 |.str x _=>some (.str x)
 |.bytes b _=>some (.byt b)
 |.float b _=>some (.flt b)
 |.ref a=>some (.ref a)
 |.type n=>some (.ty n)
 |_=>none
def RelV.abs{x:V}{u:Value}(r:RelV x u):Wt u=some x:=by
 cases x with
 |non=>cases r;rfl
 |bl _=>cases r;rfl
 |int _=>obtain⟨t,rfl⟩:=r;rfl
 |str _=>obtain⟨t,rfl⟩:=r;rfl
 |byt _=>obtain⟨t,rfl⟩:=r;rfl
 |flt _=>obtain⟨t,rfl⟩:=r;rfl
 |ref _=>cases r;rfl
 |ty _=>cases r;rfl
def RelV.inj{x y:V}{u:Value}(r:RelV x u)(q:RelV y u):x=y:=Ø (r.abs.symm.trans q.abs)
theorem Vals.inj:∀{xs ys:List V}{us:List Value},Vals xs us->Vals ys us->xs=ys
 |_,_,_,.nil,.nil=>rfl
 |_,_,_,.cons r t,.cons r' t'=>by rw[r.inj r',Vals.inj t t']
section
variable {X:Cx}{pins:List (Addr×Obj)}{σ:St}{H:Hp}{s:Shared}{a:Addr}{xs ys:List V}
def SqL.of{K:Ý}(h:H a=some (.lst xs)):SqL K H a xs:=.inl (.inl h)
def SqT.of{K:Ý}(h:H a=some (.tup xs)):SqT K H a xs:=.inl (.inl h)
def Inv.list(I:Inv X pins σ H s)(h:SqL X.K H a xs):∃its:List Value,Vals xs its/\PlainL s.heap a its.toArray/\xs.length<=sizeLine:=by
 rcases h with h|⟨o,its,n,hk,hc,hd,hs,hz,r⟩
 ·obtain⟨z,its,n,r,e⟩:=h.ok I.hok
  exact⟨its,r,⟨_,n,e,rfl,rfl,rfl⟩,z⟩
 ·refine⟨its.toList,r,⟨o,n,I.kIn a o hk,hc,hd,by simpa using hs⟩,?_⟩
  have e:=r.length
  simp only[Ę] at e
  omega
def Inv.tuple(I:Inv X pins σ H s)(h:SqT X.K H a xs):∃its:List Value,Vals xs its/\IsTup s.heap a its.toArray/\xs.length<=sizeLine:=by
 rcases h with h|⟨o,its,n,hk,hc,hs,hz,r⟩
 ·obtain⟨z,its,r,p⟩:=h.ok I.hok
  exact⟨its,r,p,z⟩
 ·refine⟨its.toList,r,⟨o,I.kIn a o hk,hc,n,by simpa using hs⟩,?_⟩
  have e:=r.length
  simp only[Ę] at e
  omega
def Inv.lX(I:Inv X pins σ H s)(h:SqL X.K H a xs)(h':SqL X.K H a ys):xs=ys:=by
 obtain⟨its,r,⟨o,n,e,_,_,d⟩,_⟩:=I.list h
 obtain⟨its',r',⟨o',n',e',_,_,d'⟩,_⟩:=I.list h'
 rw[e] at e';cases e'
 rw[d] at d'
 injection d' with d1 _
 have:its=its':=by simpa using congrArg Array.toList d1
 subst this
 exact r.inj r'
def Inv.ug(I:Inv X pins σ H s)(h:SqT X.K H a xs)(h':SqT X.K H a ys):xs=ys:=by
 obtain⟨its,r,⟨o,e,_,n,d⟩,_⟩:=I.tuple h
 obtain⟨its',r',⟨o',e',_,n',d'⟩,_⟩:=I.tuple h'
 rw[e] at e';cases e'
 rw[d] at d'
 injection d' with d1 _
 have:its=its':=by simpa using congrArg Array.toList d1
 subst this
 exact r.inj r'
end
abbrev Cx.wish(X:Cx)(E:Value->Shared->Prop):Cx:={ X with xe:=E }
abbrev Cx.nox(X:Cx):Cx:=X.wish λ_ _=>False
def Cx.Ok.wish{X:Cx}(ok:X.Ok)(E:Value->Shared->Prop):(X.wish E).Ok :=
 ⟨ok.mod,ok.kind,ok.glob,ok.blt,ok.above,ok.inj,ok.has,ok.cab,ok.hd,ok.frames,ok.stk,ok.exf,ok.bs,ok.bsz,ok.noex,ok.exfs,ok.sJ,ok.frf,ok.sof⟩
def Cx.Ok.gU{X:Cx}{E:Value->Shared->Prop}(ok:(X.wish E).Ok):X.Ok :=
 ⟨ok.mod,ok.kind,ok.glob,ok.blt,ok.above,ok.inj,ok.has,ok.cab,ok.hd,ok.frames,ok.stk,ok.exf,ok.bs,ok.bsz,ok.noex,ok.exfs,ok.sJ,ok.frf,ok.sof⟩
section
variable {X:Cx}{pins:List (Addr×Obj)}{σ:St}{H:Hp}{s:Shared}{E:Value->Shared->Prop}
def Inv.wish(I:Inv X pins σ H s)(E:Value->Shared->Prop):Inv (X.wish E) pins σ H s:=⟨I.ok.wish E,I.os,I.bare,I.base,I.loc,I.cell,I.free,I.freeC,I.pin,I.hok,I.len⟩
def Inv.gU(I:Inv (X.wish E) pins σ H s):Inv X pins σ H s:=⟨I.ok.gU,I.os,I.bare,I.base,I.loc,I.cell,I.free,I.freeC,I.pin,I.hok,I.len⟩
def SP.gU{D:Ends}{f:Flow}{s':Shared}(h:SP (X.wish E) pins D f s'):SP X pins D f s':=by
 cases f with
 |next=>obtain⟨σ',H',I,q⟩:=h;exact⟨σ',H',I.gU,q⟩
 |brk=>obtain⟨σ',H',I,q⟩:=h;exact⟨σ',H',I.gU,q⟩
 |cont=>obtain⟨σ',H',I,q⟩:=h;exact⟨σ',H',I.gU,q⟩
 |ret u=>obtain⟨v,σ',H',I,r,q⟩:=h;exact⟨v,σ',H',I.gU,r,q⟩
def PSs.nox{st:List Stmt}{t:TS}(h:PSs X.nox st t):PSs X st t:=λpins s σ H D I hw =>
 Œ (h pins s σ H D (I.wish _) hw) (λ_ _ q=>q.gU) λ_ _ z=>Ũ z
end
section
variable {X:Cx}{st:Stmt}{rest:List Stmt}{t u:TS}{e:Expr}{te:TE}{pos:Pos}
def Ua:TS:=λD σ H=>D.nx σ H
def T4(t u:TS):TS:=λD σ H=>t { D with nx:=u D } σ H
def lC:PSs X [] Ua:=λ_ _ σ H _ I h=>wpAny_execs_nil ⟨σ,H,I,h⟩
def aN(h1:PS X st t)(h2:PSs X rest u):PSs X (st::rest) (T4 t u):=by
 intro pins s σ H D I h
 refine wpAny_execs_cons (thn (h1 pins s σ H { D with nx:=u D } I h) λf s1 q=>?_)
 cases f with
 |next =>
  obtain⟨σ',H',I',q⟩:=q
  exact h2 pins s1 σ' H' D I' q
 |ret v=>exact q
 |brk=>exact q
 |cont=>exact q
def jt(h1:PS X st t):PSs X [st] t:=by
 intro pins s σ H D I h
 refine wpAny_execs_cons (thn (h1 pins s σ H D I h) λf s1 q=>?_)
 cases f with
 |next=>exact wpAny_execs_nil q
 |ret v=>exact q
 |brk=>exact q
 |cont=>exact q
def Inv.quiet{pins:List (Addr×Obj)}{σ:St}{H:Hp}{s:Shared}(I:Inv X pins σ H s):interactive X.env=false:=by simp[interactive,I.ok.kind]
def uo(te:TE):TS:=λD σ H=>te σ H λ_ H1=>D.nx σ H1
def ju(he:PE X e te)(hs:swapsWith e none pos.line X.env=pure false:=by rfl):PS X (.Expr e pos) (uo te):=by
 intro pins s σ H D I h
 exact wpAny_Expr_any (thn (he pins s σ H _ I h) λv s1 ⟨x,H1,I1,r1,q1⟩=>⟨σ,H1,I1,q1⟩) I.quiet hs
def V3(te:TE):TS:=λD σ H=>te σ H D.rt
def qW(he:PE X e te):PS X (.Return (some e) pos) (V3 te):=by
 intro pins s σ H D I h
 exact wpAny_Return_some (thn (he pins s σ H _ I h) λv s1 ⟨x,H1,I1,r1,q1⟩=>⟨x,σ,H1,I1,r1,q1⟩)
def V6(c:TT)(t u:TS):TS:=λD σ H=>c σ H λb H1=>if b=true then t D σ H1 else u D σ H1
def yt{c:Expr}{a b:List Stmt}{tc:TT}(hc:PT X c tc)(ha:PSs X a t)(hb:PSs X b u):PS X (.If c a b pos) (V6 tc t u):=by
 intro pins s σ H D I h
 refine wpAny_If (thn (hc pins s σ H _ I h) λd s1 ⟨H1,I1,q1⟩=>?_)
 cases d with
 |true=>exact ha pins s1 σ H1 D I1 q1
 |false=>exact hb pins s1 σ H1 D I1 q1
def QW:TS:=λ_ _ _=>False
def Ju:PS X st QW:=λ_ _ _ _ _ _ h=>h.elim
end
abbrev TG:=V->St->Hp->(St->Hp->Prop)->Prop
abbrev TGs:=List V->St->Hp->(St->Hp->Prop)->Prop
def PG(X:Cx)(target:Expr)(t:TG):Prop :=
 ∀(pins:List (Addr×Obj)) (s:Shared) (σ:St) (H:Hp) (v:V) (u:Value) (Q:St->Hp->Prop),Inv X pins σ H s->RelV v u->t v σ H Q ->
  wpAny (model X.prog X.w) X.A (assign target X.env u) (λ_ s'=>∃σ' H',Inv X pins σ' H' s'/\Q σ' H') X.xe s
def PGs(X:Cx)(ts:List Expr)(t:TGs):Prop :=
 ∀(pins:List (Addr×Obj)) (s:Shared) (σ:St) (H:Hp) (vs:List V) (us:List Value) (Q:St->Hp->Prop),Inv X pins σ H s->Vals vs us->t vs σ H Q ->
  wpAny (model X.prog X.w) X.A (assignInOrder ((assignEach ts X.env).map (·.2)) us) (λ_ s'=>∃σ' H',Inv X pins σ' H' s'/\Q σ' H') X.xe s
abbrev Tz:=V->V->V->Hp->(Hp->Prop)->Prop
def VH(X:Cx)(t:Tz):Prop :=
 ∀(pins:List (Addr×Obj)) (s:Shared) (σ:St) (H:Hp) (o i v:V) (ov iv u:Value) (Q:Hp->Prop),Inv X pins σ H s->RelV o ov->RelV i iv->RelV v u->t o i v H Q ->
  wpAny (model X.prog X.w) X.A (setItem ov iv u) (λ_ s'=>∃H',Inv X pins σ H' s'/\Q H') X.xe s
section
variable {X:Cx}{pos:Pos}
def iY(i:Nat):TG:=λv σ H Q=>Q (σ.set i (some v)) H
def M9{i:Nat}{x:Str}(hN:X.N.Nodup)(hi:X.N[i]?=some x)(hx:Loc X.env.scope x)(hf:X.fn x=true\/X.env.scope.names.lookup x=some .local:=by first|exact .inl rfl|exact .inr rfl|assumption):PG X (.Name x pos) (iY i):=by
 intro pins s σ H v u Q I r h
 exact wpAny_assign_Name (xV I hN hi hx r (λs' I'=>⟨_,H,I',h⟩) hf)
def Wq:TGs:=λvs σ H Q=>vs=[]/\Q σ H
def Vj(t:TG)(u:TGs):TGs:=λvs σ H Q=>∃v r,vs=v::r/\t v σ H λσ' H'=>u r σ' H' Q
def M8:PGs X [] Wq:=by
 intro pins s σ H vs us Q I r h
 obtain⟨e,h⟩:=h
 subst e
 cases r
 exact assignInOrder_nil ⟨σ,H,I,h⟩
def Jz{e:Expr}{es:List Expr}{t:TG}{u:TGs}(h1:PG X e t)(h2:PGs X es u)(hs:(assignEach (e::es) X.env).map (·.2)=assign e X.env::(assignEach es X.env).map (·.2):=by rfl):PGs X (e::es) (Vj t u):=by
 intro pins s σ H vs us Q I r h
 obtain⟨v,vr,e1,h⟩:=h
 subst e1
 cases r with
 |cons r rr =>
  rw[hs]
  refine assignInOrder_cons (thn (h1 pins s σ H _ _ _ I r h) λ_ s1 ⟨σ1,H1,I1,q1⟩=>?_)
  exact h2 pins s1 σ1 H1 _ _ Q I1 rr q1
def Wo(K:Ý)(n:Nat)(t:TGs):TG:=λv σ H Q=>∃a xs,v=.ref a/\SqT K H a xs/\xs.length=n/\t xs σ H Q
def Ru{es:List Expr}{k:Nat}{t:TGs}{n:Nat}(hc:X.calm=true)(h:PGs X es t)(hn:(assignEach es X.env).length=n:=by rfl)(hst:(assignEach es X.env).findIdx? (·.1)=none:=by rfl):PG X (.Tuple es k pos) (Wo X.K n t):=by
 intro pins s σ H v u Q I r hw
 obtain⟨a,xs,e1,hq,hl,hw⟩:=hw
 subst e1
 cases r
 obtain⟨its,rv,ht,hz⟩:=I.tuple hq
 refine assign_Tuple_tuple (I.ok.hd hc) ht (by simp[hn,←hl,rv.length]) hst λh' hx=>?_
 have I1:Inv X pins σ H { s with heap:=h' }:=I.kept (t':=s.toks) λb o e=>hx b o (ä (Ï e)) e
 exact h pins _ σ H xs _ Q I1 (by simpa using rv) hw
def Vh(to ti:TE)(t:Tz):TG:=λv σ H Q=>to σ H λo H1=>ti σ H1 λi H2=>t o i v H2 λH3=>Q σ H3
def vp{o i:Expr}{to ti:TE}{t:Tz}(ho:PE X o to)(hi:PE X i ti)(hs:VH X t)(ha:∀v,assign (.Subscript o i pos) X.env v=(do
   let ov ←holding [v] (eval o X.env)
   let iv ←holding [v,ov] (eval i X.env)
   standAt pos
   holding [v,ov,iv] (setItem ov iv v)
   release [v,ov,iv] []):=by intro _;rfl):PG X (.Subscript o i pos) (Vh to ti t):=by
 intro pins s σ H v u Q I r h
 rw[ha]
 refine Æ (Ě (thn (ho pins s σ H _ I h) λov s1 ⟨x,H1,I1,r1,q1⟩=>?_))
 refine Æ (Ě (thn (hi pins s1 σ H1 _ I1 q1) λiv s2 ⟨y,H2,I2,r2,q2⟩=>?_))
 refine Æ (wpAny_standAt (Æ (Ě (thn (hs pins s2 σ H2 x y v ov iv u _ I2 r1 r2 r q2) λ_ s3 ⟨H3,I3,q3⟩=>?_))))
 exact wpAny_release ⟨σ,H3,I3,q3⟩
def qD(te:TE)(g:TG):TS:=λD σ H=>te σ H λx H1=>g x σ H1 D.nx
def qX{tg e:Expr}{te:TE}{g:TG}(he:PE X e te)(hg:PG X tg g)(hs:swapsWithSole [tg] e pos.line X.env=pure false:=by rfl)(hw:swappedStores [tg] e X.env=pure none:=by rfl)(h1:(assignEach [tg] X.env).map (·.2)=[assign tg X.env]:=by rfl):PS X (.Assign [tg] e pos) (qD te g):=by
 intro pins s σ H D I h
 refine wpAny_Assign_stores (thn (he pins s σ H _ I h) λv s1 ⟨x,H1,I1,r1,q1⟩=>?_) hs hw
 rw[h1]
 exact thn (hg pins s1 σ H1 x v _ I1 r1 q1) λ_ s2 q=>q
def fQ{i:Nat}{x:Str}{e:Expr}{te:TE}{pos':Pos}(hN:X.N.Nodup)(hi:X.N[i]?=some x)(hx:Loc X.env.scope x)(he:PE X e te)(hs:swapsWith e (some (.Name x pos')) pos.line X.env=pure false:=by rfl)(hf:X.fn x=true\/X.env.scope.names.lookup x=some .local:=by first|exact .inl rfl|exact .inr rfl|assumption) :
  PS X (.Assign [.Name x pos'] e pos) (qD te (iY i)):=by
 intro pins s σ H D I h
 refine wpAny_Assign_Name (thn (he pins s σ H _ I h) λv s1 ⟨y,H1,I1,r1,q1⟩=>?_) hs
 exact xV I1 hN hi hx r1 (λs2 I2=>⟨_,H1,I2,q1⟩) hf
end
section
variable {X:Cx}{pos:Pos}
def QT(c:TT)(tb:TS):TS:=λD σ H=>∃W:Nat->St->Hp->Prop,(∃m,W m σ H)/\∀m σ H,W m σ H ->
 c σ H λb H1=>if b=true then ∃N:St->Hp->Prop,(∀σ' H',N σ' H'->∃m',m'<m/\W m' σ' H')/\tb { D with nx:=N,ct:=N,bk:=D.nx } σ H1 else D.nx σ H1
def Jt{c:Expr}{body:List Stmt}{tc:TT}{tb:TS}(hp:PassesOwn (model X.prog X.w) X.A X.env X.xe)(hc:PT X c tc)(hb:PSs X body tb):PS X (.While c body [] pos) (QT tc tb):=by
 intro pins s σ H D I h
 obtain⟨W,⟨m0,w0⟩,turn⟩:=h
 refine wpAny_While (codeAny_whileLoop (λn s'=>∃σ' H',Inv X pins σ' H' s'/\W n σ' H') ?_ m0 ⟨σ,H,I,w0⟩)
 rintro n s1 ⟨σ1,H1,I1,w1⟩
 refine wpAny_passesOwn hp (thn (hc pins s1 σ1 H1 _ I1 (turn n σ1 H1 w1)) λb s2 ⟨H2,I2,q2⟩=>?_)
 cases b with
 |true =>
  obtain⟨N,hN,q2⟩:=q2
  rw[if_pos rfl]
  refine wpAny_passesOwn hp (thn (hb pins s2 σ1 H2 _ I2 q2) λf s3 q3=>?_)
  cases f with
  |next =>
   obtain⟨σ3,H3,I3,n3⟩:=q3
   obtain⟨m',hm,w3⟩:=hN σ3 H3 n3
   exact⟨m',hm,σ3,H3,I3,w3⟩
  |cont =>
   obtain⟨σ3,H3,I3,n3⟩:=q3
   obtain⟨m',hm,w3⟩:=hN σ3 H3 n3
   exact⟨m',hm,σ3,H3,I3,w3⟩
  |brk=>exact q3
  |ret v=>exact q3
 |false =>
  rw[if_neg Ó]
  exact wpAny_execs_nil ⟨σ1,H2,I2,q2⟩
end
structure It where
 go:Nat->Hp->Prop
 yld:Nat->Hp->V->Hp->Prop
 stop:Nat->Hp->Prop
def mW(X:Cx)(pins:List (Addr×Obj))(H:Hp)(b:Addr):Prop :=
 H b=none/\b≠X.env.locals/\b∉X.fs/\(b∈X.ex\/X.s₀.heap.objs.size<=b)/\(∀x c,X.env.cells.lookup x=some c->c≠b)/\∀p∈X.pn++pins,p.1≠b
def Inv.zA{X:Cx}{pins:List (Addr×Obj)}{σ:St}{H H':Hp}{s:Shared}{b:Addr}(I:Inv X pins σ H s)(hb:s.heap.objs.size<=b)(hn:H' b=none):mW X pins H' b:=by
 refine⟨hn,Ļ (ì I.lt hb),I.Wg hb,.inr (õ I.sz hb),λx c e z=>?_,λp hp z=>?_⟩
 ·obtain⟨v,q⟩:=I.cell x c e
  exact absurd (ì q.lt (by rw[z];exact hb)) (ċ _)
 ·exact absurd (ì (Ï (I.pin p hp).1) (by rw[z];exact hb)) (ċ _)
structure TurnG(Cm:Cx->Prop)(P:Program)(w:World)(K:Ý)(tg:Expr)(J:It)(fp:List Addr)(it:Addr)(tn:Nat->Heap->Prop):Prop where
 mem:it∈fp
 obj:∀i h,tn i h->∀b∈fp,∃o,h.get? b=some o/\∀v,o.data≠.cell v
 keep:∀i h h',tn i h->(∀b∈fp,∀o,h.get? b=some o->h'.get? b=some o)->tn i h'
 item:∀(X:Cx),X.prog=P->X.w=w->X.K=K->Cm X->∀(i:Nat) (pins:List (Addr×Obj)) (s:Shared) (σ:St) (H:Hp) (E:Value->Shared->Prop),Inv X pins σ H s->(∀b∈fp,mW X pins H b)->tn i s.heap->J.go i H ->
  wpAny (model P w) X.A (pyNext (.ref it)) (λr s1=>∃u,r=some u /\
   wpAny (model P w) X.A (letOwnedTupleGo tg (.ref it) u) (λ_ s2=>∃x H',Inv X pins σ H' s2/\RelV x u/\J.yld i H x H'/\tn (i+1) s2.heap/\∀b∈fp,H' b=none) E s1) E s
 done:∀(X:Cx),X.prog=P->X.w=w->X.K=K->Cm X->∀(i:Nat) (pins:List (Addr×Obj)) (s:Shared) (σ:St) (H:Hp) (E:Value->Shared->Prop),Inv X pins σ H s->(∀b∈fp,mW X pins H b)->tn i s.heap->J.stop i H ->
  wpAny (model P w) X.A (pyNext (.ref it)) (λr s1=>r=none/\Inv X pins σ H s1) E s
 self:∀(A:Around) (i:Nat) (s:Shared) (Q:Value->Shared->Prop) (E:Value->Shared->Prop),tn i s.heap->Q (.ref it) s->wpAny (model P w) A (pyIter (.ref it)) Q E s
abbrev Turn(P:Program)(w:World)(K:Ý)(tg:Expr)(J:It)(fp:List Addr)(it:Addr)(tn:Nat->Heap->Prop):Prop:=TurnG (λX=>X.calm=true) P w K tg J fp it tn
abbrev TI:=St->Hp->(It->Hp->Prop)->Prop
def VJ(Cm:Cx->Prop)(X:Cx)(pins:List (Addr×Obj))(σ:St)(tg:Expr)(R:It->Hp->Prop)(itv:Value)(s2:Shared):Prop :=
 ∃(it:Addr) (fp:List Addr) (tn:Nat->Heap->Prop) (J:It) (H':Hp),itv=.ref it/\Inv X pins σ H' s2/\TurnG Cm X.prog X.w X.K tg J fp it tn/\tn 0 s2.heap/\(∀b∈fp,mW X pins H' b)/\R J H'
def PIG(Cm:Cx->Prop)(X:Cx)(tg iter:Expr)(wi:TI):Prop :=
 ∀(pins:List (Addr×Obj)) (s:Shared) (σ:St) (H:Hp) (R:It->Hp->Prop),Inv X pins σ H s->wi σ H R ->
  wpAny (model X.prog X.w) X.A (eval iter X.env) (λv s1=>wpAny (model X.prog X.w) X.A (pyIter v) (VJ Cm X pins σ tg R) X.xe s1) X.xe s
abbrev PIE(X:Cx):=VJ (λX=>X.calm=true) X
abbrev PI(X:Cx):=PIG (λX=>X.calm=true) X
def Ku{M:Model}{A:Around}{E:Value->Shared->Prop}{s:Shared}{tg:Expr}{it:Addr}{u:Value}{o:Obj}{n:String}{vs:Array Value}{Q:Unit->Shared->Prop}(ho:s.heap.get? it=some o)(hc:o.cls=.type n)(hd:o.data=.fields vs)(hn:["enumerate","zip","dict_itemiterator","dict_reverseitemiterator","odict_iterator","itertools.zip_longest","itertools.pairwise"].contains n=false)(hQ:Q () s):wpAny M A (letOwnedTupleGo tg (.ref it) u) Q E s:=by
 unfold letOwnedTupleGo
 cases tg <;> first
  |exact Ö hQ
  | (cases u <;> first
    |exact Ö hQ
    | (refine Æ (wpAny_load ho ?_)
       rw[hc,hd]
       show wpAny M A (if (["enumerate","zip","dict_itemiterator","dict_reverseitemiterator","odict_iterator","itertools.zip_longest","itertools.pairwise"].contains n&&vs[0]? == some (rawInt _))=true then _ else _) Q E s
       rw[if_neg (by intro h;rw[hn,Bool.false_and] at h;cases h)]
       exact Ö hQ))
def Itl(K:Ý)(a:Addr):It :=
 ⟨λi H=>∃xs x,SqL K H a xs/\xs[i]?=some x,λi H x H'=>H'=H/\∀xs,SqL K H a xs->xs[i]?=some x,λi H=>∃xs,SqL K H a xs/\xs.length<=i⟩
def Itt(K:Ý)(a:Addr):It :=
 ⟨λi H=>∃xs x,SqT K H a xs/\xs[i]?=some x,λi H x H'=>H'=H/\∀xs,SqT K H a xs->xs[i]?=some x,λi H=>∃xs,SqT K H a xs/\xs.length<=i⟩
def Itr(lo:Int)(n:Nat):It:=⟨λi _=>i<n,λi H x H'=>H'=H/\x=.int (lo+i),λi _=>n<=i⟩
def Gj{P:Program}{w:World}{K:Ý}{tg:Expr}(a it:Addr):Turn P w K tg (Itl K a) [it] it (λi h=>h.IsListIter it a i) where
 mem:=by simp
 obj:=λi h st b hb=>by
  have e:b=it:=by simpa using hb
  subst e
  obtain⟨o,e,c,d⟩:=st
  exact⟨o,e,λv z=>by rw[d] at z;cases z⟩
 keep:=λi h h' st k=>st.at λo e=>k it (by simp) o e
 item:=by
  intro X hP hw hK hc i pins s σ H E I hf st hg
  subst hP hw hK
  obtain⟨xs,x,hq,hx⟩:=hg
  obtain⟨its,rv,p,hz⟩:=I.list hq
  obtain⟨u,hu,ru⟩:=rv.get hx
  obtain⟨f0,f1,f2,f3,f4,f5⟩:=hf it (by simp)
  refine wpAny_pyNext_list_item st p.isList (x:=u) (by simpa using hu) λh' st' sb=>?_
  have I1:Inv X pins σ H { s with heap:=h' }:=I.turned (t':=s.toks) (λb o hb e=>(sb.2 b hb).trans e) f0 f1 f3 f4 f5
  obtain⟨o,e,c,d⟩:=id st'
  exact⟨u,rfl,Ku (s:={ s with heap:=h' }) e c d (by decide) ⟨x,H,I1,ru,⟨rfl,λys hy=>by rw[I.lX hy hq];exact hx⟩,st',λb hb=>(hf b hb).1⟩⟩
 done:=by
  intro X hP hw hK hc i pins s σ H E I hf st hg
  subst hP hw hK
  obtain⟨xs,hq,hx⟩:=hg
  obtain⟨its,rv,p,hz⟩:=I.list hq
  obtain⟨f0,f1,f2,f3,f4,f5⟩:=hf it (by simp)
  have hl:=rv.length
  exact wpAny_pyNext_list_end (I.ok.hd hc) st p.isList (by simp;omega) λh' eb=>⟨rfl,I.turned (t':=s.toks) (λb o hb e=>eb b o hb e) f0 f1 f3 f4 f5⟩
 self:=λ_ _ _ _ _ st h=>wpAny_pyIter_listiter st h
def Aj{P:Program}{w:World}{K:Ý}{tg:Expr}(a it:Addr):Turn P w K tg (Itt K a) [it] it (λi h=>h.IsTupleIter it a i) where
 mem:=by simp
 obj:=λi h st b hb=>by
  have e:b=it:=by simpa using hb
  subst e
  obtain⟨o,e,c,d⟩:=st
  exact⟨o,e,λv z=>by rw[d] at z;cases z⟩
 keep:=λi h h' st k=>st.at λo e=>k it (by simp) o e
 item:=by
  intro X hP hw hK hc i pins s σ H E I hf st hg
  subst hP hw hK
  obtain⟨xs,x,hq,hx⟩:=hg
  obtain⟨its,rv,p,hz⟩:=I.tuple hq
  obtain⟨u,hu,ru⟩:=rv.get hx
  obtain⟨f0,f1,f2,f3,f4,f5⟩:=hf it (by simp)
  refine wpAny_pyNext_tuple_item st (show s.heap.IsTuple a its.toArray from p) (x:=u) (by simpa using hu) λh' st' sb=>?_
  have I1:Inv X pins σ H { s with heap:=h' }:=I.turned (t':=s.toks) (λb o hb e=>(sb.2 b hb).trans e) f0 f1 f3 f4 f5
  obtain⟨o,e,c,d⟩:=id st'
  exact⟨u,rfl,Ku (s:={ s with heap:=h' }) e c d (by decide) ⟨x,H,I1,ru,⟨rfl,λys hy=>by rw[I.ug hy hq];exact hx⟩,st',λb hb=>(hf b hb).1⟩⟩
 done:=by
  intro X hP hw hK hc i pins s σ H E I hf st hg
  subst hP hw hK
  obtain⟨xs,hq,hx⟩:=hg
  obtain⟨its,rv,p,hz⟩:=I.tuple hq
  obtain⟨f0,f1,f2,f3,f4,f5⟩:=hf it (by simp)
  have hl:=rv.length
  exact wpAny_pyNext_tuple_end (I.ok.hd hc) st (show s.heap.IsTuple a its.toArray from p) (by simp;omega) λh' eb=>⟨rfl,I.turned (t':=s.toks) (λb o hb e=>eb b o hb e) f0 f1 f3 f4 f5⟩
 self:=λ_ _ _ _ _ st h=>wpAny_pyIter_tupleiter st h
def Ak{P:Program}{w:World}{K:Ý}{tg:Expr}(it:Addr)(lo:Int)(n:Nat):Turn P w K tg (Itr lo n) [it] it (λi h=>IsRangeIter h it (lo+(i:Nat) * 1) ((n:Int) - (i:Nat)) 1) where
 mem:=by simp
 obj:=λi h st b hb=>by
  have e:b=it:=by simpa using hb
  subst e
  exact⟨_,st,λv z=>by
   have z':Data.fields _=Data.cell v:=z
   cases z'⟩
 keep:=λi h h' st k=>k it (by simp) _ st
 item:=by
  intro X hP hw hK hc i pins s σ H E I hf st hg
  subst hP hw hK
  obtain⟨f0,f1,f2,f3,f4,f5⟩:=hf it (by simp)
  have W:=Walks.range (prog:=X.prog) (w:=X.w) (I.ok.hd hc) it lo 1 n
  refine W.item i s _ _ hg st λv h' tk hv st' kk=>?_
  obtain⟨t,rfl⟩:=hv
  have I1:Inv X pins σ H { s with heap:=h',toks:=tk }:=I.turned (λb o hb e=>kk b o (by simpa using hb) e) f0 f1 f3 f4 f5
  refine⟨_,rfl,Ku (s:={ s with heap:=h',toks:=tk }) (n:="range_iterator") st' rfl rfl (by decide) ⟨.int (lo+i),H,I1,⟨t,?_⟩,⟨rfl,rfl⟩,st',λb hb=>(hf b hb).1⟩⟩
  rw[Int.mul_one]
 done:=by
  intro X hP hw hK hc i pins s σ H E I hf st hg
  subst hP hw hK
  obtain⟨f0,f1,f2,f3,f4,f5⟩:=hf it (by simp)
  exact wpAny_pyNext_range_end (I.ok.hd hc) st (by have:n<=i:=hg;omega) λh' eb=>⟨rfl,I.turned (t':=s.toks) (λb o hb e=>eb b o hb e) f0 f1 f3 f4 f5⟩
 self:=λ_ _ _ _ _ st h=>wpAny_pyIter_rangeiter st h
section
variable {X:Cx}{tg:Expr}
def yp{pins:List (Addr×Obj)}{σ:St}{H:Hp}{s:Shared}{R:It->Hp->Prop}{E:Value->Shared->Prop}{lo hi:Int}{t u v:Tok}{tk:Nat}(I:Inv X pins σ H s)(h1:-(2 ^ 62)<=lo)(h2:lo<2 ^ 62)(h3:-(2 ^ 62)<=hi)(h4:hi<2 ^ 62)(q:R (Itr lo (hi - lo).toNat) H):wpAny (model X.prog X.w) X.A (pyIter (.ref s.heap.objs.size)) (PIE X pins σ tg R) E { s with heap:=s.heap.push { cls:=.type "range",data:=.fields #[.int lo t,.int hi u,.int 1 v] },toks:=tk }:=by
 refine wpAny_pyIter_range (IsRange.new ..) (small_one h1 h2 h3 h4) ?_
 have I1:Inv X pins σ H { s with heap:=s.heap.push { cls:=.type "range",data:=.fields #[.int lo t,.int hi u,.int 1 v] },toks:=tk }:=I.kept λb o e=>Î _ e
 refine⟨(s.heap.push { cls:=.type "range",data:=.fields #[.int lo t,.int hi u,.int 1 v] }).objs.size,[(s.heap.push { cls:=.type "range",data:=.fields #[.int lo t,.int hi u,.int 1 v] }).objs.size],_,_,H,rfl,
  I1.kept (t':=tk) λb o e=>Î _ e,Ak _ lo (hi - lo).toNat,?_,λb hb=>?_,q⟩
 ·have e1:lo+((0:Nat):Int) * 1=lo:=by simp
  have e2:(((hi - lo).toNat:Nat):Int) - ((0:Nat):Int)=Builtin.Range.rangeSize lo hi 1:=by rw[rangeSize_one];split <;> omega
  show IsRangeIter _ _ (lo+((0:Nat):Int) * 1) ((((hi - lo).toNat:Nat):Int) - ((0:Nat):Int)) 1
  rw[e1,e2]
  exact Þ _ rfl
 ·have e:b=(s.heap.push { cls:=.type "range",data:=.fields #[.int lo t,.int hi u,.int 1 v] }).objs.size:=by simpa using hb
  subst e
  exact I1.zA (Ô _) (I1.hok.fresh (Ô _))
def Vd(ta:TA):TI:=λσ H R=>ta σ H λvs H1=>∃j:Int,vs=[.int j]/\-(2 ^ 62)<=j/\j<2 ^ 62/\R (Itr 0 j.toNat) H1
def Vc(ta:TA):TI:=λσ H R=>ta σ H λvs H1=>∃i j:Int,vs=[.int i,.int j]/\(-(2 ^ 62)<=i/\i<2 ^ 62/\-(2 ^ 62)<=j/\j<2 ^ 62)/\R (Itr i (j - i).toNat) H1
def Gz{a:Expr}{ta:TA}{p pos:Pos}(hg:Gl X "range")(hm:X.mg "range"=none)(ha:PA X [a] ta)(hs:starEach [a] X.env=[(false,eval a X.env)]:=by rfl):PI X tg (.Call (.Name "range" p) [a] [] pos) (Vd ta):=by
 intro pins s σ H R I h
 refine Call_ (dJ I hg hm boot_range (ć (thn (ha pos pins s σ H _ I h) λus s1 ⟨vs,H1,I1,r1,q1⟩=>?_) hs rfl))
 obtain⟨j,e,q1,q2,q⟩:=q1
 subst e
 cases r1 with
 |cons r rr =>
  cases rr
  obtain⟨t,rfl⟩:=r
  exact call_range_1 (yp I1 (by omega) (by omega) q1 q2 (by simpa using q))
def Gy{a b:Expr}{ta:TA}{p pos:Pos}(hg:Gl X "range")(hm:X.mg "range"=none)(ha:PA X [a,b] ta)(hs:starEach [a,b] X.env=[(false,eval a X.env),(false,eval b X.env)]:=by rfl)(hs2:starEach [b] X.env=[(false,eval b X.env)]:=by rfl) :
  PI X tg (.Call (.Name "range" p) [a,b] [] pos) (Vc ta):=by
 intro pins s σ H R I h
 refine Call_ (dJ I hg hm boot_range (ć (thn (ha pos pins s σ H _ I h) λus s1 ⟨vs,H1,I1,r1,q1⟩=>?_) (by rw[hs,hs2]) (by rw[hs2];rfl)))
 obtain⟨i,j,e,⟨q1,q2,q3,q4⟩,q⟩:=q1
 subst e
 cases r1 with
 |cons r rr =>
  cases rr with
  |cons r' rr =>
   cases rr
   obtain⟨t,rfl⟩:=r
   obtain⟨t',rfl⟩:=r'
   exact call_range_2 (yp I1 q1 q2 q3 q4 q)
def V7(wi:TI)(g:TG)(tb:TS):TS:=λD σ H=>wi σ H λJ H1=>∃W:Nat->Nat->St->Hp->Prop,(∃m,W 0 m σ H1)/\∀i m σ H,W i m σ H ->
 (J.stop i H/\D.nx σ H)\/(J.go i H/\∃N:St->Hp->Prop,(∀σ' H',N σ' H'->∃m',m'<m/\W (i+1) m' σ' H')/\∀x H',J.yld i H x H'->g x σ H' λσ2 H2=>tb { D with nx:=N,ct:=N,bk:=D.nx } σ2 H2)
def iC(fp:List Addr)(h:Heap):List (Addr×Obj):=fp.filterMap λb=>(h.get? b).map λo=>(b,o)
def fZ{fp:List Addr}{h:Heap}{b:Addr}{o:Obj}(hb:b∈fp)(e:h.get? b=some o):(b,o)∈iC fp h:=List.mem_filterMap.mpr ⟨b,hb,by rw[e];rfl⟩
def uI{fp:List Addr}{h:Heap}{p:Addr×Obj}(hp:p∈iC fp h):p.1∈fp/\h.get? p.1=some p.2:=by
 obtain⟨b,hb,e⟩:=List.mem_filterMap.mp hp
 cases q:h.get? b with
 |none=>rw[q] at e;cases e
 |some o =>
  rw[q] at e
  have e':(b,o)=p:=Ø e
  subst e'
  exact⟨hb,q⟩
def Inv.pinned{pins:List (Addr×Obj)}{σ:St}{H:Hp}{s:Shared}{fp:List Addr}(I:Inv X pins σ H s)(hf:∀b∈fp,mW X pins H b)(ho:∀b∈fp,∃o,s.heap.get? b=some o/\∀v,o.data≠.cell v):Inv X (pins++iC fp s.heap) σ H s :=
 I.pR λp hp=>(à.mp hp).elim (λz=>I.pin p (ç _ z)) λz=>by
  obtain⟨hb,e⟩:=uI z
  obtain⟨f0,f1,f2,_⟩:=hf p.1 hb
  obtain⟨o,e',d⟩:=ho p.1 hb
  rw[e] at e';cases e'
  exact⟨e,f0,f1,f2,d⟩
def Inv.j8{pins pl:List (Addr×Obj)}{σ:St}{H:Hp}{s:Shared}(I:Inv X (pins++pl) σ H s):Inv X pins σ H s:=I.pR λp hp=>I.pin p (ç _ (ú _ hp))
def Ro{iter:Expr}{body:List Stmt}{wi:TI}{g:TG}{tb:TS}{pos:Pos}(hp:PassesOwn (model X.prog X.w) X.A X.env X.xe)(hc:X.calm=true)(hi:PI X tg iter wi)(hg:PG X tg g)(hb:PSs X body tb)(hs:∀x,foldedSetIterable iter X.env x=pure x:=by intro _;rfl):PS X (.For tg iter body [] pos) (V7 wi g tb):=by
 intro pins s σ H D I h
 refine wpAny_For (thn (hi pins s σ H _ I h) λv s1 h1=>thn h1 λitv s2 h2=>?_) hs
 obtain⟨it,fp,tn,J,H2,e,I2,T,st2,f2,W,⟨m0,w0⟩,turn⟩:=h2
 subst e
 -- what stays true of the iterator's objects through the loop
 have stat:∀{H':Hp},(∀b∈fp,H' b=none)->∀b∈fp,mW X pins H' b:=λhn b hb=>⟨hn b hb,(f2 b hb).2⟩
 refine codeAny_forLoop_any (λn s'=>∃i σ' H',Inv X pins σ' H' s'/\tn i s'.heap/\(∀b∈fp,H' b=none)/\W i n σ' H') ?_ m0 ⟨0,σ,H2,I2,st2,λb hb=>(f2 b hb).1,w0⟩
 rintro n s3 ⟨i,σ3,H3,I3,st3,fr3,w3⟩
 rcases turn i n σ3 H3 w3 with ⟨stop,qn⟩|⟨go,N,hN,step⟩
 ·refine wpAny_passesOwn hp (thn (T.done X rfl rfl rfl hc i pins s3 σ3 H3 X.xe I3 (stat fr3) st3 stop) λr s4 ⟨hr,I4⟩=>?_)
  subst hr
  exact wpAny_execs_nil ⟨σ3,H3,I4,qn⟩
 ·refine wpAny_passesOwn hp (thn (T.item X rfl rfl rfl hc i pins s3 σ3 H3 X.xe I3 (stat fr3) st3 go) λr s4 ⟨u,hr,h4⟩=>?_)
  subst hr
  refine wpAny_passesOwn hp (thn h4 λ_ s5 ⟨x,H5,I5,r5,y5,st5,fr5⟩=>?_)
  have I5':=I5.pinned (stat fr5) (T.obj _ _ st5)
  refine wpAny_passesOwn hp (thn (hg _ s5 σ3 H5 x u _ I5' r5 (step x H5 y5)) λ_ s6 ⟨σ6,H6,I6,q6⟩=>?_)
  refine wpAny_passesOwn hp (thn (hb _ s6 σ6 H6 _ I6 q6) λf s7 q7=>?_)
  have again:∀{σ7:St}{H7:Hp},Inv X (pins++iC fp s5.heap) σ7 H7 s7->N σ7 H7->∃m,m<n/\∃i σ' H',Inv X pins σ' H' s7/\tn i s7.heap/\(∀b∈fp,H' b=none)/\W i m σ' H':=λ{σ7 H7} I7 n7=>by
   obtain⟨m',hm,w7⟩:=hN σ7 H7 n7
   refine⟨m',hm,i+1,σ7,H7,I7.j8,T.keep _ _ _ st5 λb hb o e=>(I7.pin (b,o) (ç _ (ç _ (fZ hb e)))).1,λb hb=>?_,w7⟩
   obtain⟨o,e,d⟩:=T.obj _ _ st5 b hb
   exact(I7.pin (b,o) (ç _ (ç _ (fZ hb e)))).2.1
  cases f with
  |next=>obtain⟨σ7,H7,I7,n7⟩:=q7;exact again I7 n7
  |cont=>obtain⟨σ7,H7,I7,n7⟩:=q7;exact again I7 n7
  |brk=>obtain⟨σ7,H7,I7,q7⟩:=q7;exact⟨σ7,H7,I7.j8,q7⟩
  |ret v=>obtain⟨x7,σ7,H7,I7,r7,q7⟩:=q7;exact⟨x7,σ7,H7,I7.j8,r7,q7⟩
end
abbrev R2:=V->V->Hp->VK->Prop
def OpR(X:Cx)(f:Value->Value->Sem Value)(r:R2):Prop :=
 ∀(pins:List (Addr×Obj)) (s:Shared) (σ:St) (H:Hp) (x y:V) (v u:Value) (Q:VK),Inv X pins σ H s->RelV x v->RelV y u->r x y H Q ->
  wpAny (model X.prog X.w) X.A (f v u) (EP X pins σ Q) X.xe s
def UnR(X:Cx)(f:Value->Sem Value)(r:V->Hp->VK->Prop):Prop :=
 ∀(pins:List (Addr×Obj)) (s:Shared) (σ:St) (H:Hp) (x:V) (v:Value) (Q:VK),Inv X pins σ H s->RelV x v->r x H Q ->
  wpAny (model X.prog X.w) X.A (f v) (EP X pins σ Q) X.xe s
def aP(X:Cx)(f:Value)(r:List V->Hp->VK->Prop):Prop :=
 ∀(pins:List (Addr×Obj)) (s:Shared) (σ:St) (H:Hp) (xs:List V) (us:List Value) (Q:VK),Inv X pins σ H s->Vals xs us->r xs H Q ->
  wpAny (model X.prog X.w) X.A (call f us) (EP X pins σ Q) X.xe s
def Wv(X:Cx)(r:V->Hp->(Bool->Hp->Prop)->Prop):Prop :=
 ∀(pins:List (Addr×Obj)) (s:Shared) (σ:St) (H:Hp) (x:V) (v:Value) (Q:Bool->Hp->Prop),Inv X pins σ H s->RelV x v->r x H Q ->
  wpAny (model X.prog X.w) X.A (truthy v) (TP X pins σ Q) X.xe s
def tOp(r:R2)(ta tb:TE):TE:=λσ H Q=>ta σ H λx H1=>tb σ H1 λy H2=>r x y H2 Q
def tUn(r:V->Hp->VK->Prop)(ta:TE):TE:=λσ H Q=>ta σ H λx H1=>r x H1 Q
def rI(C:Int->Int->Prop)(g:Int->Int->V):R2:=λx y H Q=>∃i j,x=.int i/\y=.int j/\C i j/\Q (g i j) H
def rI0(g:Int->Int->V):R2:=λx y H Q=>∃i j,x=.int i/\y=.int j/\Q (g i j) H
def rU(g:Int->V):V->Hp->VK->Prop:=λx H Q=>∃i,x=.int i/\Q (g i) H
section
variable {X:Cx}{a b c:Expr}{ta tb tc:TE}{pos:Pos}
def Tv(ha:PE X a ta)(hb:PE X b tb){pins:List (Addr×Obj)}{s:Shared}{σ:St}{H:Hp}{R:V->V->Hp->Prop}(I:Inv X pins σ H s)(h:ta σ H λx H1=>tb σ H1 λy H2=>R x y H2){Q:Value->Shared->Prop}{f:Value->Value->Sem Value}(hf:∀v u s2 x y H2,Inv X pins σ H2 s2->RelV x v->RelV y u->R x y H2->wpAny (model X.prog X.w) X.A (f v u) Q X.xe s2) :
  wpAny (model X.prog X.w) X.A (eval a X.env) (λv s₁=>wpAny (model X.prog X.w) X.A (eval b X.env) (λu s₂=>wpAny (model X.prog X.w) X.A (f v u) Q X.xe s₂) X.xe s₁) X.xe s:=by
 refine thn (ha pins s σ H _ I h) λv s1 ⟨x,H1,I1,r1,q1⟩=>?_
 refine thn (hb pins s1 σ H1 _ I1 q1) λu s2 ⟨y,H2,I2,r2,q2⟩=>?_
 exact hf v u s2 x y H2 I2 r1 r2 q2
def bG{op:Operator}{r:R2}(ho:OpR X (binaryOp op) r)(ha:PE X a ta)(hb:PE X b tb):PE X (.BinOp a op b pos) (tOp r ta tb):=by
 intro pins s σ H Q I h
 exact wpAny_BinOp (Tv ha hb I h λv u s2 x y H2 I2 rx ry q=>ho pins s2 σ H2 x y v u Q I2 rx ry q)
def Uw{op:UnaryOp}{r:V->Hp->VK->Prop}(ho:UnR X (unaryOp op) r)(ha:PE X a ta):PE X (.UnaryOp op a pos) (tUn r ta):=by
 intro pins s σ H Q I h
 exact UnaryOp_ (thn (ha pins s σ H _ I h) λv s1 ⟨x,H1,I1,r1,q1⟩=>ho pins s1 σ H1 x v Q I1 r1 q1)
def opI{f:Value->Value->Sem Value}{C:Int->Int->Prop}{g:Int->Int->Int}(rule:∀(i j:Int) (t u:Tok) (s:Shared) (Q:Value->Shared->Prop) (E:Value->Shared->Prop),C i j->Q (.int (g i j) s.toks) { s with toks:=s.toks+1 }->wpAny (model X.prog X.w) X.A (f (.int i t) (.int j u)) Q E s) :
  OpR X f (rI C λi j=>.int (g i j)):=by
 intro pins s σ H x y v u Q I rx ry h
 obtain⟨i,j,rfl,rfl,hc,q⟩:=h
 obtain⟨t,rfl⟩:=rx
 obtain⟨t',rfl⟩:=ry
 exact rule i j t t' s _ _ hc ⟨.int (g i j),H,I.tok _,⟨_,rfl⟩,q⟩
def R3{f:Value->Value->Sem Value}{g:Int->Int->Int}(rule:∀(i j:Int) (t u:Tok) (s:Shared) (Q:Value->Shared->Prop) (E:Value->Shared->Prop),Q (.int (g i j) s.toks) { s with toks:=s.toks+1 }->wpAny (model X.prog X.w) X.A (f (.int i t) (.int j u)) Q E s) :
  OpR X f (rI0 λi j=>.int (g i j)):=by
 intro pins s σ H x y v u Q I rx ry h
 obtain⟨i,j,rfl,rfl,q⟩:=h
 obtain⟨t,rfl⟩:=rx
 obtain⟨t',rfl⟩:=ry
 exact rule i j t t' s _ _ ⟨.int (g i j),H,I.tok _,⟨_,rfl⟩,q⟩
def Nv{f:Value->Value->Sem Value}{g:Int->Int->Bool}(rule:∀(i j:Int) (t u:Tok) (s:Shared) (Q:Value->Shared->Prop) (E:Value->Shared->Prop),Q (.bool (g i j)) s->wpAny (model X.prog X.w) X.A (f (.int i t) (.int j u)) Q E s) :
  OpR X f (rI0 λi j=>.bl (g i j)):=by
 intro pins s σ H x y v u Q I rx ry h
 obtain⟨i,j,rfl,rfl,q⟩:=h
 obtain⟨t,rfl⟩:=rx
 obtain⟨t',rfl⟩:=ry
 exact rule i j t t' s _ _ ⟨.bl (g i j),H,I,rfl,q⟩
def TJ(i j:Int):Prop:=0<j/\j<1073741824
def Wz(i j:Int):Prop:=0<=j/\j<=1000000/\i.natAbs<2 ^ 64
def Ma(i j:Int):Prop:=(-(2 ^ 64)<i/\i<2 ^ 64)\/(-(2 ^ 64)<j/\j<2 ^ 64)
def Ma.ok{i j:Int}(h:Ma i j):IntMulOk i j:=by
 rcases h with ⟨h1,h2⟩|⟨h1,h2⟩
 ·exact .of_left (intBits_le_64 h1 h2)
 ·exact .of_right (intBits_le_64 h1 h2)
def iJ:OpR X (binaryOp .Add) (rI0 λi j=>.int (i+j)):=R3 λ_ _ _ _ _ _ _ q=>add_int q
def RP:OpR X (binaryOp .Sub) (rI0 λi j=>.int (i - j)):=R3 λ_ _ _ _ _ _ _ q=>sub_int q
def jZ:OpR X (binaryOp .Mult) (rI Ma λi j=>.int (i * j)):=opI λ_ _ _ _ _ _ _ hc q=>mul_int q hc.ok
def qd:OpR X (binaryOp .FloorDiv) (rI TJ λi j=>.int (i / j)):=opI λi j _ _ _ _ _ hc q=>by
 have h1:(0:Int)<j:=hc.1
 have h2:j<1073741824:=hc.2
 exact floordiv_int (by omega) (by rw[Int.fdiv_eq_ediv_of_nonneg i (by omega)];exact q) (.inl (PyProof.noPylong_small (by omega)))
def fX:OpR X (binaryOp .Mod) (rI (λ_ j=>0<j) λi j=>.int (i % j)):=opI λi j _ _ _ _ _ hc q=>by
 have h1:(0:Int)<j:=hc
 exact mod_int' (by omega) (by rw[Int.fmod_eq_emod_of_nonneg i (by omega)];exact q)
def RT:OpR X (binaryOp .Pow) (rI Wz λi j=>.int (i ^ j.toNat)):=opI λ_ _ _ _ _ _ _ hc q=>pow_int_small hc.1 hc.2.1 hc.2.2 q
def RN:OpR X (binaryOp .BitXor) (rI0 λi j=>.int (Builtin.bitXor i j)):=R3 λ_ _ _ _ _ _ _ q=>xor_int q
def unI{f:Value->Sem Value}{g:Int->Int}(rule:∀(i:Int) (t:Tok) (s:Shared) (Q:Value->Shared->Prop) (E:Value->Shared->Prop),Q (.int (g i) s.toks) { s with toks:=s.toks+1 }->wpAny (model X.prog X.w) X.A (f (.int i t)) Q E s) :
  UnR X f (rU λi=>.int (g i)):=by
 intro pins s σ H x v Q I rx h
 obtain⟨i,rfl,q⟩:=h
 obtain⟨t,rfl⟩:=rx
 exact rule i t s _ _ ⟨.int (g i),H,I.tok _,⟨_,rfl⟩,q⟩
def QL:UnR X (unaryOp .USub) (rU λi=>.int (-i)):=unI λ_ _ _ _ _ q=>neg_int q
end
def Ul:V->V->Bool
 |.non,.non=>true|.non,.int _=>true|.int _,.non=>true|.non,.bl _=>true|.bl _,.non=>true|.non,.str _=>true|.str _,.non=>true
 |.int _,.int _=>true|.bl _,.bl _=>true|.str _,.str _=>true|.byt _,.byt _=>true
 |.int _,.str _=>true|.str _,.int _=>true|.bl _,.str _=>true|.str _,.bl _=>true
 |_,_=>false
def rEq:R2:=λx y H Q=>Ul x y=true/\Q (.bl (decide (x=y))) H
def rNe:R2:=λx y H Q=>Ul x y=true/\Q (.bl (!decide (x=y))) H
def Ga{i j:Int}:decide (V.int i=V.int j)=(i == j):=by
 rw[ĕ]
 simp
def Le{i j:Bool}:decide (V.bl i=V.bl j)=(i == j):=by
 rw[ĕ]
 simp
def FZ{i j:Str}:decide (V.str i=V.str j)=(i == j):=by
 rw[ĕ]
 simp
def Gb{i j:Array UInt8}:decide (V.byt i=V.byt j)=(i.toList == j.toList):=by
 rw[ĕ]
 cases i
 cases j
 simp
section
variable {X:Cx}{a b c:Expr}{ta tb tc:TE}{pos:Pos}
def aK{pins:List (Addr×Obj)}{σ:St}{H:Hp}{s:Shared}{Q:VK}{k k':Bool}(I:Inv X pins σ H s)(q:Q (.bl k) H)(e:k=k'):EP X pins σ Q (.bool k') s:=by
 subst e
 exact⟨.bl k,H,I,rfl,q⟩
def Qe:OpR X (compareOp .Eq) rEq:=by
 intro pins s σ H x y v u Q I rx ry h
 obtain⟨hs,q⟩:=h
 cases x with
 |non =>
  cases rx
  cases y with
  |non=>cases ry;exact PySem.EqNone.eq_none_none (aK I q (by simp))
  |bl j=>cases ry;exact PySem.EqNone.eq_none_bool (aK I q (by simp))
  |int j=>obtain⟨t',rfl⟩:=ry;exact PySem.EqNone.eq_none_int (aK I q (by simp))
  |str j=>obtain⟨t',rfl⟩:=ry;exact PySem.EqNone.eq_none_str (aK I q (by simp))
  |_=>exact absurd (show false=true from hs) Ó
 |bl i =>
  cases rx
  cases y with
  |non=>cases ry;exact PySem.EqNone.eq_bool_none (aK I q (by simp))
  |bl j=>cases ry;exact eq_bool (aK I q Le)
  |str j=>obtain⟨t',rfl⟩:=ry;exact PySem.EqMixed.eq_bool_str (aK I q (by simp))
  |_=>exact absurd (show false=true from hs) Ó
 |int i =>
  obtain⟨t,rfl⟩:=rx
  cases y with
  |non=>cases ry;exact PySem.EqNone.eq_int_none (aK I q (by simp))
  |int j=>obtain⟨t',rfl⟩:=ry;exact eq_int (aK I q Ga)
  |str j=>obtain⟨t',rfl⟩:=ry;exact PySem.EqMixed.eq_int_str (aK I q (by simp))
  |_=>exact absurd (show false=true from hs) Ó
 |str i =>
  obtain⟨t,rfl⟩:=rx
  cases y with
  |non=>cases ry;exact PySem.EqNone.eq_str_none (aK I q (by simp))
  |bl j=>cases ry;exact PySem.EqMixed.eq_str_bool (aK I q (by simp))
  |int j=>obtain⟨t',rfl⟩:=ry;exact PySem.EqMixed.eq_str_int (aK I q (by simp))
  |str j=>obtain⟨t',rfl⟩:=ry;exact eq_str (aK I q FZ)
  |_=>exact absurd (show false=true from hs) Ó
 |byt i =>
  obtain⟨t,rfl⟩:=rx
  cases y with
  |byt j=>obtain⟨t',rfl⟩:=ry;exact W.eq_bytes (aK I q Gb)
  |_=>exact absurd (show false=true from hs) Ó
 |_=>cases y <;> exact absurd (show false=true from hs) Ó
def UJ:OpR X (compareOp .NotEq) rNe:=by
 intro pins s σ H x y v u Q I rx ry h
 obtain⟨hs,q⟩:=h
 cases x with
 |non =>
  cases rx
  cases y with
  |non=>cases ry;exact PySem.EqNone.ne_none_none (aK I q (by simp))
  |bl j=>cases ry;exact PySem.EqNone.ne_none_bool (aK I q (by simp))
  |int j=>obtain⟨t',rfl⟩:=ry;exact PySem.EqNone.ne_none_int (aK I q (by simp))
  |str j=>obtain⟨t',rfl⟩:=ry;exact PySem.EqNone.ne_none_str (aK I q (by simp))
  |_=>exact absurd (show false=true from hs) Ó
 |bl i =>
  cases rx
  cases y with
  |non=>cases ry;exact PySem.EqNone.ne_bool_none (aK I q (by simp))
  |bl j=>cases ry;exact ne_bool (aK I q (congrArg not Le))
  |str j=>obtain⟨t',rfl⟩:=ry;exact PySem.EqMixed.ne_bool_str (aK I q (by simp))
  |_=>exact absurd (show false=true from hs) Ó
 |int i =>
  obtain⟨t,rfl⟩:=rx
  cases y with
  |non=>cases ry;exact PySem.EqNone.ne_int_none (aK I q (by simp))
  |int j=>obtain⟨t',rfl⟩:=ry;exact ne_int (aK I q (congrArg not Ga))
  |str j=>obtain⟨t',rfl⟩:=ry;exact PySem.EqMixed.ne_int_str (aK I q (by simp))
  |_=>exact absurd (show false=true from hs) Ó
 |str i =>
  obtain⟨t,rfl⟩:=rx
  cases y with
  |non=>cases ry;exact PySem.EqNone.ne_str_none (aK I q (by simp))
  |bl j=>cases ry;exact PySem.EqMixed.ne_str_bool (aK I q (by simp))
  |int j=>obtain⟨t',rfl⟩:=ry;exact PySem.EqMixed.ne_str_int (aK I q (by simp))
  |str j=>obtain⟨t',rfl⟩:=ry;exact ne_str (aK I q (congrArg not FZ))
  |_=>exact absurd (show false=true from hs) Ó
 |byt i =>
  obtain⟨t,rfl⟩:=rx
  cases y with
  |byt j=>obtain⟨t',rfl⟩:=ry;exact W.ne_bytes (aK I q (congrArg not Gb))
  |_=>exact absurd (show false=true from hs) Ó
 |_=>cases y <;> exact absurd (show false=true from hs) Ó
def yC:OpR X (compareOp .Lt) (rI0 λi j=>.bl (decide (i<j))):=Nv λ_ _ _ _ _ _ _ q=>lt_int q
def JL:OpR X (compareOp .LtE) (rI0 λi j=>.bl (decide (i<=j))):=Nv λ_ _ _ _ _ _ _ q=>le_int q
def Ew:OpR X (compareOp .Gt) (rI0 λi j=>.bl (decide (j<i))):=Nv λ_ _ _ _ _ _ _ q=>gt_int q
def Qd:OpR X (compareOp .GtE) (rI0 λi j=>.bl (decide (j<=i))):=Nv λ_ _ _ _ _ _ _ q=>ge_int q
def RW:OpR X (compareOp .Is) (λx y H Q=>y=.non/\Q (.bl (decide (x=.non))) H):=by
 intro pins s σ H x y v u Q I rx ry h
 obtain⟨rfl,q⟩:=h
 cases ry
 refine is_none_gen (aK I q ?_)
 cases x <;> first
  |(cases rx;rfl)
  |(obtain⟨t,rfl⟩:=rx;rfl)
def Nr:OpR X (compareOp .IsNot) (λx y H Q=>y=.non/\Q (.bl (!decide (x=.non))) H):=by
 intro pins s σ H x y v u Q I rx ry h
 obtain⟨rfl,q⟩:=h
 cases ry
 refine isnot_none_gen (aK I q ?_)
 cases x <;> first
  |(cases rx;rfl)
  |(obtain⟨t,rfl⟩:=rx;rfl)
def cP(b:Expr){op:CmpOp}(h:op≠.In:=by decide)(h2:op≠.NotIn:=by decide):behindInMarks op b=false:=by
 have e1:(op == CmpOp.In)=false:=by cases op <;> first|rfl|exact absurd rfl h
 have e2:(op == CmpOp.NotIn)=false:=by cases op <;> first|rfl|exact absurd rfl h2
 cases b <;> simp[behindInMarks,e1,e2]
def Ni{op:CmpOp}{r:R2}(ho:OpR X (compareOp op) r)(ha:PE X a ta)(hb:PE X b tb)(hm:behindInMarks op b=false):PE X (.Compare a [op] [b] pos) (tOp r ta tb):=by
 intro pins s σ H Q I h
 exact wpAny_Compare1 (Tv ha hb I h λv u s2 x y H2 I2 rx ry q=>ho pins s2 σ H2 x y v u Q I2 rx ry q) hm
def Iz(t:TE):TT:=λσ H Q=>t σ H λx H'=>∃k,x=.bl k/\Q k H'
def lB{op:CmpOp}{r:R2}(ho:OpR X (compareOp op) r)(ha:PE X a ta)(hb:PE X b tb)(hm:behindInMarks op b=false):PT X (.Compare a [op] [b] pos) (Iz (tOp r ta tb)):=by
 intro pins s σ H Q I h
 refine wpAny_isTrue_Compare1 (thn (ha pins s σ H _ I h) λv s1 ⟨x,H1,I1,r1,q1⟩=>thn (hb pins s1 σ H1 _ I1 q1) λu s2 ⟨y,H2,I2,r2,q2⟩ =>
  thn (ho pins s2 σ H2 x y v u _ I2 r1 r2 q2) λc s3 ⟨z,H3,I3,r3,k,e,q3⟩=>?_) hm
 subst e
 cases r3
 exact ģ ⟨H3,I3,q3⟩
def qC(r r':R2)(ta tb tc:TE):TE:=λσ H Q=>ta σ H λx H1=>tb σ H1 λy H2=>r x y H2 λz H3=>∃k,z=.bl k /\
 (if k=true then tc σ H3 λw' H4=>r' y w' H4 Q else Q (.bl false) H3)
def JF{op op':CmpOp}{r r':R2}(ho:OpR X (compareOp op) r)(ho':OpR X (compareOp op') r')(ha:PE X a ta)(hb:PE X b tb)(hc:PE X c tc)(hm:lastMarks [op,op'] [b,c]=false:=by with_unfolding_all rfl):PE X (.Compare a [op,op'] [b,c] pos) (qC r r' ta tb tc):=by
 intro pins s σ H Q I h
 refine Compare_chain (thn (ha pins s σ H _ I h) λv s1 ⟨x,H1,I1,r1,q1⟩=>chain_link (thn (hb pins s1 σ H1 _ I1 q1) λu s2 ⟨y,H2,I2,r2,q2⟩ =>
  thn (ho pins s2 σ H2 x y v u _ I2 r1 r2 q2) λd s3 ⟨z,H3,I3,r3,k,e,q3⟩=>?_)) hm
 subst e
 cases r3
 refine ģ ?_
 cases k with
 |false=>exact ite_ff ⟨.bl false,H3,I3,rfl,q3⟩
 |true=>exact ite_tt (chain_last (thn (hc pins s3 σ H3 _ I3 q3) λw' s4 ⟨z',H4,I4,r4,q4⟩=>ho' pins s4 σ H4 y z' u w' Q I4 r2 r4 q4))
def Js{op op':CmpOp}{r r':R2}(ho:OpR X (compareOp op) r)(ho':OpR X (compareOp op') r')(ha:PE X a ta)(hb:PE X b tb)(hc:PE X c tc)(hm:lastMarks [op,op'] [b,c]=false:=by with_unfolding_all rfl):PT X (.Compare a [op,op'] [b,c] pos) (Iz (qC r r' ta tb tc)):=by
 intro pins s σ H Q I h
 refine isTrue_chain (thn (ha pins s σ H _ I h) λv s1 ⟨x,H1,I1,r1,q1⟩=>test_link (thn (hb pins s1 σ H1 _ I1 q1) λu s2 ⟨y,H2,I2,r2,q2⟩ =>
  thn (ho pins s2 σ H2 x y v u _ I2 r1 r2 q2) λd s3 ⟨z,H3,I3,r3,k,e,q3⟩=>?_)) hm
 subst e
 cases r3
 refine ģ ?_
 cases k with
 |false =>
  obtain⟨k',e',q'⟩:=q3
  cases e'
  exact ite_ff ⟨H3,I3,q'⟩
 |true =>
  refine ite_tt (test_last (thn (hc pins s3 σ H3 _ I3 q3) λw' s4 ⟨z',H4,I4,r4,q4⟩=>thn (ho' pins s4 σ H4 y z' u w' _ I4 r2 r4 q4) λd' s5 ⟨z2,H5,I5,r5,k2,e2,q5⟩=>?_))
  subst e2
  cases r5
  exact ģ ⟨H5,I5,q5⟩
def VG(K:Ý)(x:V)(H:Hp)(k:Bool):Prop :=
 match x with
 |.non=>k=false
 |.bl b=>k=b
 |.int i=>k=(i != 0)
 |.str y=>y.length<=sizeLine/\k=((y.length:Int) != 0)
 |.byt y=>y.size<=sizeLine/\k=((y.size:Int) != 0)
 |.ref p=>(∃xs,SqL K H p xs/\k=!xs.isEmpty)\/(∃xs,SqT K H p xs/\k=!xs.isEmpty)\/∃kvs,H p=some (.dK kvs)/\k=!kvs.isEmpty
 |_=>False
def Ci{κ:Type}{kvs:List (κ×V)}{vs:List (κ×Value)}(r:KV kvs vs):(!vs.isEmpty)=!kvs.isEmpty:=by
 cases r <;> rfl
def sH{xs:List V}{its:List Value}(r:Vals xs its):(!its.toArray.isEmpty)=!xs.isEmpty:=by
 cases r <;> simp
def rY:(sizeLine:Nat)<2 ^ 63:=by rw[ą];decide
def QS:Wv X (λx H Q=>∃k,VG X.K x H k/\Q k H):=by
 intro pins s σ H x v Q I rx h
 obtain⟨k,e,q⟩:=h
 have hl:=rY
 have hs:sizeLine=16777216:=ą
 cases x with
 |non =>
  cases rx
  have e':k=false:=e
  subst e'
  exact truthy_none ⟨H,I,q⟩
 |bl b =>
  cases rx
  have e':k=b:=e
  subst e'
  exact ģ ⟨H,I,q⟩
 |int i =>
  obtain⟨t,rfl⟩:=rx
  have e':k=(i != 0):=e
  subst e'
  exact PySem.P.truthy_int ⟨H,I,q⟩
 |str y =>
  obtain⟨t,rfl⟩:=rx
  obtain⟨hy,e'⟩:y.length<=sizeLine/\k=((y.length:Int) != 0):=e
  subst e'
  exact PySem.P.truthy_str (by omega) ⟨H,I.tok _,q⟩
 |byt y =>
  obtain⟨t,rfl⟩:=rx
  obtain⟨hy,e'⟩:y.size<=sizeLine/\k=((y.size:Int) != 0):=e
  subst e'
  exact W.truthy_bytes (by omega) ⟨H,I.tok _,q⟩
 |ref p =>
  cases rx
  have e':(∃xs,SqL X.K H p xs/\k=!xs.isEmpty)\/(∃xs,SqT X.K H p xs/\k=!xs.isEmpty)\/∃kvs,H p=some (.dK kvs)/\k=!kvs.isEmpty:=e
  rcases e' with ⟨xs,hx,e'⟩|⟨xs,hx,e'⟩|⟨kvs,hx,e'⟩
  ·subst e'
   obtain⟨its,r,pl,hz⟩:=I.list hx
   have hlen:=r.length
   exact wpAny_truthy_list pl.isList (by simp only[Ò];omega) ⟨H,I.tok _,by rw[sH r];exact q⟩
  ·subst e'
   obtain⟨its,r,pl,hz⟩:=I.tuple hx
   have hlen:=r.length
   exact truthy_tuple pl (by simp only[Ò];omega) ⟨H,I.tok _,by rw[sH r];exact q⟩
  ·subst e'
   obtain⟨hz,hS,vs,r,m⟩:kvs.length<=sizeLine/\(p == sysModules)=false/\∃vs,KV kvs vs/\s.heap.DictOf (aW X.prog X.w) p vs:=I.hok p _ hx
   have hlen:kvs.length=vs.length:=Paired.length r
   exact wpAny_truthy_dict hS m (by omega) ⟨H,I.tok _,by rw[Ci r];exact q⟩
 |_=>exact(show False from e).elim
def Jr(ha:PE X a ta)(he:∀whole,isTrue a X.env whole=(do let v ←whole;standAt a.pos;holding [v] (truthy v))) :
  PT X a (λσ H Q=>ta σ H λx H'=>∃k,VG X.K x H' k/\Q k H'):=by
 intro pins s σ H Q I h
 exact isTrue_plain (thn (ha pins s σ H _ I h) λv s1 ⟨x,H1,I1,r1,q1⟩=>QS pins s1 σ H1 x v Q I1 r1 q1) (he _)
def vals1{x:V}{us:List Value}(r:Vals [x] us):∃u,us=[u]/\RelV x u:=by
 cases r with
 |cons r1 r2=>cases r2;exact⟨_,rfl,r1⟩
def vals2{x y:V}{us:List Value}(r:Vals [x,y] us):∃u w',us=[u,w']/\RelV x u/\RelV y w':=by
 cases r with
 |cons r1 r2 =>
  cases r2 with
  |cons r3 r4=>cases r4;exact⟨_,_,rfl,r1,r3⟩
def tL:aP X (.builtin "abs") (λxs H Q=>∃i,xs=[.int i]/\Q (.int (if i<0 then -i else i)) H):=by
 intro pins s σ H xs us Q I r h
 obtain⟨i,rfl,q⟩:=h
 obtain⟨u,rfl,t,rfl⟩:=vals1 r
 exact call_abs_int λu tk=>⟨.int (if i<0 then -i else i),H,I.tok _,⟨_,rfl⟩,q⟩
def Hz(hc:X.calm=true):aP X (.builtin "max") (λxs H Q=>∃i j,xs=[.int i,.int j]/\Q (.int (if j > i then j else i)) H):=by
 intro pins s σ H xs us Q I r h
 obtain⟨i,j,rfl,q⟩:=h
 obtain⟨u,w',rfl,⟨t,rfl⟩,⟨t',rfl⟩⟩:=vals2 r
 refine max_two_ints (I.ok.hd hc) λh' tk k=>⟨_,H,I.kept k,?_,q⟩
 by_cases hj:j > i
 ·rw[if_pos hj,if_pos hj];exact⟨_,rfl⟩
 ·rw[if_neg hj,if_neg hj];exact⟨_,rfl⟩
def HB:aP X (.type "int") (λxs H Q=>(∃i,xs=[.int i]/\Q (.int i) H)\/∃k,xs=[.bl k]/\Q (.int (if k then 1 else 0)) H):=by
 intro pins s σ H xs us Q I r h
 rcases h with ⟨i,rfl,q⟩|⟨k,rfl,q⟩
 ·obtain⟨u,rfl,t,rfl⟩:=vals1 r
  exact call_int_int ⟨.int i,H,I,⟨_,rfl⟩,q⟩
 ·obtain⟨u,rfl,r1⟩:=vals1 r
  cases r1
  exact call_int_bool ⟨.int (if k then 1 else 0),H,I.tok _,⟨_,rfl⟩,q⟩
def wV:aP X (.type "str") (λxs H Q=>∃i,xs=[.int i]/\i.natAbs.log2<1920/\Q (.str (toString i)) H):=by
 intro pins s σ H xs us Q I r h
 obtain⟨i,rfl,hz,q⟩:=h
 obtain⟨u,rfl,t,rfl⟩:=vals1 r
 exact PySem.P.str_of_int hz ⟨.str _,H,I.tok _,⟨_,rfl⟩,q⟩
end
structure ObjM(h:Heap)(x dx C:Addr)(mA:Str->Option Value):Prop where
 obj:h.get? x=some (W.instObj C dx)
 ns:h.Ns1 dx mA
 ne:dx≠x
def G3{h:Heap}{dx:Addr}{mA:Str->Option Value}(n:h.Ns1 dx mA):∃od,h.get? dx=some od/\∀name,W.lookIn name od=some (mA name):=by
 obtain⟨o,es,ep,ho,hd,hk,_,hm⟩:=n
 refine⟨o,ho,λname=>?_⟩
 have e:=hm name
 unfold nsFind findBy at e
 rw[←Array.find?_toList] at e
 unfold W.lookIn
 rw[hd]
 dsimp only
 split
 ·rename_i y q
  rw[q] at e
  exact congrArg some e
 ·rename_i q
  rw[q] at e
  have a:es.toList.any (·.refKey)=false:=by
   rw[List.any_eq_false]
   intro y hy
   obtain⟨z,t,hkey⟩:=hk y (Array.mem_toList_iff.mp hy)
   simp[DictEntry.refKey,hkey]
  have a':¬es.toList.any (·.refKey)=true:=by rw[a];exact Ó
  rw[if_neg a']
  exact congrArg some e
def ObjM.look{h:Heap}{x dx C:Addr}{mA:Str->Option Value}(I:ObjM h x dx C mA):∃od,W.InstAt h x (W.instObj C dx) C (some od)/\∀name,W.lookIn name od=some (mA name) :=
 let ⟨od,ho,hl⟩:=G3 I.ns
 ⟨od,⟨I.obj,rfl,rfl,ho⟩,hl⟩
section
variable {prog:Program}{w:World}{A:Around}{E:Value->Shared->Prop}{s:Shared}{K:Ý}{x dx C f:Addr}{mA:Str->Option Value}{name:Str}{v:Value}
end
def tQ.some_of{v:V}{o:Option Value}(r:tQ (some v) o):∃u,o=some u/\RelV v u:=by
 cases o with
 |none=>exact(show False from r).elim
 |some u=>exact⟨u,rfl,r⟩
section
variable {P:Program}{w:World}{H H':Hp}{h h':Heap}{a C dx:Addr}{fs fs':List (Str×V)}
def Om(hok:HOk P w H h)(e:H a=some (.ins C dx fs)):∃mA,ObjM h a dx C mA/\(∀f,tQ (fs.lookup f) (mA f))/\PySem.Within mA (fs.map (·.1))/\fs.length<=1000/\H dx=some (.own a):=by
 obtain⟨d,z,ne,ob,mA,n,r,q⟩:=(show bf P w H h a (.ins C dx fs) from hok a _ e)
 exact⟨mA,⟨ob,n,ne⟩,r,q,z,d⟩
end
structure Cls(K:Ý)(C:Addr):Prop where
 pg:W.plainGet K C Str.empty=true
 hd:W.hasDictIn K C=true
 po:W.plainOver K C=true
 sa:W.findIn K (.ref C) "__setattr__"=some (some (.builtin "object.__setattr__"))
def Cls.get{K:Ý}{C:Addr}(c:Cls K C)(f:Str):W.plainGet K C f=true:=c.pg
structure Con(K:Ý)(C:Addr)(f:Str)(v:V)(u:Value):Prop where
 at_:W.findIn K (.ref C) f=some (some u)
 rel:RelV v u
 get:W.specialIn K u "__get__"=some none
 cp:W.copiedNames.contains f=false
structure Meth(K:Ý)(C:Addr)(m:Str)(f:Addr):Prop where
 at_:W.findIn K (.ref C) m=some (some (.ref f))
 fn:W.isFn K (.ref f)=true
 kp:W.keepIn K (.ref f)=true
section
variable {X:Cx}{pins:List (Addr×Obj)}{σ:St}{H:Hp}{s:Shared}{a C dx:Addr}{fs:List (Str×V)}{f:Str}{v:V}{A:Around}{E:Value->Shared->Prop}
end
section
variable {X:Cx}{o e value:Expr}{f:Str}{pos pos' tpos:Pos}{ta tv:TE}
end
section
variable {X:Cx}{pins:List (Addr×Obj)}{σ:St}{H:Hp}{s:Shared}{A:Around}{E:Value->Shared->Prop}{Q:Value->Shared->Prop}{c:Value}{b:Bool}
inductive TyOf(K:Ý)(H:Hp):V->Value->Prop where
 |non:TyOf K H .non (.type "NoneType")
 |bl (x:Bool):TyOf K H (.bl x) (.type "bool")
 |int (i:Int):TyOf K H (.int i) (.type "int")
 |str (x:Str):TyOf K H (.str x) (.type "str")
 |flt (x:UInt64):TyOf K H (.flt x) (.type "float")
 |lst {a:Addr}{xs:List V} (e:H a=some (.lst xs)):TyOf K H (.ref a) (.type "list")
 |frz {a:Addr}{o:Obj}{xs:List V} (e:H a=some (.frz o (.lst xs))):TyOf K H (.ref a) (.type "list")
 |tup {a:Addr}{xs:List V} (e:H a=some (.tup xs)):TyOf K H (.ref a) (.type "tuple")
 |dK {a:Addr}{kvs:List (Key×V)} (e:H a=some (.dK kvs)):TyOf K H (.ref a) (.type "dict")
 |dT {a:Addr}{kvs:List (List Key×V)} (e:H a=some (.dT kvs)):TyOf K H (.ref a) (.type "dict")
 |ins {a C dx:Addr}{fs:List (Str×V)} (e:H a=some (.ins C dx fs)) (cl:Cls K C) (ha:W.findIn K (.ref C) "__class__"=some (some (.builtin "object.__class__")))
   (hn:W.specialIn K (.builtin "object.__class__") "__get__"=some (some (.builtin "getset_descriptor.__get__"))) (htk:W.takesIn K (.builtin "object.__class__")=some true)
   (hm:W.mroIn K C (.type "object")=some true):TyOf K H (.ref a) (.ref C)
def G9{x:V}{u t:Value}(I:Inv X pins σ H s)(rx:RelV x u)(ty:TyOf X.K H x t)(e:W.kitOne X.K t c=some b)(h:∀tk,Q (.bool b) { s with toks:=tk }) :
  wpAny (model X.prog X.w) A (call (.builtin "isinstance") [u,c]) Q E s:=by
 cases ty with
 |non=>cases (show u=İ from rx);exact W.kia_one W.kitx_none I.kIn ų e (λz=>nomatch z) h
 |bl y=>cases (show u=Value.bool y from rx);exact W.kia_one W.kitx_bool I.kIn ų e (λz=>nomatch z) h
 |int i=>obtain⟨t,q⟩:=(show ∃t,u=œ i t from rx);cases q;exact W.kia_one W.kitx_int I.kIn ų e (λz=>nomatch z) h
 |str y=>obtain⟨t,q⟩:=(show ∃t,u=Value.str y t from rx);cases q;exact W.kia_one W.kitx_str I.kIn ų e (λz=>nomatch z) h
 |flt y=>obtain⟨t,q⟩:=(show ∃t,u=Value.float y t from rx);cases q;exact W.kia_one W.kitx_float I.kIn ų e (λz=>nomatch z) h
 |@lst a xs ea =>
  cases (show u=Ģ a from rx)
  obtain⟨_,_,n,_,h1⟩:=(show bf X.prog X.w H s.heap a (.lst xs) from I.hok a _ ea)
  exact W.kia_one W.kitx_list I.kIn ⟨_,h1,rfl⟩ e (λz=>nomatch z) h
 |@frz a ob xs ea =>
  cases (show u=Ģ a from rx)
  obtain⟨_,_,_,n,_,h1⟩:=(show bf X.prog X.w H s.heap a (.frz ob (.lst xs)) from I.hok a _ ea)
  exact W.kia_one W.kitx_list I.kIn ⟨_,h1,rfl⟩ e (λz=>nomatch z) h
 |@tup a xs ea =>
  cases (show u=Ģ a from rx)
  obtain⟨_,_,_,p⟩:=(show bf X.prog X.w H s.heap a (.tup xs) from I.hok a _ ea)
  obtain⟨o,h1,h2,_⟩:=p
  exact W.kia_one W.kitx_tuple I.kIn ⟨o,h1,h2⟩ e (λz=>nomatch z) h
 |@dK a kvs ea =>
  cases (show u=Ģ a from rx)
  obtain⟨_,_,vs,_,p⟩:=(show bf X.prog X.w H s.heap a (.dK kvs) from I.hok a _ ea)
  obtain⟨o,es,ep,h1,h2,_⟩:=p
  exact W.kia_one W.kitx_dict I.kIn ⟨o,h1,h2.1⟩ e (λz=>nomatch z) h
 |@dT a kvs ea =>
  cases (show u=Ģ a from rx)
  obtain⟨_,_,xs,_,o,es,ep,h1,h2,_⟩:=(show bf X.prog X.w H s.heap a (.dT kvs) from I.hok a _ ea)
  exact W.kia_one W.kitx_dict I.kIn ⟨o,h1,h2.1⟩ e (λz=>nomatch z) h
 |@ins a C dx fs ea cl ha hn htk hm =>
  cases (show u=Ģ a from rx)
  obtain⟨mA,O,_⟩:=Om I.hok ea
  obtain⟨od,J,_⟩:=O.look
  exact W.kia_one (W.kitx_own (cl.get _) cl.hd ha hn htk hm) I.kIn J e (λz=>nomatch z) h
end
structure Room(k:Nat)(A:Around):Prop where
 hd:A.handled=none
 dp:A.depth+3 * k+5<recursionLimit
 un:A.units+16 * k+200<cLine
 gd:A.guards=some []
def Room.mono{j k:Nat}{A:Around}(r:Room k A)(h:j<=k):Room j A:=⟨r.hd,by have:=r.dp;omega,by have:=r.un;omega,r.gd⟩
def Room.deeper{k:Nat}{A:Around}(r:Room (k+1) A)(env:Env):Room k (A.deeper env) :=
 ⟨r.hd,by have:=r.dp;show A.depth+1+3 * k+5<_;omega,by have:=r.un;show A.units+3+16 * k+200<_;omega,r.gd⟩
def Room.depth{k:Nat}{A:Around}(r:Room k A):A.depth<recursionLimit:=by have:=r.dp;omega
def Room.units{k:Nat}{A:Around}(r:Room k A):A.units+64<cLine:=by have:=r.un;omega
def QV:TA:=λ_ H Q=>Q [] H
def xU(ta:TE)(tr:TA):TA:=λσ H Q=>ta σ H λx H1=>tr σ H1 λxs H2=>Q (x::xs) H2
section
variable {X:Cx}{e:Expr}{es:List Expr}{te:TE}{t:TA}{pos:Pos}
def dZ:PA X [] QV:=λ_ _ _ _ H Q I h=>Calls.spliced_nil ⟨[],H,I,.nil,h⟩
def bJ(ha:PE X e te)(hr:PA X es t)(hs:starEach (e::es) X.env=(false,eval e X.env)::starEach es X.env:=by rfl):PA X (e::es) (xU te t):=by
 intro pos pins s σ H Q I h
 rw[hs]
 show wpAny _ _ (spliced ((false,eval e X.env)::backTo pos (starEach es X.env))) _ _ s
 refine Calls.spliced_cons (thn (ha pins s σ H _ I h) λu s1 ⟨x,H1,I1,r1,q1⟩=>?_)
 exact thn (hr pos pins s1 σ H1 _ I1 q1) λus s2 ⟨xs,H2,I2,r2,q2⟩=>⟨x::xs,H2,I2,.cons r1 r2,q2⟩
def V0(t:TA):TE:=λσ H Q=>t σ H λxs H1=>xs.length<=sizeLine/\∀p,H1 p=none->Q (.ref p) (upd H1 p (.tup xs))
def QX(t:TA):TE:=λσ H Q=>t σ H λxs H1=>xs.length<=sizeLine/\∀p,H1 p=none->Q (.ref p) (upd H1 p (.lst xs))
def Ry{x1}(h:PA X es t):PE X (.Tuple es x1 pos) (V0 t):=by
 intro pins s σ H Q I hq
 refine wpAny_Tuple_spliced (thn (h pos pins s σ H _ I hq) λus s1 ⟨xs,H1,I1,r,z,q⟩=>⟨by rw[←r.length];exact z,?_⟩)
 have hf:H1 s1.heap.objs.size=none:=I1.hok.fresh (Ô _)
 refine⟨.ref s1.heap.objs.size,upd H1 s1.heap.objs.size (.tup xs),I1.laid (t':=s1.toks) (λb u e=>Î _ e) (Ô _) ?_,rfl,q _ hf⟩
 exact⟨z,us,r,⟨_,Þ _ rfl,rfl,_,rfl⟩⟩
def Bh(h:PA X es t):PE X (.List es pos) (QX t):=by
 intro pins s σ H Q I hq
 refine wpAny_List_spliced (thn (h pos pins s σ H _ I hq) λus s1 ⟨xs,H1,I1,r,z,q⟩=>⟨by rw[←r.length];exact z,?_⟩)
 have hf:H1 s1.heap.objs.size=none:=I1.hok.fresh (Ô _)
 refine⟨.ref s1.heap.objs.size,upd H1 s1.heap.objs.size (.lst xs),I1.laid (t':=s1.toks) (λb u e=>Î _ e) (Ô _) ?_,rfl,q _ hf⟩
 exact⟨z,us,0,r,Þ _ rfl⟩
end
abbrev Sp:=List V->Hp->VK->XK->Prop
abbrev CXT:=List Env->Hp->Shared->XK->Value->Shared->Prop
structure Env0(P:Program)(w:World)(K:Ý)(mg:Str->Option Value)(base:Heap)(A:Around)(outer:List Env)(s:Shared)(H:Hp):Prop where
 frames:A.frames=some outer
 mod:Mod K mg base
 bs:∀b o,base.get? b=some o->s.heap.get? b=some o/\H b=none
 bsz:base.objs.size<=s.heap.objs.size
 sJ:s.heap.FunFrames base outer
 frf:∀b∈frs outer,H b=none
 hok:HOk P w H s.heap
 bare:AllBare s.gens
def CE(outer:List Env)(P:Program)(w:World)(H:Hp)(s:Shared)(Q:VK)(u:Value)(s':Shared):Prop :=
 ∃v H',s'.os=s.os/\AllBare s'.gens/\Un (frs outer) [] H H' s.heap s'.heap/\HOk P w H' s'.heap/\RelV v u/\Q v H'
def CR(CX:CXT)(outer:List Env)(P:Program)(w:World)(H:Hp)(s:Shared)(Q:VK)(E:XK)(r:Result)(s':Shared):Prop :=
 match r with
 |.ok (.ret u)=>CE outer P w H s Q u s'
 |.ok _=>False
 |.error e=>CX outer H s E e s'
structure FnOk(P:Program)(w:World)(K:Ý)(mg:Str->Option Value)(base:Heap)(CX:CXT)(k:Nat)(f:Addr)(fd:FuncData)(ps:List Str)(sp:Sp):Prop where
 len:∀vs H Q E,sp vs H Q E->vs.length=ps.length
 run:∀(A:Around) (outer:List Env) (s:Shared) (H:Hp) (args:Args) (us:List Value) (vs:List V) (Q:VK) (E:XK),Room k A->Env0 P w K mg base A outer s H->BindsTo s fd args (ps.zip us)->Vals vs us->sp vs H Q E ->
  codeAny (model P w) A (.call (.ref f) args) (CR CX outer P w H s Q E) s
def FnOk.imp{P:Program}{w:World}{K:Ý}{mg:Str->Option Value}{base:Heap}{CX:CXT}{k:Nat}{f:Addr}{fd:FuncData}{ps:List Str}{sp sp':Sp}(F:FnOk P w K mg base CX k f fd ps sp)(h:∀vs H Q E,sp' vs H Q E->sp vs H Q E):FnOk P w K mg base CX k f fd ps sp' :=
 ⟨λvs H Q E q=>F.len vs H Q E (h _ _ _ _ q),λA outer s H args us vs Q E hr he hb hv hs=>F.run A outer s H args us vs Q E hr he hb hv (h _ _ _ _ hs)⟩
section
variable {X:Cx}{pins:List (Addr×Obj)}{σ:St}{H:Hp}{s s':Shared}
def Inv.env0(I:Inv X pins σ H s):Env0 X.prog X.w X.K X.mg X.base X.A X.stack s H :=
 ⟨I.ok.frames,I.ok.mod,I.bs,õ I.ok.bsz I.sz,I.stack,I.DQ,I.hok,I.bare⟩
def Inv.after{Q:VK}{u:Value}(I:Inv X pins σ H s)(h:CE X.stack X.prog X.w H s Q u s'):EP X pins σ Q u s':=by
 obtain⟨v,H',os,bare,un,hok,r,q⟩:=h
 obtain⟨hh,g,d,t,os'⟩:=s'
 obtain rfl:os'=s.os:=os
 exact⟨v,H',I.call (h':=hh) (g':=g) (d':=d) (t':=t) (ch:=[]) un hok bare (λb z=>absurd z (by simp)),r,q⟩
end
def Dz(sp:Sp)(dvs:List V)(E:XK)(t:TA):TE:=λσ H Q=>t σ H λvs H1=>sp (vs++dvs) H1 Q E
def Binds(K:Ý)(fd:FuncData)(ps:List Str)(ds:List Value):Prop :=
 ∀(s:Shared) (us:List Value),K.In s.heap->(us++ds).length=ps.length->BindsTo s fd ⟨us,[]⟩ (ps.zip (us++ds))
def Binds.all{K:Ý}{fd:FuncData}{ps:List Str}(h:∀us:List Value,us.length=ps.length->bindArgs fd ⟨us,[]⟩=pure (ps.zip us)):Binds K fd ps []:=λs us _ hl=>by
 rw[Ŗ] at hl ⊢
 exact .of_eq (h us hl)
def Passes(CX:CXT)(X:Cx)(E:XK):Prop:=∀(pins:List (Addr×Obj)) (σ:St) (H:Hp) (s:Shared) (e:Value) (s':Shared),Inv X pins σ H s->CX X.stack H s E e s'->X.xe e s'
section
variable {X:Cx}{CX:CXT}{k:Nat}{f C:Addr}{fd:FuncData}{ps:List Str}{sp:Sp}{dvs:List V}{ds:List Value}{E:XK}{x m:Str}{p pos apos:Pos}{e o:Expr}{es:List Expr}{ta:TE}{t:TA}
def Q8{pins:List (Addr×Obj)}{σ:St}{H:Hp}{s:Shared}{Q:VK}{us:List Value}{vs:List V}(F:FnOk X.prog X.w X.K X.mg X.base CX k f fd ps sp)(hr:Room k X.A)(hb:Binds X.K fd ps ds)(hd:Vals dvs ds)(hx:Passes CX X E)(I:Inv X pins σ H s)(r:Vals vs us)(h:sp (vs++dvs) H Q E):wpAny (model X.prog X.w) X.A (call (.ref f) us) (EP X pins σ Q) X.xe s:=by
 have r2:Vals (vs++dvs) (us++ds):=r.append hd
 have hl:(us++ds).length=ps.length:=by rw[←r2.length];exact F.len _ _ _ _ h
 refine wpAny_call (codeAny_mono (F.run X.A X.stack s H ⟨us,[]⟩ (us++ds) (vs++dvs) Q E hr I.env0 (hb s us I.kIn hl) r2 h) λr s' hq=>?_)
 cases r with
 |error e=>exact hx pins σ H s e s' I hq
 |ok fl =>
  cases fl with
  |ret u=>exact I.after hq
  |next=>exact Ũ hq
  |brk=>exact Ũ hq
  |cont=>exact Ũ hq
def Nj(F:FnOk X.prog X.w X.K X.mg X.base CX k f fd ps sp)(hr:Room k X.A)(hg:Gl X x)(hm:X.mg x=some (.ref f))(hk:W.keepIn X.K (.ref f)=true)(hb:Binds X.K fd ps ds)(hd:Vals dvs ds)(hx:Passes CX X E)(ha:PA X (e::es) t)(hdb:(x == ("__debug__":Str))=false:=by decide)(he:starEach (e::es) X.env=(false,eval e X.env)::starEach es X.env:=by rfl)(hpl:(backTo pos (starEach es X.env)).any (·.1)=false:=by rfl) :
  PE X (.Call (.Name x p) (e::es) [] pos) (Dz sp dvs E t):=by
 intro pins s σ H Q I h
 refine Ť (Ob I hg hm ?_ hdb)
 refine W.callWith_K (h₀:=X.base) I.ok.mod.kin hk (thn (ha pos pins s σ H _ I h) λus s1 ⟨vs,H1,I1,r,q⟩=>⟨I1.kIn,?_⟩) he hpl
 exact Q8 F hr hb hd hx I1 r q
structure Mk(K:Ý)(C f:Addr):Prop where
 makes:W.makesIn K C=true
 init:W.findIn K (.ref C) "__init__"=some (some (.ref f))
 fn:W.isFn K (.ref f)=true
 kp:W.keepIn K (.ref C)=true
end
section
variable {X:Cx}{CX:CXT}{k:Nat}{f C:Addr}{fd:FuncData}{ps ks:List Str}{sp:Sp}{E:XK}{x m:Str}{p pos apos kpos:Pos}{e o:Expr}{es:List Expr}{kws:List Keyword}{te ta:TE}{t tk:TA}{nm:Option Str}
structure KBinds(K:Ý)(fd:FuncData)(ps ks:List Str)(g:List Value->List Value->List Value)(gV:List V->List V->List V):Prop where
 to:∀(s:Shared) (us ws:List Value),K.In s.heap->(g us ws).length=ps.length->BindsTo s fd ⟨us,ks.zip ws⟩ (ps.zip (g us ws))
 rel:∀{vs:List V}{us:List Value}{zs:List V}{ws:List Value},Vals vs us->Vals zs ws->Vals (gV vs zs) (g us ws)
variable {g:List Value->List Value->List Value}{gV:List V->List V->List V}
end
structure FnScope(N P:List Str)(sc:Scope):Prop where
 kind:sc.kind=.function
 co:sc.isCoroutine=false
 gen:sc.isGenerator=false
 nd:N.Nodup
 pre:N.take P.length=P
 par:∀x∈P,sc.names.lookup x=some .local\/sc.names.lookup x=some .cell
 nofree:∀y∈sc.names,y.2≠.free
def zC{N P:List Str}{sc:Scope}(a:sc.kind=.function:=by rfl)(b:sc.isCoroutine=false:=by rfl)(c:sc.isGenerator=false:=by rfl)(d:N.Nodup:=by decide +kernel)(e:N.take P.length=P:=by rfl)(f:∀x∈P,sc.names.lookup x=some .local\/sc.names.lookup x=some .cell:=by decide +kernel)(g:∀y∈sc.names,y.2≠.free:=by decide +kernel):FnScope N P sc:=⟨a,b,c,d,e,f,g⟩
theorem uX{kindOf:Str->Option NameKind}{x:Str}:∀{binds:List (Str×Value)}{m:Str->Option Value},(∀v,(x,v)∉binds)->bindL kindOf binds m x=m x
 |[],_,_=>rfl
 |(n,v)::r,m,h=>by
  unfold bindL
  rw[uX λw hw=>h w (Ê _ hw)]
  split
  ·have:x≠n:=by rintro rfl;exact h v Ñ
   simp[this]
  ·rfl
theorem uZ{kindOf:Str->Option NameKind}{x:Str}:∀{binds:List (Str×Value)}{m:Str->Option Value},(∀v,(x,v)∉binds)->bindC kindOf binds m x=m x
 |[],_,_=>rfl
 |(n,v)::r,m,h=>by
  unfold bindC
  rw[uZ λw hw=>h w (Ê _ hw)]
  split
  ·rfl
  ·have:x≠n:=by rintro rfl;exact h v Ñ
   simp[this]
theorem uY{kindOf:Str->Option NameKind}{x:Str}{v:Value}:∀{P:List Str}{vs:List Value}{i:Nat}{m:Str->Option Value},P.Nodup->P[i]?=some x->vs[i]?=some v->kindOf x=some .local ->
  bindL kindOf (P.zip vs) m x=some v
 |[],_,_,_,_,h,_,_=>by simp at h
 |_::_,[],_,_,_,_,h,_=>by simp at h
 |p::P,w::vs,0,m,nd,h1,h2,hk=>by
  simp at h1 h2;subst h1;subst h2
  show bindL kindOf ((p,w)::P.zip vs) m p=_
  unfold bindL
  rw[uX λv hv=>(ź.mp nd).1 (List.of_mem_zip hv).1,if_pos hk]
  simp
 |p::P,w::vs,i+1,m,nd,h1,h2,hk=>by
  show bindL kindOf ((p,w)::P.zip vs) m x=_
  unfold bindL
  exact uY (i:=i) (ź.mp nd).2 (by simpa using h1) (by simpa using h2) hk
theorem u0{kindOf:Str->Option NameKind}{x:Str}{v:Value}:∀{P:List Str}{vs:List Value}{i:Nat}{m:Str->Option Value},P.Nodup->P[i]?=some x->vs[i]?=some v->kindOf x≠some .local ->
  bindC kindOf (P.zip vs) m x=some v
 |[],_,_,_,_,h,_,_=>by simp at h
 |_::_,[],_,_,_,_,h,_=>by simp at h
 |p::P,w::vs,0,m,nd,h1,h2,hk=>by
  simp at h1 h2;subst h1;subst h2
  show bindC kindOf ((p,w)::P.zip vs) m p=_
  unfold bindC
  rw[uZ λv hv=>(ź.mp nd).1 (List.of_mem_zip hv).1,if_neg hk]
  simp
 |p::P,w::vs,i+1,m,nd,h1,h2,hk=>by
  show bindC kindOf ((p,w)::P.zip vs) m x=_
  unfold bindC
  exact u0 (i:=i) (ź.mp nd).2 (by simpa using h1) (by simpa using h2) hk
def start(N:List Str)(vs:List V):St:=vs.map some++Ú (N.length - vs.length) none
def Hq(CX:CXT)(P:Program)(w:World)(K:Ý)(mg:Str->Option Value)(base:Heap)(N:List Str)(qual:Str)(scope:Scope)(f:Addr)(cd:Value)(A:Around)(outer:List Env)(s:Shared)(H:Hp)(E:XK):Cx where
 prog:=P
 w:=w
 K:=K
 mg:=mg
 base:=base
 A:=A.deeper (envOfC qual scope s.heap.objs.size f cd)
 N:=N
 s₀:=s
 H₀:=H
 env:=envOfC qual scope s.heap.objs.size f cd
 outer:=outer
 stack:=envOfC qual scope s.heap.objs.size f cd::outer
 ex:=[]
 calm:=true
 fn:=λ_=>true
 pn:=[]
 xe:=λe s'=>wpAny (model P w) (A.deeper (envOfC qual scope s.heap.objs.size f cd)) (leaving (envOfC qual scope s.heap.objs.size f cd) e) (λ_ s''=>CX outer H s E e s'') (λe' s''=>CX outer H s E e' s'') s'
def zZ{sc:Scope}{n:Nat}{x:Str}(h:sc.names.lookup x=some .cell):∃c,(cellsFrom n sc.names []).lookup x=some c:=by
 have q:=W.cellsFrom_some sc.names n [] (.inl h)
 exact Option.isSome_iff_exists.mp q
def Hf{CX:CXT}{P:Program}{w:World}{K:Ý}{mg:Str->Option Value}{base:Heap}{N ps:List Str}{qual:Str}{scope:Scope}{f:Addr}{cd:Value}{A:Around}{outer:List Env}{s s1:Shared}{H:Hp}{E:XK}{us:List Value}{vs:List V}(S:FnScope N ps scope)(hd:A.handled=none)(e0:Env0 P w K mg base A outer s H)(hl:vs.length=ps.length)(r:Vals vs us)(x:InCallC s s.heap.objs.size (bindL (envOfC qual scope s.heap.objs.size f cd).kindOf (ps.zip us) λ_=>none) (cellsFrom (s.heap.objs.size+1) scope.names []) (bindC (envOfC qual scope s.heap.objs.size f cd).kindOf (ps.zip us) λ_=>none) s1) :
  Inv (Hq CX P w K mg base N qual scope f cd A outer s H E) [] (start N vs) H s1:=by
 have hpl:ps.length<=N.length:=by have:=congrArg List.length S.pre;rw[ě] at this;omega
 obtain⟨h1,tk,rfl,hk⟩:=x.done
 have noA:∀b:Addr,b∉(Hq CX P w K mg base N qual scope f cd A outer s H E).ex:=λb z=>absurd (show b∈([]:List Addr) from z) (by simp)
 refine⟨⟨e0.mod,S.kind,rfl,rfl,Ô _,λy z c h1 h2=>?_,λy hy=>?_,λy c _ h=>?_,λ_=>hd,Around.frames_deeper e0.frames,.inr ⟨rfl,rfl⟩,λb z=>absurd z (noA b),e0.bs,e0.bsz,λb _ _=>noA b,λb z=>absurd z (noA b),e0.sJ,e0.frf,λq z=>nomatch (show q∈([]:List (Addr×Obj×HO)) from z)⟩,
  rfl,e0.bare,Un.kept hk,⟨_,x.toInCall.ns,λi y v h1 h2 h3=>?_⟩,λy c h=>⟨_,x.cell y c h⟩,e0.hok.fresh (Ô _),λy c h=>?_,λp hp=>absurd (show p∈([]:List (Addr×Obj)) from hp) (by simp),e0.hok.kept hk,?_⟩
 ·exact name_of_addr x.apart (ŗ h1) (ŗ h2)
 ·have hy:scope.names.lookup y=some .cell\/scope.names.lookup y=some .free:=hy
  rcases hy with hy|hy
  ·exact zZ hy
  ·exact absurd rfl (S.nofree _ (ŗ hy))
 ·exact Nat.le_of_lt (x.above y c (ŗ h))
 ·have hi:i<vs.length:=by
   unfold start at h2
   by_cases hi:i<vs.length
   ·exact hi
   ·rw[Ą (by simpa using hi)] at h2
    rw[Ű] at h2
    split at h2 <;> cases h2
  have ha:vs[i]?=some v:=by
   unfold start at h2
   rw[ù (by simpa using hi),Û] at h2
   cases e:vs[i]? with
   |none=>rw[e] at h2;cases h2
   |some a=>rw[e] at h2;cases h2;rfl
  obtain⟨u,hu,rv⟩:=r.get ha
  have hp:ps[i]?=some y:=by
   rw[←S.pre,List.getElem?_take_of_lt (by omega)];exact h1
  have ndP:ps.Nodup:=by rw[←S.pre];exact S.nd.sublist (List.take_sublist _ _)
  refine⟨u,rv,?_⟩
  rcases S.par y (Ð hp) with k|k
  ·exact .inl ⟨k,uY ndP hp hu k⟩
  ·obtain⟨c,e⟩:=zZ (n:=s.heap.objs.size+1) k
   refine .inr ⟨.inl k,c,e,?_⟩
   have q:=x.cell y c e
   rw[u0 ndP hp hu (by show scope.names.lookup y≠_;rw[k];decide)] at q
   exact q
 ·exact e0.hok.fresh (Nat.le_of_lt (x.above y c (ŗ h)))
 ·unfold start
  show _=N.length
  rw[Í,Ä,List.length_replicate]
  omega
def Vk{CX:CXT}{P:Program}{w:World}{K:Ý}{mg:Str->Option Value}{base:Heap}{k:Nat}{f:Addr}{name qual:Str}{params:Arguments}{body:List Stmt}{scope:Scope}{dV kV doc pm cdv ct oc:Value}{an od:Option Addr}{osl:Array (Option Value)}{N ps:List Str}{sp:Sp}(lk:K.lookup f=some ⟨oc,od,.func (W.fnOf name qual params body scope dV kV doc pm an cdv ct),osl⟩)(hcd:W.codeIn K cdv qual=true)(S:FnScope N ps scope)(len:∀vs H Q E,sp vs H Q E->vs.length=ps.length)(hbody:∀(A:Around) (outer:List Env) (s:Shared) (H:Hp) (vs:List V) (Q:VK) (E:XK),Room k (A.deeper (envOfC qual scope s.heap.objs.size f cdv))->sp vs H Q E ->
   ∃t,PSs (Hq CX P w K mg base N qual scope f cdv A outer s H E) body t/\t { nx:=λ_ H'=>Q .non H',rt:=Q } (start N vs) H) :
  FnOk P w K mg base CX (k+1) f (W.fnOf name qual params body scope dV kV doc pm an cdv ct) ps sp:=by
 refine⟨len,λA outer s H args us vs Q E hr e0 hb r hsp=>?_⟩
 have hl:=len _ _ _ _ hsp
 have KX:K.In s.heap:=e0.mod.kin.keeps λb o e=>(e0.bs b o e).1
 have lim:s.heap.NoLimit:=e0.mod.nolimit.keeps λb o e=>(e0.bs b o e).1
 have hkind:∀y∈ps.zip us,scope.names.lookup y.1=some .local\/(scope.names.lookup y.1=some .cell/\((cellsFrom (s.heap.objs.size+1) scope.names []).lookup y.1).isSome=true):=λ⟨n,v⟩ hy=>by
  rcases S.par n (List.of_mem_zip hy).1 with q|q
  ·exact .inl q
  ·exact .inr ⟨q,W.cellsFrom_some _ _ _ (.inl q)⟩
 refine codeAny_call_function hr.depth (KX _ _ lk) rfl S.co S.gen rfl (W.codeRec_of KX hcd) (hb _ _ _ _ ?_)
 refine wpAny_newFunctionEnv_cells S.kind hkind λenv he s1 x=>?_
 subst he
 refine⟨lim.keeps x.toInCall.keep,codeAny_func ?_⟩
 obtain⟨t,ht,hq⟩:=hbody A outer s H vs Q E (hr.deeper _) hsp
 have I:Inv (Hq CX P w K mg base N qual scope f cdv A outer s H E) [] (start N vs) H s1:=Hf S hr.hd e0 hl r x
 refine Œ (ht [] s1 (start N vs) H _ I hq) (λfl s' hs=>?_) λe s' hs=>hs
 have fin:∀{σ':St}{H':Hp}{v:V}{u:Value},Inv (Hq CX P w K mg base N qual scope f cdv A outer s H E) [] σ' H' s'->RelV v u->Q v H'->CE outer P w H s Q u s' :=
  λ{σ' H' v u} J rv q=>⟨v,H',J.os,J.bare,J.base,J.hok,rv,q⟩
 cases fl with
 |ret u =>
  obtain⟨v,σ',H',J,rv,q⟩:=hs
  exact fin J rv q
 |next =>
  obtain⟨σ',H',J,q⟩:=hs
  exact fin (v:=V.non) (u:=İ) J rfl q
 |brk =>
  obtain⟨_,_,_,q⟩:=hs
  exact Ũ q
 |cont =>
  obtain⟨_,_,_,q⟩:=hs
  exact Ũ q
section
variable {X:Cx}{x:Str}{p pos:Pos}{e:Expr}{es:List Expr}{t:TA}{id T:String}{r:List V->Hp->VK->Prop}
def tCB(r:List V->Hp->VK->Prop)(t:TA):TE:=λσ H Q=>t σ H λvs H1=>r vs H1 Q
def cO(hc:aP X (.builtin id) r)(hg:Gl X x)(hm:X.mg x=none)(hv:bootBuiltins x=some (.builtin id))(ha:PA X (e::es) t)(hn:x≠"__name__":=by decide)(hdb:(x == ("__debug__":Str))=false:=by decide)(he:starEach (e::es) X.env=(false,eval e X.env)::starEach es X.env:=by rfl)(hpl:(backTo pos (starEach es X.env)).any (·.1)=false:=by rfl):PE X (.Call (.Name x p) (e::es) [] pos) (tCB r t):=by
 intro pins s σ H Q I h
 refine Ť (dJ I hg hm hv ?_ hn hdb)
 exact PyProof.Rows.callWith_builtin1 (thn (ha pos pins s σ H _ I h) λus s1 ⟨vs,H1,I1,r1,q1⟩=>hc pins s1 σ H1 vs us Q I1 r1 q1) he hpl
def uE(hc:aP X (.type T) r)(hg:Gl X x)(hm:X.mg x=none)(hv:bootBuiltins x=some (.type T))(ha:PA X (e::es) t)(hn:x≠"__name__":=by decide)(hdb:(x == ("__debug__":Str))=false:=by decide)(he:starEach (e::es) X.env=(false,eval e X.env)::starEach es X.env:=by rfl)(hpl:(backTo pos (starEach es X.env)).any (·.1)=false:=by rfl):PE X (.Call (.Name x p) (e::es) [] pos) (tCB r t):=by
 intro pins s σ H Q I h
 refine Ť (dJ I hg hm hv ?_ hn hdb)
 exact ć (thn (ha pos pins s σ H _ I h) λus s1 ⟨vs,H1,I1,r1,q1⟩=>hc pins s1 σ H1 vs us Q I1 r1 q1) he hpl
end
end L2
namespace HT
open PySem PyProof.Rows
section
open PySem.SeqAt
open PySem.AutoSeq1 (wpAny_loadPart')
open PySem.MeetsSeq PySem.MeetsSeq2 PySem.MeetsSeq3
end
section
variable {prog:Program}{w:World}{A:Around}{E:Value->Shared->Prop}{s:Shared}
def Pa{t b:Addr}{vs ws:List Value}{Q:Value->Shared->Prop}(ht:IsTup s.heap t vs.toArray)(hb:IsTup s.heap b ws.toArray)(hv:vs≠[])(h1:ws=[]->Q (.ref t) s)(h2:ws≠[]->Q (.ref s.heap.objs.size) { s with heap:=s.heap.push { cls:=.type "tuple",data:=.seq (vs++ws).toArray } })(hsz:vs.length+ws.length<=sizeLine):wpAny (model prog w) A (binaryOp .Add (.ref t) (.ref b)) Q E s:=by
 obtain⟨⟨cls,dd,data,sl⟩,ho,hc,n,hd⟩:=id ht
 obtain⟨⟨cls2,dd2,data2,sl2⟩,ho2,hc2,n2,hd2⟩:=id hb
 simp only at hc hd hc2 hd2
 subst hc hd hc2 hd2
 have e:vs.toArray++ws.toArray=(vs++ws).toArray:=by simp
 by_cases hw:ws=[]
 ·exact concat_meets ⟨_,ho,rfl⟩ ⟨_,ho2,rfl⟩ noFill_tuple_add seq_tuple_add PySem.F.slot_tuple_add PySem.F.entry_tuple_add (PySem.F.args_tuple_add_2 _ _)
   (tuple_addW1 t b vs.toArray ws.toArray n n2 dd dd2 sl sl2 (by simpa using hv) (by simp[hw])) ⟨ho,ho2,h1 hw⟩
 ·refine concat_meets ⟨_,ho,rfl⟩ ⟨_,ho2,rfl⟩ noFill_tuple_add seq_tuple_add PySem.F.slot_tuple_add PySem.F.entry_tuple_add (PySem.F.args_tuple_add_2 _ _)
   (tuple_addW2 t b vs.toArray ws.toArray n n2 dd dd2 sl sl2 (by simpa using hv) (by simpa using hw) (by rw[Ò,Ò];exact hsz)) ⟨ho,ho2,?_⟩
  rw[e]
  exact h2 hw
def sIx(n d:Nat):Option Int->Nat
 |none=>d
 |some v=>if v<0 then (v+(n:Int)).toNat else min v.toNat n
def kY(n d k:Nat):sIx n d (some (k:Int))=min k n:=by
 show(if (k:Int)<0 then ((k:Int)+(n:Int)).toNat else min (k:Int).toNat n)=min k n
 rw[if_neg (by omega),ĩ]
def Q7(n d:Nat)(hd:d<=n)(o:Option Int):sIx n d o<=n:=by
 cases o with
 |none=>exact hd
 |some v =>
  show(if v<0 then (v+(n:Int)).toNat else min v.toNat n)<=n
  by_cases hv:v<0
  ·rw[if_pos hv];omega
  ·rw[if_neg hv];exact Nat.min_le_right _ _
def Ge(v:Int)(n d:Nat):(if v<0 then max (v+(n:Int)) 0 else min v (n:Int))=((sIx n d (some v):Nat):Int):=by
 show(if v<0 then max (v+(n:Int)) 0 else min v (n:Int))=(((if v<0 then (v+(n:Int)).toNat else min v.toNat n):Nat):Int)
 by_cases hv:v<0
 ·simp only[if_pos hv];omega
 ·simp only[if_neg hv];omega
def Dq(lo hi:Option Int)(n:Nat):Builtin.Slice.sliceAdjust lo hi 1 (n:Int)=(((sIx n 0 lo:Nat):Int),((sIx n n hi:Nat):Int)):=by
 have h1:¬((1:Int)<0):=by omega
 unfold Builtin.Slice.sliceAdjust
 simp only[h1,if_false]
 refine Prod.ext ?_ ?_
 ·cases lo with
  |none=>rfl
  |some v=>exact Ge v n 0
 ·cases hi with
  |none=>rfl
  |some v=>exact Ge v n n
def Bg(i j:Nat):Ź (i:Int) (j:Int) 1=j - i:=by
 unfold Ź
 have h1:(1:Int) > 0:=by omega
 simp only[h1,if_true,Int.ediv_one]
 split <;> omega
def qH{v:Value}{o:Option Int}{Q:Option Int->Shared->Prop}(p:IsPart v o)(h:Q o s):wpAny (model prog w) A (Builtin.Slice.slicePartIndex v) Q E s:=by
 cases p with
 |none=>exact slicePart_none h
 |int i t=>exact slicePart_int h
def ni{sl:Addr}{vl vu:Value}{lo hi:Option Int}{n:Nat}{Q:Int×Int×Nat->Shared->Prop}(hs:s.heap.IsSliceOf sl vl vu .none)(pl:IsPart vl lo)(pu:IsPart vu hi)(h:Q (((sIx n 0 lo:Nat):Int),1,sIx n n hi - sIx n 0 lo) s):wpAny (model prog w) A (Builtin.Slice.sliceApplied (.ref sl) (pure (n:Int))) Q E s:=by
 obtain⟨os,hos,hcs,hds⟩:=id hs
 unfold Builtin.Slice.sliceApplied Builtin.Slice.sliceFields
 refine Æ (Æ (ů hos hds (x:=vl) rfl (Æ (ů hos hds (x:=vu) rfl (Æ (ů hos hds (x:=.none) rfl (Ö ?_)))))))
 refine Æ (slicePart_none ?_)
 show wpAny _ _ (if ((1:Int) == 0)=true then _ else _) _ _ s
 rw[if_neg (by decide)]
 refine Æ (qH pl (Æ (qH pu (Æ (Ö ?_)))))
 show wpAny _ _ (match Builtin.Slice.sliceAdjust lo hi 1 (n:Int) with|(lo,hi)=>pure (lo,(1:Int),Ź lo hi 1)) _ _ s
 rw[Dq lo hi n]
 show wpAny _ _ (pure (((sIx n 0 lo:Nat):Int),(1:Int),Ź ((sIx n 0 lo:Nat):Int) ((sIx n n hi:Nat):Int) 1)) _ _ s
 rw[Bg]
 exact Ö h
def Jx(xs:Array Value)(i k:Nat):((ê k).filterMap λ(m:Nat)=>xs[((i:Int)+(m:Int) * 1).toNat]?).toArray=((xs.toList.drop i).take k).toArray:=by
 have e:(λ(m:Nat)=>xs[((i:Int)+(m:Int) * 1).toNat]?)=λm=>xs[i+m]?:=by
  funext m
  have:((i:Int)+(m:Int) * 1).toNat=i+m:=by omega
  rw[this]
 rw[e]
 have:=pick_run xs i k
 rw[List.filterMap_map] at this
 have e2:((λx=>xs[x]?) ∘ λx=>i+x)=λm=>xs[i+m]?:=rfl
 rw[e2] at this
 rw[this]
def mD{t sl:Addr}{items:Array Value}{vl vu:Value}{lo hi:Option Int}{Q:Value->Shared->Prop}(ht:IsTup s.heap t items)(hs:s.heap.IsSliceOf sl vl vu .none)(pl:IsPart vl lo)(pu:IsPart vu hi)(hw:¬(sIx items.size 0 lo=0/\sIx items.size items.size hi=items.size))(h:Q (.ref s.heap.objs.size) { s with heap:=s.heap.push { cls:=.type "tuple",data:=.seq ((items.toList.drop (sIx items.size 0 lo)).take (sIx items.size items.size hi - sIx items.size 0 lo)).toArray } })(hsz:items.size<=sizeLine):wpAny (model prog w) A (getItem (.ref t) (.ref sl)) Q E s:=by
 have htake:sizeOk (.seq ((items.toList.drop (sIx items.size 0 lo)).take (sIx items.size items.size hi - sIx items.size 0 lo)).toArray):=by
  show((items.toList.drop (sIx items.size 0 lo)).take (sIx items.size items.size hi - sIx items.size 0 lo)).toArray.size<=sizeLine
  rw[Ò,ě,ŝ,Ę]
  omega
 have hj:sIx items.size items.size hi<=items.size:=Q7 _ _ (Ô _) hi
 obtain⟨os,hos,hcs,hds⟩:=id hs
 have hTs:s.TypeIs (.ref sl) "slice":=⟨os,hos,hcs⟩
 unfold getItem
 try with_reducible refine Ě ?_
 first|refine Æ (Ö ?_)|skip
 refine Æ (wpAny_sequenceKey ht.typeIs (by decide) ?_)
 refine Æ (Ł (name:=Ś "__getitem__") ht.typeIs PyProof.Rows.slot_tuple_getitem
  (ĵ PyProof.Rows.slot_tuple_getitem ht.typeIs entry_tuple_getitem ?_ (args_tuple_getitem _ _)))
 show wpAny _ _ (Builtin.Tuple.tupleItemsOf (.ref t) >>= _) _ _ s
 refine Æ (tupleItemsOf_ ht ?_)
 refine Æ (wpAny_typeOf hTs ?_)
 rw[if_pos (by decide)]
 refine Æ (ni hs pl pu ?_)
 have hno:¬((((sIx items.size 0 lo:Nat):Int) == 0&&(1:Int) == 1&&(sIx items.size items.size hi - sIx items.size 0 lo) == items.size)=true):=by
  intro q
  rw[Õ,Õ] at q
  have q1:((sIx items.size 0 lo:Nat):Int)=0:=eq_of_beq q.1.1
  have q2:sIx items.size items.size hi - sIx items.size 0 lo=items.size:=eq_of_beq q.2
  exact hw ⟨by omega,by omega⟩
 show wpAny _ _ (if (((sIx items.size 0 lo:Nat):Int) == 0&&(1:Int) == 1&&(sIx items.size items.size hi - sIx items.size 0 lo) == items.size)=true then _ else _) _ _ s
 rw[if_neg hno,Jx]
 first
  |exact Æ (m:=Builtin.Tuple.tupleExact _) (ř (Ö ⟨_,rfl,Ö h⟩) htake)
  |exact Æ (m:=Builtin.Tuple.tupleExact _) (ř (Æ (Ö (Ö ⟨_,rfl,Ö h⟩))) htake)
  |exact Æ (Æ (m:=Builtin.Tuple.tupleExact _) (ř (Ö (Ö ⟨_,rfl,Ö h⟩)) htake))
  |exact Æ (Æ (m:=Builtin.Tuple.tupleExact _) (ř (Ö ⟨_,rfl,Ö h⟩) htake))
end
end HT
namespace L2
open PySem PySem.Spec PyProof.Rows
abbrev TO:=St->Hp->(Option Int->Hp->Prop)->Prop
def PO(X:Cx)(e:Option Expr)(t:TO):Prop :=
 ∀(pins:List (Addr×Obj)) (s:Shared) (σ:St) (H:Hp) (Q:Option Int->Hp->Prop),Inv X pins σ H s->t σ H Q ->
  wpAny (model X.prog X.w) X.A (evalPart e X.env) (λu s'=>∃o H',Inv X pins σ H' s'/\IsPart u o/\Q o H') X.xe s
def Mq:TO:=λ_ H Q=>Q none H
def T7(t:TE):TO:=λσ H Q=>t σ H λx H1=>∃i,x=.int i/\Q (some i) H1
def intsAre_of{ns:List Int}:∀{us:List Value},Vals (ns.map V.int) us->IntsAre us ns:=by
 induction ns with
 |nil=>intro us r;rw[List.map_nil] at r;cases r;exact .nil
 |cons n ns ih =>
  intro us r
  rw[ò] at r
  cases r with
  |cons r1 r2 =>
   obtain⟨t,e⟩:=r1
   subst e
   exact .cons n t (ih r2)
section
variable {X:Cx}{e:Expr}{te:TE}{lo hi:Option Expr}{tl th:TO}{pos p2:Pos}
def M6:PO X none Mq:=by
 intro pins s σ H Q I h
 rw[evalPart_none]
 exact Ö ⟨none,H,I,.none,h⟩
def M5(h:PE X e te):PO X (some e) (T7 te):=by
 intro pins s σ H Q I hw
 rw[evalPart_some]
 refine thn (h pins s σ H _ I hw) λu s1 ⟨x,H1,I1,r1,q1⟩=>?_
 obtain⟨i,rfl,q⟩:=q1
 obtain⟨t,rfl⟩:=r1
 exact⟨some i,H1,I1,.int i t,q⟩
def SlR(X:Cx)(r:V->Option Int->Option Int->Hp->VK->Prop):Prop :=
 ∀(pins:List (Addr×Obj)) (s:Shared) (σ:St) (H:Hp) (x:V) (v vl vu:Value) (lo hi:Option Int) (sl:Addr) (Q:VK),Inv X pins σ H s->RelV x v->s.heap.IsSliceOf sl vl vu .none->IsPart vl lo->IsPart vu hi->r x lo hi H Q ->
  ∃T id,typeLookup (.type T) "__getitem__"=pure (some (.builtin id))/\s.TypeIs v T/\wpAny (model X.prog X.w) X.A (getItem v (.ref sl)) (EP X pins σ Q) X.xe s
def SlR.or{r r':V->Option Int->Option Int->Hp->VK->Prop}(h:SlR X r)(h':SlR X r'):SlR X (λx lo hi H Q=>r x lo hi H Q\/r' x lo hi H Q):=by
 intro pins s σ H x v vl vu lo hi sl Q I rx hs pl pu q
 rcases q with q|q
 ·exact h pins s σ H x v vl vu lo hi sl Q I rx hs pl pu q
 ·exact h' pins s σ H x v vl vu lo hi sl Q I rx hs pl pu q
def tSl(r:V->Option Int->Option Int->Hp->VK->Prop)(te:TE)(tl th:TO):TE:=λσ H Q=>te σ H λx H1=>tl σ H1 λl H2=>th σ H2 λu H3=>r x l u H3 Q
def yu{r:V->Option Int->Option Int->Hp->VK->Prop}(hr:SlR X r)(he:PE X e te)(hl:PO X lo tl)(hu:PO X hi th):PE X (.Subscript e (.Slice lo hi none p2) pos) (tSl r te tl th):=by
 intro pins s σ H Q I h
 refine Subscript_ (thn (he pins s σ H _ I h) λv s1 ⟨x,H1,I1,r1,q1⟩=>?_)
 refine wpAny_Slice (thn (hl pins s1 σ H1 _ I1 q1) λvl s2 ⟨l,H2,I2,pl,q2⟩=>thn (hu pins s2 σ H2 _ I2 q2) λvu s3 ⟨u,H3,I3,pu,q3⟩=>?_)
 rw[evalPart_none]
 refine Ö ?_
 have I4:Inv X pins σ H3 { s3 with heap:=s3.heap.push { cls:=.type "slice",data:=.fields #[vl,vu,.none] } }:=I3.kept (t':=s3.toks) λb ob q=>Î _ q
 obtain⟨T,id,hT,ht,hg⟩:=hr pins { s3 with heap:=s3.heap.push { cls:=.type "slice",data:=.fields #[vl,vu,.none] } } σ H3 x v vl vu l u s3.heap.objs.size Q I4 r1 (Heap.IsSliceOf.new ..) pl pu q3
 show wpAny (model X.prog X.w) X.A (subscriptTail e (.Slice lo hi none p2) v (.ref s3.heap.objs.size)) (EP X pins σ Q) X.xe { s3 with heap:=s3.heap.push { cls:=.type "slice",data:=.fields #[vl,vu,.none] } }
 exact tail_any (ops:=[.ref s3.heap.objs.size,v]) ht hT hg (by with_unfolding_all rfl)
def sZ(xs:List V)(lo hi:Option Int):List V:=(xs.drop (HT.sIx xs.length 0 lo)).take (HT.sIx xs.length xs.length hi - HT.sIx xs.length 0 lo)
def pA(xs:List V)(lo hi:Option Int):(sZ xs lo hi).length<=xs.length:=by
 unfold sZ
 rw[ě,ŝ]
 omega
def V9(K:Ý):V->Option Int->Option Int->Hp->VK->Prop:=λx lo hi H Q=>∃a xs,x=.ref a/\SqT K H a xs /\
 ¬(HT.sIx xs.length 0 lo=0/\HT.sIx xs.length xs.length hi=xs.length)/\∀p,H p=none->Q (.ref p) (upd H p (.tup (sZ xs lo hi)))
def Q5:SlR X (V9 X.K):=by
 intro pins s σ H x v vl vu lo hi sl Q I rx hs pl pu h
 obtain⟨a,xs,rfl,hx,hw,q⟩:=h
 cases rx
 obtain⟨its,r,ht,hz⟩:=I.tuple hx
 have hlen:its.toArray.size=xs.length:=by rw[Ò];exact r.length.symm
 refine⟨"tuple",_,PyProof.Rows.slot_tuple_getitem.lookup,ht.typeIs,?_⟩
 refine HT.mD ht hs pl pu (by rw[hlen];exact hw) ?_ (by rw[hlen];exact hz)
 rw[hlen]
 refine⟨.ref s.heap.objs.size,_,I.laid (t':=s.toks) (o:=.tup (sZ xs lo hi)) (λb ob q=>Î _ q) (Ô _) ?_,rfl,q _ (I.hok.fresh (Ô _))⟩
 exact⟨õ (pA xs lo hi) hz,_,(r.drop (HT.sIx xs.length 0 lo)).take (HT.sIx xs.length xs.length hi - HT.sIx xs.length 0 lo),IsTup.new _ _⟩
def Us(K:Ý):R2:=λx y H Q=>∃a b xs ys,x=.ref a/\y=.ref b/\SqT K H a xs/\SqT K H b ys/\xs≠[]/\xs.length+ys.length<=sizeLine /\
 (ys=[]->Q (.ref a) H)/\(ys≠[]->∀p,H p=none->Q (.ref p) (upd H p (.tup (xs++ys))))
def Vals.v9{xs:List V}{us:List Value}(r:Vals xs us):us=[]↔xs=[]:=by
 cases r with
 |nil=>simp
 |cons _ _=>simp
def Nt:OpR X (binaryOp .Add) (Us X.K):=by
 intro pins s σ H x y v u Q I rx ry h
 obtain⟨a,b,xs,ys,rfl,rfl,ha,hb,hx,hz,q1,q2⟩:=h
 cases rx
 cases ry
 obtain⟨its,r1,p1,_⟩:=I.tuple ha
 obtain⟨its2,r2,p2,_⟩:=I.tuple hb
 refine HT.Pa p1 p2 (λz=>hx (r1.v9.mp z)) (λz=>⟨.ref a,H,I,rfl,q1 (r2.v9.mp z)⟩) (λz=>?_) (by rw[←r1.length,←r2.length];exact hz)
 refine⟨.ref s.heap.objs.size,_,I.laid (t':=s.toks) (o:=.tup (xs++ys)) (λb ob q=>Î _ q) (Ô _) ?_,rfl,q2 (λw=>z (r2.v9.mpr w)) _ (I.hok.fresh (Ô _))⟩
 exact⟨by rw[Í];exact hz,_,r1.append r2,IsTup.new _ _⟩
end
def ixN(n:Nat)(i:Int):Option Nat:=if 0<=i then (if i<n then some i.toNat else none) else if -(n:Int)<=i then some (i+n).toNat else none
def atI{α:Type}(xs:List α)(i:Int):Option α:=(ixN xs.length i).bind λj=>xs[j]?
def wC{n:Nat}{i:Int}{j:Nat}(h:ixN n i=some j):seqIndex? i n=some j/\j<n/\-(n:Int)<=i/\i<n:=by
 unfold ixN at h
 by_cases h0:0<=i
 ·rw[if_pos h0] at h
  by_cases h1:i<n
  ·rw[if_pos h1] at h
   have e:i.toNat=j:=Ø h
   exact⟨by rw[seqIndex_of h0 h1,e],by omega,by omega,h1⟩
  ·rw[if_neg h1] at h;cases h
 ·rw[if_neg h0] at h
  by_cases h1:-(n:Int)<=i
  ·rw[if_pos h1] at h
   have e:(i+n).toNat=j:=Ø h
   exact⟨by rw[seqIndex_neg (by omega) h1,e],by omega,h1,by omega⟩
  ·rw[if_neg h1] at h;cases h
def Gf{α:Type}{xs:List α}{i:Int}{v:α}(h:atI xs i=some v):∃j,seqIndex? i xs.length=some j/\xs[j]?=some v/\j<xs.length/\-(xs.length:Int)<=i/\i<xs.length:=by
 unfold atI at h
 cases e:ixN xs.length i with
 |none=>rw[e] at h;cases h
 |some j =>
  rw[e] at h
  obtain⟨h1,h2,h3,h4⟩:=wC e
  exact⟨j,h1,h,h2,h3,h4⟩
def bK{α:Type}{xs:List α}{j:Nat}{v:α}(h:xs[j]?=some v):atI xs (j:Int)=some v:=by
 have hj:j<xs.length:=(Ç.mp h).1
 have e:ixN xs.length (j:Int)=some j:=by
  unfold ixN
  rw[if_pos (by omega),if_pos (by omega)];simp
 unfold atI;rw[e];exact h
def Lw{α:Type}(xs:List α)(v:α):atI (xs++[v]) (-1)=some v:=by
 have hl:(xs++[v]).length=xs.length+1:=by simp
 have e:ixN (xs++[v]).length (-1)=some xs.length:=by
  unfold ixN
  rw[hl,if_neg (by decide),if_pos (by omega)]
  congr 1
  omega
 unfold atI
 rw[e]
 show(xs++[v])[xs.length]?=some v
 simp
def qp(b:Expr):Prop:=∀o i,subscripted b false o i=operate [o,i] (getItem o i)
def IxR(X:Cx)(r:R2):Prop :=
 ∀(value slice:Expr) (pins:List (Addr×Obj)) (s:Shared) (σ:St) (H:Hp) (x y:V) (v u:Value) (Q:VK),Inv X pins σ H s->RelV x v->RelV y u->r x y H Q ->
  subscripted slice false v u=operate [v,u] (getItem v u)->wpAny (model X.prog X.w) X.A (subscriptTail value slice v u) (EP X pins σ Q) X.xe s
def MtR(X:Cx)(id:String)(r:V->List V->Hp->VK->Prop):Prop :=
 ∀(pins:List (Addr×Obj)) (s:Shared) (σ:St) (H:Hp) (x:V) (xs:List V) (v:Value) (us:List Value) (Q:VK),Inv X pins σ H s->RelV x v->Vals xs us->r x xs H Q ->
  wpAny (model X.prog X.w) X.A (call (.builtin id) (v::us)) (EP X pins σ Q) X.xe s
section
variable {X:Cx}{a b:Expr}{ta tb:TE}{pos:Pos}
def IxR.or{r r':R2}(h:IxR X r)(h':IxR X r'):IxR X (λx y H Q=>r x y H Q\/r' x y H Q):=by
 intro value slice pins s σ H x y v u Q I rx ry q hs
 rcases q with q|q
 ·exact h value slice pins s σ H x y v u Q I rx ry q hs
 ·exact h' value slice pins s σ H x y v u Q I rx ry q hs
def iG{r:R2}(hr:IxR X r)(ha:PE X a ta)(hb:PE X b tb)(hs:qp b):PE X (.Subscript a b pos) (tOp r ta tb):=by
 intro pins s σ H Q I h
 exact Subscript_ (Tv ha hb I h λv u s2 x y H2 I2 rx ry q=>hr a b pins s2 σ H2 x y v u Q I2 rx ry q (hs _ _))
def Ur(K:Ý):R2:=λx y H Q=>∃p xs i v,x=.ref p/\y=.int i/\SqL K H p xs/\atI xs i=some v/\Q v H
def Wc(K:Ý):R2:=λx y H Q=>∃p xs i v,x=.ref p/\y=.int i/\SqT K H p xs/\atI xs i=some v/\Q v H
def cQ:IxR X (Ur X.K):=by
 intro value slice pins s σ H x y v u Q I rx ry h hs
 obtain⟨p,xs,i,z,rfl,rfl,hq,he,q⟩:=h
 cases rx
 obtain⟨t,rfl⟩:=ry
 obtain⟨its,r,pl,hz⟩:=I.list hq
 obtain⟨j,h1,h2,h3,h4,h5⟩:=Gf he
 obtain⟨w,ew,rw'⟩:=r.get h2
 have hl:=r.length
 have hn:=rY
 have fin:EP X pins σ Q w s:=⟨z,H,I,rw',q⟩
 by_cases h0:0<=i
 ·have hj:i.toNat=j:=by
   rw[seqIndex_of h0 h5] at h1
   exact Ø h1
  exact item_listR pl.isList h0 (by omega) (by rw[hj];simpa using ew) fin hs
 ·have hj:(i+(its.toArray.size:Int)).toNat=j:=by
   rw[seqIndex_neg (by omega) h4] at h1
   rw[Ò,←hl]
   exact Ø h1
  exact subscriptTail_builtinR (x:=w) pl.isList.typeIs slot_list_getitem.lookup
   (wpAny_getItem_list_neg (Q:=λr s'=>r=w/\EP X pins σ Q r s') pl.isList (by omega) (by rw[Ò] <;> omega) (by omega) (by rw[hj];simpa using ew) ⟨rfl,fin⟩) hs
def Sy:IxR X (Wc X.K):=by
 intro value slice pins s σ H x y v u Q I rx ry h hs
 obtain⟨p,xs,i,z,rfl,rfl,hq,he,q⟩:=h
 cases rx
 obtain⟨t,rfl⟩:=ry
 obtain⟨its,r,pl,hz⟩:=I.tuple hq
 obtain⟨j,h1,h2,h3,h4,h5⟩:=Gf he
 obtain⟨w,ew,rw'⟩:=r.get h2
 have hl:=r.length
 have hn:=rY
 have fin:EP X pins σ Q w s:=⟨z,H,I,rw',q⟩
 exact subscriptTail_builtinR (x:=w) pl.typeIs slot_tuple_getitem.lookup
  (getItem_tuple (j:=j) (Q:=λr s'=>r=w/\EP X pins σ Q r s') pl (by omega) (by omega) (by rw[Ò,←hl];exact h1) (by simpa using ew) ⟨rfl,fin⟩) hs
def Ca(its:List Value)(n j:Nat)(u:Value):ô (·.setIfInBounds j u) { cls:=.type "list",data:=.seq its.toArray n }={ cls:=.type "list",data:=.seq (its.set j u).toArray n }:=by
 simp[ô]
def Inv.lst{pins:List (Addr×Obj)}{σ:St}{H:Hp}{s:Shared}{p:Addr}{xs:List V}(I:Inv X pins σ H s)(h:H p=some (.lst xs)) :
  ∃(its:List Value) (n:Nat),Vals xs its/\s.heap.get? p=some { cls:=.type "list",data:=.seq its.toArray n }/\xs.length<=sizeLine:=by
 obtain⟨z,its,n,r,e⟩:=I.hok p _ h
 exact⟨its,n,r,e,z⟩
def Inv.Sg{pins:List (Addr×Obj)}{σ:St}{H:Hp}{s:Shared}{p:Addr}{xs ys:List V}{its its':List Value}{n n':Nat}{f:Obj->Obj}(I:Inv X pins σ H s)(h:H p=some (.lst xs))(ho:s.heap.get? p=some { cls:=.type "list",data:=.seq its.toArray n })(hf:f { cls:=.type "list",data:=.seq its.toArray n }={ cls:=.type "list",data:=.seq its'.toArray n' })(r:Vals ys its')(hz:ys.length<=sizeLine)(t:Nat) :
  Inv X pins σ (upd H p (.lst ys)) { s with heap:=s.heap.update p f,toks:=t }:=by
 have e:(s.heap.update p f).get? p=some { cls:=.type "list",data:=.seq its'.toArray n' }:=by
  rw[ň f ho (by rw[hf] <;> rfl),hf]
 refine I.write (x:=p) (e:=p) (by rw[h];trivial) (.inl rfl) (λb u hb q=>(ĭ _ _ (ġ hb)).trans q) ⟨_,e⟩ ?_
 exact⟨hz,its',n',r,e⟩
def P0:V->V->V->Hp->(Hp->Prop)->Prop:=λo i v H Q=>∃p xs k j,o=.ref p/\i=.int k/\H p=some (.lst xs)/\ixN xs.length k=some j/\Q (upd H p (.lst (xs.set j v)))
def set_list:VH X P0:=by
 intro pins s σ H o i v ov iv u Q I ro ri rv h
 obtain⟨p,xs,k,j,rfl,rfl,hp,hj,q⟩:=h
 cases ro
 obtain⟨t,rfl⟩:=ri
 obtain⟨its,n,r,ho,hz⟩:=I.lst hp
 obtain⟨h1,h2,h3,h4⟩:=wC hj
 have hl:=r.length
 have hn:=rY
 have I':Inv X pins σ (upd H p (.lst (xs.set j v))) { s with heap:=s.heap.update p (ô (·.setIfInBounds j u)) } :=
  I.Sg hp ho (Ca its n j u) (r.set rv j) (by rw[Ż];exact hz) s.toks
 by_cases h0:0<=k
 ·have hk:k.toNat=j:=by
   rw[seqIndex_of h0 h4] at h1
   exact Ø h1
  exact W.ki_setAt ho h0 (by omega) (by rw[Ò,←hl];exact h4) (by rw[hk];exact⟨_,I',q⟩)
 ·have hk:(k+(its.toArray.size:Int)).toNat=j:=by
   rw[seqIndex_neg (by omega) h3] at h1
   rw[Ò,←hl]
   exact Ø h1
  exact W.ki_setBack ho (by omega) (by rw[Ò,←hl];exact h3) (by omega) (by rw[hk];exact⟨_,I',q⟩)
def vg(lo hi:Option Int)(n:Nat):(sliceBounds lo hi none n).1=((HT.sIx n 0 lo:Nat):Int)/\(sliceBounds lo hi none n).2.1=((HT.sIx n n hi:Nat):Int)/\(sliceBounds lo hi none n).2.2=1:=by
 refine⟨?_,?_,rfl⟩
 ·cases lo with
  |none=>simp[sliceBounds,HT.sIx]
  |some i =>
   simp only[sliceBounds,HT.sIx,Option.getD_none,show(1:Int) > 0 by decide,if_true]
   by_cases h:i<0
   ·simp only[h,if_true] <;> omega
   ·simp only[h,if_false] <;> omega
 ·cases hi with
  |none=>simp[sliceBounds,HT.sIx]
  |some i =>
   simp only[sliceBounds,HT.sIx,Option.getD_none,show(1:Int) > 0 by decide,if_true]
   by_cases h:i<0
   ·simp only[h,if_true] <;> omega
   ·simp only[h,if_false] <;> omega
def tW(its:List Value)(lo hi:Option Int):slicePick its.toArray lo hi none=((its.drop (HT.sIx its.length 0 lo)).take (HT.sIx its.length its.length hi - HT.sIx its.length 0 lo)).toArray:=by
 obtain⟨h1,h2,h3⟩:=vg lo hi its.toArray.size
 unfold slicePick
 rw[h1,h2,h3]
 simp only[sliceRange_one,pick_run,Ò] <;> rfl
def Wa(K:Ý):V->Option Int->Option Int->Hp->VK->Prop:=λx lo hi H Q=>∃a xs,x=.ref a/\SqL K H a xs/\∀p,H p=none->Q (.ref p) (upd H p (.lst (sZ xs lo hi)))
def Eb:SlR X (Wa X.K):=by
 intro pins s σ H x v vl vu lo hi sl Q I rx hs pl pu h
 obtain⟨a,xs,rfl,hx,q⟩:=h
 cases rx
 obtain⟨its,r,ht,hz⟩:=I.list hx
 have hlen:=r.length
 refine⟨"list",_,slot_list_getitem.lookup,ht.isList.typeIs,?_⟩
 refine wpAny_getItem_list_slice ht.isList hs pl pu .none (by simp) ?_ (by rw[Ò] <;> omega)
 rw[tW,←hlen]
 refine⟨.ref s.heap.objs.size,_,I.laid (t':=s.toks) (o:=.lst (sZ xs lo hi)) (λb ob q=>Î _ q) (Ô _) ?_,rfl,q _ (I.hok.fresh (Ô _))⟩
 exact⟨õ (pA xs lo hi) hz,_,0,(r.drop (HT.sIx xs.length 0 lo)).take (HT.sIx xs.length xs.length hi - HT.sIx xs.length 0 lo),Þ _ rfl⟩
def dU:aP X (.builtin "len") (λxs H Q=>∃p ys,xs=[.ref p]/\(SqL X.K H p ys\/SqT X.K H p ys)/\Q (.int ys.length) H):=by
 intro pins s σ H xs us Q I r h
 obtain⟨p,ys,rfl,hq,q⟩:=h
 obtain⟨u,rfl,rx⟩:=vals1 r
 cases rx
 have hn:=rY
 rcases hq with hq|hq
 ·obtain⟨its,r',pl,hz⟩:=I.list hq
  have hlen:=r'.length
  exact Calls.call_len_list pl.isList (by simp only[Ò] <;> omega) ⟨.int ys.length,H,I.tok _,⟨s.toks+1,by rw[Ò,hlen]⟩,q⟩
 ·obtain⟨its,r',pl,hz⟩:=I.tuple hq
  have hlen:=r'.length
  exact len_tuple pl (by simp only[Ò] <;> omega) ⟨.int ys.length,H,I.tok _,⟨s.toks+1,by rw[Ò,hlen]⟩,q⟩
def wZ:aP X (.type "list") (λxs H Q=>∃p ys,xs=[.ref p]/\(SqL X.K H p ys\/SqT X.K H p ys)/\∀l,H l=none->Q (.ref l) (upd H l (.lst ys))):=by
 intro pins s σ H xs us Q I r h
 obtain⟨p,ys,rfl,hq,q⟩:=h
 obtain⟨u,rfl,rx⟩:=vals1 r
 cases rx
 have fin:∀(its:List Value),Vals ys its->ys.length<=sizeLine->∀(h':Heap) (c':Nat),(∀b o',s.heap.get? b=some o'->h'.get? b=some o') ->
   h'.get? s.heap.objs.size=some { cls:=.type "list",dict:=none,data:=.seq its.toArray c',slots:=#[] }->EP X pins σ Q (.ref s.heap.objs.size) { s with heap:=h' }:=λits r' hz h' c' kp e =>
  ⟨.ref s.heap.objs.size,_,I.laid (t':=s.toks) kp (Ô _) (show bf X.prog X.w _ h' _ (.lst ys) from⟨hz,its,c',r',e⟩),rfl,q _ (I.hok.fresh (Ô _))⟩
 rcases hq with hq|hq
 ·obtain⟨its,r',pl,hz⟩:=I.list hq
  have hlen:=r'.length
  obtain⟨o,ho,hc,n,hd⟩:=pl.isList
  exact call_list_seq p (.inl rfl) ho hc hd (λh' c' kp e=>fin its r' hz h' c' kp e) (by simp only[Ò] <;> omega)
 ·obtain⟨its,r',pl,hz⟩:=I.tuple hq
  have hlen:=r'.length
  obtain⟨o,ho,hc,n,hd⟩:=pl
  exact call_list_seq p (.inr rfl) ho hc hd (λh' c' kp e=>fin its r' hz h' c' kp e) (by simp only[Ò] <;> omega)
def uc:aP X (.type "tuple") (λxs H Q=>∃p ys,xs=[.ref p]/\((SqL X.K H p ys/\∀l,H l=none->Q (.ref l) (upd H l (.tup ys)))\/(SqT X.K H p ys/\Q (.ref p) H))):=by
 intro pins s σ H xs us Q I r h
 obtain⟨p,ys,rfl,h⟩:=h
 obtain⟨u,rfl,rx⟩:=vals1 r
 cases rx
 rcases h with ⟨hq,q⟩|⟨hq,q⟩
 ·obtain⟨its,r',pl,hz⟩:=I.list hq
  have hlen:=r'.length
  refine call_tuple_list pl.isList (λh' kp=>?_) (by simp only[Ò] <;> omega)
  have I1:Inv X pins σ H { s with heap:=h' }:=I.kept (t':=s.toks) kp
  have I2:Inv X pins σ (upd H h'.objs.size (.tup ys)) { s with heap:=h'.push { cls:=.type "tuple",data:=.seq its.toArray } } :=
   I1.laid (t':=s.toks) (λb o e=>Î _ e) (Ô _) (show bf X.prog X.w _ _ _ (.tup ys) from⟨hz,its,r',IsTup.new _ _⟩)
  exact⟨.ref h'.objs.size,_,I2,rfl,q _ (I1.hok.fresh (Ô _))⟩
 ·obtain⟨its,r',pl,hz⟩:=I.tuple hq
  exact call_tuple_same pl ⟨.ref p,H,I,rfl,q⟩
def tyV(K:Ý)(T:String)(x:V)(H:Hp):Prop:=match x with
 |.str _=>T="str"
 |.int _=>T="int"
 |.ref p=>(T="list"/\∃xs,SqL K H p xs)\/(T="tuple"/\∃o,K.lookup p=some o/\o.cls=.type "tuple"/\o.dict=none) ∨
   (T="dict"/\((∃kvs,H p=some (.dK kvs))\/∃kvs,H p=some (.dT kvs)))\/(T="set"/\∃S n,H p=some (.set S n))
 |_=>False
def Io{pins:List (Addr×Obj)}{σ:St}{H:Hp}{s:Shared}{T:String}{x:V}{v:Value}(I:Inv X pins σ H s)(r:RelV x v)(ty:tyV X.K T x H) :
  s.TypeIs v T/\∀a,v=.ref a->∃ob,s.heap.get? a=some ob/\ob.dict=none:=by
 cases x with
 |str z =>
  obtain⟨t,rfl⟩:=r
  cases (show T="str" from ty)
  exact⟨typeIs_str s z t,λ_ e=>nomatch e⟩
 |int i =>
  obtain⟨t,rfl⟩:=r
  cases (show T="int" from ty)
  exact⟨typeIs_int s i t,λ_ e=>nomatch e⟩
 |ref p =>
  cases r
  rcases ty with ⟨rfl,xs,hq⟩|⟨rfl,o,hk,hc,hd⟩|⟨rfl,hk⟩|⟨rfl,S,n,hk⟩
  ·obtain⟨its,_,pl,_⟩:=I.list hq
   refine⟨pl.isList.typeIs,λa e=>?_⟩
   cases e
   obtain⟨o,n,e,c,hd,_⟩:=pl
   exact⟨o,e,hd⟩
  ·refine⟨⟨o,I.kIn p o hk,hc⟩,λa e=>?_⟩
   cases e
   exact⟨o,I.kIn _ o hk,hd⟩
  ·have z:∃o,s.heap.get? p=some o/\o.ExactDict:=by
    rcases hk with ⟨kvs,hk⟩|⟨kvs,hk⟩
    ·obtain⟨_,_,_,_,o,_,_,e,ex,_⟩:=I.hok p _ hk
     exact⟨o,e,ex⟩
    ·obtain⟨_,_,_,_,o,_,_,e,ex,_⟩:=I.hok p _ hk
     exact⟨o,e,ex⟩
   obtain⟨o,e,ex⟩:=z
   refine⟨⟨o,e,ex.1⟩,λa e2=>?_⟩
   cases e2
   exact⟨o,e,ex.2.1⟩
  ·obtain⟨o,_,_,_,e,ex,_⟩:=I.hok p _ hk
   refine⟨⟨o,e,ex.1⟩,λa e2=>?_⟩
   cases e2
   exact⟨o,e,ex.2.1⟩
 |_=>exact Ũ ty
def Uh(K:Ý)(T:String)(r:V->List V->Hp->VK->Prop)(to:TE):TE:=λσ H Q=>to σ H λx H1=>tyV K T x H1/\r x [] H1 Q
def tBM(K:Ý)(T:String)(r:V->List V->Hp->VK->Prop)(to:TE)(t:TA):TE:=λσ H Q=>to σ H λx H1=>tyV K T x H1/\t σ H1 λxs H2=>r x xs H2 Q
variable {o e:Expr}{es:List Expr}{to:TE}{t:TA}{name:Str}{apos cpos:Pos}{T id:String}{r:V->List V->Hp->VK->Prop}
def RK(pa:PlainAttrs T)(slot:Slot T name id)(hty:typeOf (.builtin id)=pure (.type "method_descriptor"))(hm:MtR X id r)(ho:PE X o to)(hbase:attributeBase o name X.env (eval o X.env)=eval o X.env:=by rfl)(hline:(apos.endLine == cpos.line)=true:=by rfl):PE X (.Call (.Attribute o name apos) [] [] cpos) (Uh X.K T r to):=by
 intro pins s σ H Q I h
 refine wpAny_Call_method0_late hbase hline (thn (ho pins s σ H _ I h) λv s1 ⟨x,H1,I1,r1,ty,q1⟩=>?_)
 obtain⟨h1,h2⟩:=Io I1 r1 ty
 exact⟨T,id,pa,slot,hty,h1,h2,Calls.callWith_builtin rfl (PySem.evalArgs_none (hm pins s1 σ H1 x [] v [] Q I1 r1 .nil q1))⟩
def yw(pa:PlainAttrs T)(slot:Slot T name id)(hty:typeOf (.builtin id)=pure (.type "method_descriptor"))(hm:MtR X id r)(ho:PE X o to)(ha:PA X (e::es) t)(hbase:attributeBase o name X.env (eval o X.env)=eval o X.env:=by rfl)(hfew:((backTo cpos (starEach (e::es) X.env)).all (λx=>!x.1)&&(backToKw cpos (keywordEach [] X.env)).all (λx=>x.1.isSome)
  &&decide ((e::es).length+([]:List Keyword).length+(if ([]:List Keyword).isEmpty then 0 else 1)<30))=true:=by rfl)(hline:(apos.endLine == cpos.line)=true:=by rfl)(hs:starEach (e::es) X.env=(false,eval e X.env)::starEach es X.env:=by rfl)(hplain:(backTo cpos (starEach es X.env)).any (·.1)=false:=by rfl) :
  PE X (.Call (.Attribute o name apos) (e::es) [] cpos) (tBM X.K T r to t):=by
 intro pins s σ H Q I h
 refine wpAny_Call_method_late hbase hfew hline rfl (thn (ho pins s σ H _ I h) λv s1 ⟨x,H1,I1,r1,ty,q1⟩=>?_)
 obtain⟨h1,h2⟩:=Io I1 r1 ty
 refine⟨T,id,pa,slot,hty,h1,h2,?_⟩
 have hA:=ha cpos pins s1 σ H1 _ I1 q1
 rw[hs] at hA ⊢
 refine Calls.callWith_builtin (by show(false || (backTo cpos (starEach es X.env)).any (·.1))=false;rw[hplain] <;> rfl) (Calls.evalArgs_plain ?_)
 exact thn hA λus s2 ⟨vs,H2,I2,r2,q2⟩=>hm pins s2 σ H2 x vs v us Q I2 r1 r2 q2
/- xs.append(e),list.index on a module's tuple .. are MtR facts of 06m -/
end
def MtM(X:Cx)(id:String)(r:V->List V->Hp->VK->Prop):Prop :=
 ∀(pins:List (Addr×Obj)) (s:Shared) (σ:St) (H:Hp) (x:V) (xs:List V) (v:Value) (us:List Value) (Q:VK),Inv X pins σ H s->RelV x v->Vals xs us->r x xs H Q ->
  wpAny (model X.prog X.w) X.A (call (.builtin id) (v::us)) (EP X pins σ Q) X.xe s
theorem Vals.one:∀{x:V}{us:List Value},Vals [x] us->∃u,us=[u]/\RelV x u
 |_,_,.cons r .nil=>⟨_,rfl,r⟩
theorem Vals.two:∀{x y:V}{us:List Value},Vals [x,y] us->∃u v,us=[u,v]/\RelV x u/\RelV y v
 |_,_,_,.cons r (.cons q .nil)=>⟨_,_,rfl,r,q⟩
theorem Vals.zero:∀{us:List Value},Vals [] us->us=[]
 |_,.nil=>rfl
def Vals.dropLast{xs:List V}{us:List Value}(h:Vals xs us):Vals xs.dropLast us.dropLast:=by
 induction h with
 |nil=>exact .nil
 |cons r t ih =>
  cases t with
  |nil=>exact .nil
  |cons q t'=>exact .cons r ih
theorem Vals.eraseIdx:∀{xs:List V}{us:List Value} (i:Nat),Vals xs us->Vals (xs.eraseIdx i) (us.eraseIdx i)
 |_,_,_,.nil=>.nil
 |_,_,0,.cons _ t=>t
 |_,_,i+1,.cons r t=>.cons r (Vals.eraseIdx i t)
def Vals.reverse{xs:List V}{us:List Value}(h:Vals xs us):Vals xs.reverse us.reverse:=by
 induction h with
 |nil=>exact .nil
 |cons r t ih=>rw[List.reverse_cons,List.reverse_cons];exact Vals.append ih (.cons r .nil)
theorem Vals.rep{xs:List V}{us:List Value}(h:Vals xs us):∀k:Nat,Vals (Ú k xs).flatten (Ú k us).flatten
 |0=>.nil
 |k+1=>by
  rw[Ř,Ř,List.flatten_cons,List.flatten_cons]
  exact Vals.append h (Vals.rep h k)
def CG{α:Type}(l:List α):l.eraseIdx (l.length - 1)=l.dropLast:=by
 induction l with
 |nil=>rfl
 |cons a r ih =>
  cases r with
  |nil=>rfl
  |cons b r =>
   have e:(a::b::r).length - 1=((b::r).length - 1)+1:=by
    have h1:(a::b::r).length=r.length+2:=rfl
    have h2:(b::r).length=r.length+1:=rfl
    omega
   rw[e,List.eraseIdx_cons_succ,ih]
   all_goals rfl
theorem uL{α:Type}:∀(l:List α) (i:Nat),(l.eraseIdx i).length<=l.length
 |[],_=>Ô _
 |_::_,0=>Ň _
 |_::r,i+1=>Nat.succ_le_succ (uL r i)
theorem foldl_rep(its:List Value):∀(k:Nat) (acc:List Value),
  List.foldl (λx1 x2=>x1++x2) acc.toArray (Ú k its.toArray)=(acc++(Ú k its).flatten).toArray
 |0,acc=>by simp
 |k+1,acc=>by
  have e:acc.toArray++its.toArray=(acc++its).toArray:=by simp
  have e2:(acc++its)++(Ú k its).flatten=acc++(Ú (k+1) its).flatten:=by
   rw[Ř,List.flatten_cons,List.append_assoc]
  rw[←e2,←foldl_rep its k (acc++its),←e,Ř,List.foldl_cons]
section
variable {X:Cx}{pins:List (Addr×Obj)}{σ:St}{H:Hp}{s:Shared}{l b:Addr}{xs ys zs:List V}
def Inv.GZ{its its':List Value}{n:Nat}{f:Array Value->Array Value}{t':Nat}(I:Inv X pins σ H s)(hH:H l=some (.lst xs))(e:s.heap.get? l=some { cls:=.type "list",data:=.seq its.toArray n })(hf:f its.toArray=its'.toArray)(hv:Vals ys its')(hz:ys.length<=sizeLine) :
  Inv X pins σ (upd H l (.lst ys)) { s with heap:=s.heap.update l (ô f),toks:=t' }:=by
 have q:=PySem.IsL.update e f
 rw[hf] at q
 refine I.write (x:=l) (e:=l) (by rw[hH];exact trivial) (.inl rfl) (λb' u hb hu=>(ĭ s.heap (ô f) (ġ hb)).trans hu) ⟨_,q⟩ ?_
 exact⟨hz,its',_,hv,q⟩
def Inv.U8{its:List Value}{t':Nat}(I:Inv X pins σ H s)(hv:Vals ys its)(hz:ys.length<=sizeLine) :
  Inv X pins σ (upd H s.heap.objs.size (.lst ys)) { s with heap:=s.heap.push { cls:=.type "list",data:=.seq its.toArray },toks:=t' } :=
 I.laid (λ_ _ q=>Î _ q) (Ô _) ⟨hz,its,0,hv,Þ _ rfl⟩
def Inv.fresh(I:Inv X pins σ H s):H s.heap.objs.size=none:=I.hok.fresh (Ô _)
def Inv.tZ(I:Inv X pins σ H s)(hH:H l=some (.lst xs)):xs.length<=sizeLine/\∃(its:List Value) (n:Nat),Vals xs its/\xs.length=its.length/\s.heap.get? l=some { cls:=.type "list",data:=.seq its.toArray n }:=by
 obtain⟨z,its,n,r,e⟩:=I.hok l _ hH
 exact⟨z,its,n,r,r.length,e⟩
def yN{n:Nat}(h:n<=sizeLine):Builtin.List.listTooLong n=false:=by
 unfold Builtin.List.listTooLong
 exact decide_eq_false (by omega)
end
section
variable {X:Cx}
def vm:V->List V->Hp->VK->Prop:=λx vs H Q=>∃l xs y,x=.ref l/\vs=[y]/\H l=some (.lst xs)/\xs.length<sizeLine/\Q .non (upd H l (.lst (xs++[y])))
def uK:MtM X "list.append" vm:=by
 intro pins s σ H x vs v us Q I rx rv h
 obtain⟨l,xs,y,rfl,rfl,hH,hz,q⟩:=h
 cases rx
 obtain⟨u,rfl,ru⟩:=rv.one
 obtain⟨z,its,n,r,hl,e⟩:=I.tZ hH
 refine call_meets F.slot_list_append ⟨_,e,rfl⟩ F.entry_list_append (F.args_list_append_2 _ _) (PySem.list_append l its.toArray n u (by rw[Ò];omega)) ⟨e,?_⟩
 refine⟨.non,_,I.GZ (its':=its++[u]) hH e (by simp) (r.append (.cons ru .nil)) ?_,rfl,q⟩
 rw[Í,è]
 omega
def MF:V->List V->Hp->VK->Prop:=λx vs H Q=>∃l b xs zs,x=.ref l/\vs=[.ref b]/\H l=some (.lst xs)/\H b=some (.lst zs)/\xs.length+zs.length<=sizeLine/\Q .non (upd H l (.lst (xs++zs)))
def TQ:MtM X "list.extend" MF:=by
 intro pins s σ H x vs v us Q I rx rv h
 obtain⟨l,b,xs,zs,rfl,rfl,hH,hB,hz,q⟩:=h
 cases rx
 obtain⟨u,rfl,ru⟩:=rv.one
 cases ru
 obtain⟨z,its,n,r,hl,e⟩:=I.tZ hH
 obtain⟨z2,its2,n2,r2,hl2,e2⟩:=I.tZ hB
 have hsz:its.toArray.size+its2.toArray.size<=sizeLine:=by rw[Ò,Ò];omega
 have hlong:¬(!its.toArray.isEmpty&&Builtin.List.listTooLong (its.toArray.size+its2.toArray.size))=true:=by
  rw[yN hsz,Bool.and_false]
  exact Ó
 refine call_meets F.slot_list_extend ⟨_,e,rfl⟩ F.entry_list_extend (F.args_list_extend_2 _ _)
  (AutoSeq1.list_extend_list_list_0 l its.toArray n b its2.toArray n2 hlong (by rw[Ò];omega) (by omega)) ⟨e,e2,?_⟩
 refine⟨.non,_,I.GZ (its':=its++its2) hH e (by simp) (r.append r2) ?_,rfl,q⟩
 rw[Í]
 omega
def Wb:V->List V->Hp->VK->Prop:=λx vs H Q=>∃l xs y,x=.ref l/\vs=[]/\H l=some (.lst xs)/\xs[xs.length - 1]?=some y/\Q y (upd H l (.lst xs.dropLast))
def Wi:MtM X "list.pop" Wb:=by
 intro pins s σ H x vs v us Q I rx rv h
 obtain⟨l,xs,y,rfl,rfl,hH,hy,q⟩:=h
 cases rx
 have hus:=rv.zero
 subst hus
 obtain⟨z,its,n,r,hl,e⟩:=I.tZ hH
 obtain⟨u,hu,ru⟩:=r.get hy
 have hy':its.toArray[its.toArray.size - 1]?=some u:=by
  show its.toArray[its.length - 1]?=some u
  rw[←Array.getElem?_toList,←hl]
  exact hu
 refine call_meets F.slot_list_pop ⟨_,e,rfl⟩ F.entry_list_pop (F.args_list_pop_1 _) (MeetsSeq.list_pop_last l its.toArray n u hy' (by rw[Ò];omega)) ⟨e,?_⟩
 refine⟨y,_,I.GZ (its':=its.dropLast) hH e ?_ r.dropLast ?_,ru,q⟩
 ·show its.toArray.eraseIdxIfInBounds (its.toArray.size - 1)=its.dropLast.toArray
  rw[Ò,List.eraseIdxIfInBounds_toArray,CG]
 ·rw[List.length_dropLast]
  omega
def Jm:V->List V->Hp->VK->Prop:=λx vs H Q=>∃l xs i k y,x=.ref l/\vs=[.int i]/\H l=some (.lst xs)/\-(2 ^ 63)<=i/\i<2 ^ 63/\seqIndex? i xs.length=some k/\xs[k]?=some y/\Q y (upd H l (.lst (xs.eraseIdx k)))
def J1:MtM X "list.pop" Jm:=by
 intro pins s σ H x vs v us Q I rx rv h
 obtain⟨l,xs,i,k,y,rfl,rfl,hH,h1,h2,hk,hy,q⟩:=h
 cases rx
 obtain⟨u,rfl,ru⟩:=rv.one
 obtain⟨t,rfl⟩:=ru
 obtain⟨z,its,n,r,hl,e⟩:=I.tZ hH
 obtain⟨w,hw,rw'⟩:=r.get hy
 refine call_meets F.slot_list_pop ⟨_,e,rfl⟩ F.entry_list_pop (F.args_list_pop_2 _ _)
  (MeetsSeq.list_pop_at l its.toArray n i t k w (fitsIndex_both h1 h2) (by rw[Ò,←hl];exact hk) (by rw[←Array.getElem?_toList];exact hw) (by rw[Ò];omega)) ⟨e,?_⟩
 refine⟨y,_,I.GZ (its':=its.eraseIdx k) hH e ?_ (r.eraseIdx k) ?_,rw',q⟩
 ·show its.toArray.eraseIdxIfInBounds k=(its.eraseIdx k).toArray
  rw[List.eraseIdxIfInBounds_toArray]
 ·have:=uL xs k
  omega
def yq:V->List V->Hp->VK->Prop:=λx vs H Q=>∃l xs,x=.ref l/\vs=[]/\H l=some (.lst xs)/\Q .non (upd H l (.lst xs.reverse))
def BW:MtM X "list.reverse" yq:=by
 intro pins s σ H x vs v us Q I rx rv h
 obtain⟨l,xs,rfl,rfl,hH,q⟩:=h
 cases rx
 have hus:=rv.zero
 subst hus
 obtain⟨z,its,n,r,hl,e⟩:=I.tZ hH
 refine call_meets F.slot_list_reverse ⟨_,e,rfl⟩ F.entry_list_reverse (F.args_list_reverse_1 _) (AutoSeq1.list_reverse_list_0 l its.toArray n (by rw[Ò];omega)) ⟨e,?_⟩
 refine⟨.non,_,I.GZ (its':=its.reverse) hH e (by simp) r.reverse ?_,rfl,q⟩
 rw[ĳ]
 omega
def Ut:R2:=λx y H Q=>∃l b xs zs,x=.ref l/\y=.ref b/\H l=some (.lst xs)/\H b=some (.lst zs)/\xs.length+zs.length<=sizeLine/\∀p,H p=none->Q (.ref p) (upd H p (.lst (xs++zs)))
def RX:OpR X (binaryOp .Add) Ut:=by
 intro pins s σ H x y v u Q I rx ry h
 obtain⟨l,b,xs,zs,rfl,rfl,hH,hB,hz,q⟩:=h
 cases rx
 cases ry
 obtain⟨z,its,n,r,hl,e⟩:=I.tZ hH
 obtain⟨z2,its2,n2,r2,hl2,e2⟩:=I.tZ hB
 refine PySem.P.add_list e e2 ?_ (by rw[Ò,Ò];omega)
 have ea:its.toArray++its2.toArray=(its++its2).toArray:=by simp
 rw[ea]
 exact⟨.ref _,_,I.U8 (t':=s.toks) (r.append r2) (by rw[Í];omega),rfl,q _ I.fresh⟩
def Uq:R2:=λx y H Q=>∃l k xs,x=.ref l/\y=.int k/\H l=some (.lst xs)/\-(2 ^ 63)<=k/\k<2 ^ 63/\xs.length * k.toNat<=sizeLine /\
 ∀p,H p=none->Q (.ref p) (upd H p (.lst (Ú k.toNat xs).flatten))
def len_rep{α:Type}(xs:List α)(k:Nat):(Ú k xs).flatten.length=k * xs.length:=by
 induction k with
 |zero=>simp
 |succ k ih=>rw[Ř,List.flatten_cons,Í,ih,Nat.succ_mul,Nat.add_comm]
def RQ:OpR X (binaryOp .Mult) Uq:=by
 intro pins s σ H x y v u Q I rx ry h
 obtain⟨l,k,xs,rfl,rfl,hH,h1,h2,hz,q⟩:=h
 cases rx
 obtain⟨t,rfl⟩:=ry
 obtain⟨z,its,n,r,hl,e⟩:=I.tZ hH
 have hlen:its.toArray.size * k.toNat<=sizeLine:=by rw[Ò,←hl];exact hz
 have hcap:¬its.toArray.size * k.toNat > (2 ^ 63 - 1) / 8:=by
  have:(sizeLine:Nat)<=(2 ^ 63 - 1) / 8:=by decide
  omega
 have hfit:¬(!Builtin.List.listFitsIndex k)=true:=by
  rw[fitsIndex_both h1 h2]
  exact Ó
 have hlong:¬Builtin.List.listTooLong (its.toArray.size * k.toNat)=true:=by
  rw[yN hlen]
  exact Ó
 have hnew:List.foldl (λx1 x2=>x1++x2) #[] (Ú (if its.toArray.isEmpty=true then 0 else k.toNat) its.toArray)=(Ú k.toNat its).flatten.toArray:=by
  have f0:∀m:Nat,List.foldl (λx1 x2=>x1++x2) #[] (Ú m its.toArray)=(Ú m its).flatten.toArray:=λm=>by
   have:=foldl_rep its m []
   rw[List.nil_append] at this
   exact this
  rw[f0]
  cases its with
  |nil=>simp
  |cons a r'=>rw[if_neg (by simp)]
 refine wpAny_binaryOp_repeat_ref (T:="list") (U:="int") (by decide) ⟨_,e,rfl⟩ (λs'=>typeIs_int s' k t) noFill_list_mul F.fills_int_mul F.slot_int_rmul repeat_list F.slot_int_index.lookup
  (call_meets F.slot_int_rmul (typeIs_int s k t) F.entry_int_rmul (F.args_int_rmul_2 _ _) (int___rmul___int_list k t l its.toArray n)
   ⟨e,rfl,⟨_,e,rfl⟩,call_meets F.slot_list_mul ⟨_,e,rfl⟩ F.entry_list_mul (F.args_list_mul_2 _ _) (AutoListH.list___mul___list_int_3 l its.toArray n k t hfit hcap hlong) ⟨e,?_⟩⟩)
 rw[hnew]
 exact⟨.ref _,_,I.U8 (t':=s.toks) (r.rep k.toNat) (by rw[len_rep,Nat.mul_comm];exact hz),rfl,q _ I.fresh⟩
end
section
variable {prog:Program}{w:World}{A:Around}{E:Value->Shared->Prop}{s:Shared}
end
section
variable {X:Cx}
end
end L2
namespace Att
open PySem PySem.W PySem.Calls PyProof.Rows
def pN{P:Params}{h:Heap}:∀(ns:List Int) (vs:List Value),WellAll P h vs (ns.map WData.int)->IntsAre vs ns:=by
 intro ns
 induction ns with
 |nil =>
  intro vs w
  rw[List.map_nil] at w
  cases w
  exact .nil
 |cons n ns ih =>
  intro vs w
  rw[ò] at w
  cases w with
  |cons a b =>
   cases a
   exact .cons _ _ (ih _ b)
def Gu{l:OpenLaw}{n:Nat}(hn:l.most=some n){P:Params}{h:Heap}{args:List WData}{vals:List Value}(hpre:l.row.toRowW.claim.pre args=true)(hwl:WellAll P h vals args) :
  ∃a vs ns,vals=[Ģ a]/\args=[WData.list (ns.map WData.int)]/\h.get? a=some { cls:=.type "list",data:=.seq vs.toArray }/\IntsAre vs ns/\ns.length<=n:=by
 have hsh:WShape.hasAll [] args [.list .int]=true:=(pre_splitW hpre).1
 have hc:l.pre.holds [] { args:=args }=true:=(pre_splitW hpre).2
 obtain⟨d,r,rfl,h1,h2⟩:=hasAllW_cons hsh
 obtain rfl:=hasAllW_nil h2
 obtain⟨xs,rfl,h3⟩:=hasW_list h1
 obtain⟨ns,rfl⟩:=items_int h3
 have hlen:ns.length<=n:=by
  unfold OpenLaw.pre at hc
  have h4:(WTm.not (.lt (.lit (.int (n:Int))) (.len (.arg 0)))).holds [] { args:=[.list (ns.map .int)] }=true:=by
   have h4:=(holds_andW hc).1
   rw[hn] at h4
   exact h4
  have h5:=condW_of h4 (w_not (w_lt w_lit (w_len_list (w_arg rfl))))
  rw[Ä] at h5
  refine Nat.le_of_not_lt λq=>?_
  have q':(n:Int)<((ns.length:Nat):Int):=by omega
  first
   |(rw[decide_eq_true q'] at h5;exact absurd h5 (by decide))
   |(simp at h5;omega)
 cases hwl with
 |cons w1 w2 =>
  cases w2
  cases w1 with
  |list ho hall=>exact⟨_,_,ns,rfl,rfl,ho,pN ns _ hall,hlen⟩
def Gx(l:OpenLaw)(args:List WData):l.row.toRowW.claim.post args (.bool true) args=true :=
 postW_of (r:=l.row.toRowW) (X:=(true == true))
  (show WShape.has [] (.bool true) .bool=true by first|rfl|decide|simp[WShape.has,WShape.arms,WShape.armsAll])
  (show(WTm.eq .res (.lit (.bool true))).value [] { args:=args,res:=some (.bool true),after:=args }=some (.bool (true == true)) from w_eq_bool (w_res rfl) w_lit) rfl
def Ae{l:OpenLaw}{n:Nat}{q:Program}{loose:List Str}{XP:(Str->Option Value)->Heap->Prop}{YP:World->Heap->Prop}{d:DefRec}(hn:l.most=some n)(hdf:d.params.defaults=[])(call:∀(w:World) (s₀ s₁:Shared) (mg mb:Str->Option Value) (fa:Addr) (o:Obj) (pm cd doc:Value) (a:Addr) (vs:List Value) (ns:List Int),
   Ground q loose [] XP w s₀ mg mb s₁.heap->YP w s₁.heap ->
   s₁.heap.get? fa=some o->o.data=.func (docDef d.name d.params d.body d.scope pm cd doc)->s₁.heap.CodeRec cd d.name->mg d.name=some (.ref fa) ->
   s₁.heap.get? a=some { cls:=.type "list",data:=.seq vs.toArray }->IntsAre vs ns->ns.length<=n->s₁.gens=#[] ->
   codeAny (model l.prog w) callerA (.call (.ref fa) ⟨[.ref a],[]⟩) (λr s'=>r=.ok (.ret (.bool true))/\OldK s₁.heap s'.heap/\s'.os=s₁.os/\AllBare s'.gens) s₁) :
  WalkO q loose XP YP l.row.toRowW d [] (λf vs=>PySem.call f vs):=by
 intro w s₀ s₁ mg mb G Y fa o pm cd doc dV kV ho hd hcd hD hmg hg args vals as hpre hlay hrd hwl hlo
 obtain rfl:dV=.none:=Dflts.none hD hdf
 obtain rfl:kV=.none:=Dflts.noKw hD
 obtain⟨a,vs,ns,rfl,rfl,hobj,hints,hlen⟩:=Gu hn hpre hwl
 refine enter_call (codeAny_mono (call w s₀ s₁ mg mb fa o pm cd doc a vs ns G Y ho (fd_plain hd) hcd hmg hobj hints hlen hg) λr s' hq=>?_)
 obtain⟨rfl,h2,h3,h4⟩:=hq
 exact⟨.inl ⟨.bool true,.bool true,[],rfl,λ_=>rfl,.bool true,Gx l _,λ_=>⟨List.Pairwise.nil,λ_ hm=>(nomatch hm)⟩⟩,h2,h3,h4⟩
section
variable {prog:Program}{w:World}{A:Around}{E:Value->Shared->Prop}{s:Shared}{K:Frag}
def ledger(h:Heap)(L d:Addr):List (Addr×Obj):=(ê h.objs.size).filterMap λa=>if a=L\/a=d then none else (h.get? a).map λo=>(a,o)
end
end Att
namespace L2
open PySem PySem.Spec PyProof.Rows
theorem jm:∀{vs:List Value}{ns:List Int},IntsAre vs ns->Vals (ns.map V.int) vs
 |_,_,.nil=>.nil
 |_,_,.cons n t h=>.cons ⟨t,rfl⟩ (jm h)
def Only(H:Hp):Prop:=∀b,H b=none\/∃o xs,H b=some (.frz o (.lst xs))
def jF(s:Stmt):Arguments:=match s with
 |.FunctionDef _ a _ _ _ _ _ _ _ _=>a
 |_=>{ posonlyargs:=[],args:=[],vararg:=none,kwonlyargs:=[],kw_defaults:=[],kwarg:=none,defaults:=[] }
def gA(s:Stmt):List Stmt:=match s with
 |.FunctionDef _ _ b _ _ _ _ _ _ _=>b
 |_=>[]
def ak(s:Stmt):Scope:=match s with
 |.FunctionDef _ _ _ _ _ _ sc _ _ _=>sc
 |_=>{ kind:=.function,names:=[],isGenerator:=false,isCoroutine:=false }
abbrev CX0:CXT:=λ_ _ _ _ _ _=>False
abbrev E0:XK:=λ_ _ _=>False
def UG{X:Cx}:Passes CX0 X E0:=λ_ _ _ _ _ _ _ h=>h.elim
structure Fun(K:Ý)(x qual:Str)(st:Stmt)(f:Addr)(fd:FuncData):Prop where
 ex:∃(oc:Value) (od:Option Addr) (kV doc pm:Value) (an:Option Addr) (cdv ct:Value) (osl:Array (Option Value)),
  fd=W.fnOf x qual (jF st) (gA st) (ak st) .none kV doc pm an cdv ct/\K.lookup f=some ⟨oc,od,.func fd,osl⟩/\W.codeIn K cdv qual=true
 kp:W.keepIn K (.ref f)=true
section
variable {P:Program}{w:World}{K:Ý}{mg:Str->Option Value}{base:Heap}
def Fun.ok{x qual:Str}{st:Stmt}{f:Addr}{fd:FuncData}{N ps:List Str}{k:Nat}{sp:Sp}(F:Fun K x qual st f fd)(S:FnScope N ps (ak st))(len:∀vs H Q E,sp vs H Q E->vs.length=ps.length)(hbody:∀(cdv:Value) (A:Around) (outer:List Env) (s:Shared) (H:Hp) (vs:List V) (Q:VK) (E:XK),Room k (A.deeper (envOfC qual (ak st) s.heap.objs.size f cdv))->sp vs H Q E ->
   ∃t,PSs (Hq CX0 P w K mg base N qual (ak st) f cdv A outer s H E).nox (gA st) t/\t { nx:=λ_ H'=>Q .non H',rt:=Q } (start N vs) H):FnOk P w K mg base CX0 (k+1) f fd ps sp:=by
 obtain⟨oc,od,kV,doc,pm,an,cdv,ct,osl,rfl,lk,hcd⟩:=F.ex
 refine Vk lk hcd S len λA outer s H vs Q E hr hsp=>?_
 obtain⟨t,h,q⟩:=hbody cdv A outer s H vs Q E hr hsp
 exact⟨t,h.nox,q⟩
def Fun.binds{x qual:Str}{st:Stmt}{f:Addr}{fd:FuncData}{ps:List Str}(F:Fun K x qual st f fd)(h:∀(kV doc pm:Value) (an:Option Addr) (cdv ct:Value) (us:List Value),us.length=ps.length->bindArgs (W.fnOf x qual (jF st) (gA st) (ak st) .none kV doc pm an cdv ct) ⟨us,[]⟩=pure (ps.zip us):=by intro _ _ _ _ _ _ us hl;first|(obtain⟨_,rfl⟩:=Nf.len1 us hl;rfl)|(obtain⟨_,_,rfl⟩:=Nf.len2 us hl;rfl)|(obtain⟨_,_,_,rfl⟩:=Nf.Wk us hl;rfl)):Binds K fd ps []:=by
 obtain⟨oc,od,kV,doc,pm,an,cdv,ct,osl,rfl,lk,hcd⟩:=F.ex
 exact .all (h kV doc pm an cdv ct)
def KQ{x qual:Str}{st:Stmt}{f:Addr}{oc:Value}{od an:Option Addr}{osl:Array (Option Value)}{kV doc pm cdv ct:Value}(l:K.lookup f=some ⟨oc,od,.func (W.fnOf x qual (jF st) (gA st) (ak st) .none kV doc pm an cdv ct),osl⟩)(c:W.codeIn K cdv qual=true)(k:W.keepIn K (.ref f)=true):Fun K x qual st f (W.fnOf x qual (jF st) (gA st) (ak st) .none kV doc pm an cdv ct):=⟨⟨oc,od,kV,doc,pm,an,cdv,ct,osl,rfl,l,c⟩,k⟩
end
section
variable {X:Cx}
def pv(i:Nat){x:Str}{pos:Pos}(hN:X.N[i]?=some x:=by rfl)(hv:Vis X.env.scope x:=by first|exact Or.inl rfl|exact Or.inr (Or.inl rfl)|exact Or.inr (Or.inr rfl))(hd:(x == ("__debug__":Str))=false:=by decide)(hcd:(x == ("__classdict__":Str))=false:=by decide):PE X (.Name x pos) (j9 i):=Rx hN hv hd hcd
end
def aC{A B:Prop}(h:B):if false=true then A else B:=by
 rw[if_neg Ó]
 exact h
def aA{A B:Prop}(h:A):if true=true then A else B:=by
 rw[if_pos rfl]
 exact h
def bB{c A B:Prop}[Decidable c](h1:c->A)(h2:¬c->B):if c then A else B:=by
 by_cases h:c
 ·rw[if_pos h]
  exact h1 h
 ·rw[if_neg h]
  exact h2 h
def Same(H H':Hp):Prop:=∀b o,H b=some o->H' b=some o
def Same.refl(H:Hp):Same H H:=λ_ _ h=>h
def Same.trans{H H1 H2:Hp}(a:Same H H1)(b:Same H1 H2):Same H H2:=λc o h=>b c o (a c o h)
structure CB where
 cl:List (Str×Addr)
 C:Addr
 s:Shared
 H:Hp
 ex:List Addr
abbrev Cx.bD(X:Cx)(own M:List Str)(scope:Scope)(c:CB):Cx where
 prog:=X.prog
 w:=X.w
 K:=X.K
 mg:=X.mg
 base:=X.base
 A:=X.A
 N:=own++M
 s₀:=c.s
 H₀:=c.H
 env:=compEnvC scope c.cl c.C X.env
 outer:=X.stack
 stack:=X.stack
 ex:=c.ex
 fn:=λx=>scope.names.lookup x == some .cell
 calm:=X.calm
 pn:=[]
 sf:=X.sf
 xe:=λ_ _=>False
abbrev Cx.comp(X:Cx)(own:List Str)(scope:Scope)(c:CB):Cx:=X.bD own X.N scope c
def cM(cells:List (Str×Addr)):List (Str×NameKind)->List (Str×Addr)->List (Str×Addr)
 |[],acc=>acc
 |(n,k)::r,acc=>if k == .free then cM cells r ((n,(cells.lookup n).getD 0)::acc) else cM cells r acc
theorem gB{env:Env}:∀(names:List (Str×NameKind)) (acc:List (Str×Addr)),(∀x∈names,x.2=.free->∃c,env.cells.lookup x.1=some c) ->
  (forIn names acc λ(p:Str×NameKind) (r:List (Str×Addr))=>match p with
   |(name,kind)=>if (kind == ă)=true then do let a ←cellOf env name;pure (Ī ((name,a)::r)) else pure (Ī r):Sem (List (Str×Addr)))=pure (cM env.cells names acc)
 |[],acc,_=>by simp[cM]
 |(n,k)::r,acc,h=>by
  rw[List.forIn_cons]
  by_cases hk:(k == ă)=true
  ·obtain⟨c,hc⟩:=h (n,k) Ñ (by simpa using hk)
   have e:cellOf env n=pure c:=by unfold cellOf;rw[hc]
   have ih:=gB (env:=env) r ((n,c)::acc) λx hx=>h x (Ê _ hx)
   show((if (k == ă)=true then do let a ←cellOf env n;pure (Ī ((n,a)::acc)) else pure (Ī acc)) >>= _:Sem _)=_
   rw[if_pos hk,e]
   unfold cM
   rw[if_pos hk,hc]
   exact ih
  ·have ih:=gB (env:=env) r acc λx hx=>h x (Ê _ hx)
   show((if (k == ă)=true then do let a ←cellOf env n;pure (Ī ((n,a)::acc)) else pure (Ī acc)) >>= _:Sem _)=_
   rw[if_neg hk]
   unfold cM
   rw[if_neg hk]
   exact ih
def Dj{scope:Scope}{env:Env}(h:∀x∈scope.names,x.2=.free->∃c,env.cells.lookup x.1=some c):closureFor scope env=pure (cM env.cells scope.names []):=by
 have e:=gB (env:=env) scope.names [] h
 unfold closureFor
 show(forIn scope.names [] _ >>= λcs=>pure cs:Sem _)=_
 have e2:(forIn scope.names ([]:List (Str×Addr)) λ(p:Str×NameKind) (r:List (Str×Addr))=>match p with
   |(name,kind)=>if (kind == ă)=true then do let a ←cellOf env name;pure (Ī ((name,a)::r)) else pure (Ī r):Sem (List (Str×Addr)))=pure (cM env.cells scope.names []):=e
 rw[e2]
 rfl
theorem mR{cells:List (Str×Addr)}{x:Str}{c:Addr}:∀{names:List (Str×NameKind)}{acc:List (Str×Addr)},(cM cells names acc).lookup x=some c->acc.lookup x=some c\/((x,ă)∈names/\c=(cells.lookup x).getD 0)
 |[],acc,h=>.inl h
 |(n,k)::r,acc,h=>by
  unfold cM at h
  by_cases hk:(k == ă)=true
  ·rw[if_pos hk] at h
   have hk':k=.free:=by simpa using hk
   rcases mR h with q|⟨q1,q2⟩
   ·rw[Ō] at q
    cases hx:x == n with
    |true =>
     rw[hx] at q
     have e:x=n:=by simpa using hx
     subst e hk'
     exact .inr ⟨Ñ,(Ø q).symm⟩
    |false=>rw[hx] at q;exact .inl q
   ·exact .inr ⟨Ê _ q1,q2⟩
  ·rw[if_neg hk] at h
   rcases mR h with q|⟨q1,q2⟩
   ·exact .inl q
   ·exact .inr ⟨Ê _ q1,q2⟩
theorem tE{cells:List (Str×Addr)}{x:Str}:∀{names:List (Str×NameKind)}{acc:List (Str×Addr)},(acc.lookup x).isSome=true->((cM cells names acc).lookup x).isSome=true
 |[],_,h=>h
 |(n,k)::r,acc,h=>by
  unfold cM
  split
  ·refine tE ?_
   rw[Ō]
   cases hx:x == n <;> simp[h]
  ·exact tE h
theorem jg{cells:List (Str×Addr)}{x:Str}:∀{names:List (Str×NameKind)}{acc:List (Str×Addr)},(x,ă)∈names->((cM cells names acc).lookup x).isSome=true
 |(n,k)::r,acc,h=>by
  unfold cM
  rcases Ü.mp h with e|h
  ·cases e
   rw[if_pos (by rfl)]
   exact tE (by simp[Ō])
  ·split
   ·exact jg h
   ·exact jg h
def d8(env:Env)(scope:Scope)(N:List Str):Bool :=
 (scope.kind == .function)&&scope.names.all λy=>match y.2 with
  |.local=>!(N.contains y.1)&&(scope.names.lookup y.1 == some .local)
  |.cell=>!(N.contains y.1)&&(scope.names.lookup y.1 == some .cell)
  |.free=>(scope.names.lookup y.1 == some .free)&&(env.kindOf y.1 == some .cell || env.kindOf y.1 == some .free)
  |_=>true
theorem cF{env:Env}:∀{names:List (Str×NameKind)}{x:Str}{q:NameKind},(names.map λ(n,k)=>if (k == ă&&env.scope.kind == .function&&env.kindOf n == some .cell) then (n,Ė) else (n,k)).lookup x=some q ->
  ∃k,(x,k)∈names/\names.lookup x=some k/\(q=k\/(q=.cell/\k=.free))
 |[],_,_,h=>by simp at h
 |(n,k)::r,x,q,h=>by
  have ih:=@cF env r x q
  have h':List.lookup x ((if (k == ă&&env.scope.kind == .function&&env.kindOf n == some .cell)=true then (n,Ė) else (n,k))::(r.map λ(n,k)=>if (k == ă&&env.scope.kind == .function&&env.kindOf n == some .cell) then (n,Ė) else (n,k)))=some q:=h
  by_cases hc:(k == ă&&env.scope.kind == .function&&env.kindOf n == some .cell)=true
  ·rw[if_pos hc,Ō] at h'
   cases hx:x == n with
   |true =>
    rw[hx] at h'
    have e:x=n:=by simpa using hx
    subst e
    have hk:k=.free:=by simp at hc;exact hc.1.1
    exact⟨k,Ñ,by simp[Ō],.inr ⟨(Ø h').symm,hk⟩⟩
   |false =>
    rw[hx] at h'
    obtain⟨k',h1,h2,h3⟩:=ih h'
    exact⟨k',Ê _ h1,by rw[Ō,hx];exact h2,h3⟩
  ·rw[if_neg hc,Ō] at h'
   cases hx:x == n with
   |true =>
    rw[hx] at h'
    have e:x=n:=by simpa using hx
    subst e
    exact⟨k,Ñ,by simp[Ō],.inl (Ø h').symm⟩
   |false =>
    rw[hx] at h'
    obtain⟨k',h1,h2,h3⟩:=ih h'
    exact⟨k',Ê _ h1,by rw[Ō,hx];exact h2,h3⟩
def HOk.track{P:Program}{w:World}{H:Hp}{h:Heap}{a:Addr}{o:HO}(x:HOk P w H h)(hn:H a=none)(new:bf P w (upd H a o) h a o):HOk P w (upd H a o) h:=λb u e=>by
 by_cases hb:b=a
 ·subst hb;rw[aq] at e;cases e;exact new
 ·rw[aj hb] at e
  exact(x b u e).stay (λc v _ q=>q) (λc q=>by rw[aj (ao q hn)];exact q) λc xs q=>by rw[aj (ao q hn)];exact q
def Hr{prog:Program}{w:World}{A:Around}{s:Shared}{elt target iter:Expr}{ifs:List Expr}{scope:Scope}{pos:Pos}{it acc:Value}{env:Env}{R:Result->Shared->Prop}(I:Nat->Shared->Prop)(turn:∀n s,I n s->wpAny (model prog w) A (pyNext it) (λr s₁=>match r with
   |none=>R (.ok .next) s₁
   |some v=>wpAny (model prog w) A (letOwnedTupleGo target it v) (λ_ s₀=>wpAny (model prog w) A (assign target env v) (λ_ s₂ =>
     wpAny (model prog w) A (forIn ifs true λc r=>if r=true then do let ok ←isTrue c env (eval c env);pure (Ī ok) else pure (Ī r)) (λok s₃ =>
      if ok=true then wpAny (model prog w) A (eval elt env) (λx s₄ =>
       wpAny (model prog w) A (call (.builtin "list.append") [acc,x]) (λ_ s₅=>∃m,m<n/\I m s₅) (λ_ _=>False) s₄) (λ_ _=>False) s₃
      else ∃m,m<n/\I m s₃) (λ_ _=>False) s₂) (λ_ _=>False) s₀) (λ_ _=>False) s₁) (λ_ _=>False) s)(n:Nat)(h:I n s):codeAny (model prog w) A (.compLoop (.ListComp elt [⟨target,iter,ifs,0⟩] scope pos) 0 it acc env) R s:=by
 refine codeAny_loop rfl I (λn s hI=>?_) n h
 show wpAny _ A ((compTurn (.ListComp elt [⟨target,iter,ifs,0⟩] scope pos) 0 it acc env).onRaise (λx=>do noteFrame x env;theTreesLotGoes x)) _ _ s
 refine wpAny_noted ?_
 rw[compTurn_list]
 refine Æ (wpAny_standAt (Æ (Œ (turn n s hI) (λr s₁ h₁=>?_) λ_ _ h'=>h'.elim)))
 cases r with
 |none=>exact Ö h₁
 |some v =>
  refine Æ (Œ h₁ (λ_ s₀ h₀'=>?_) λ_ _ h'=>h'.elim)
  refine Æ (Œ h₀' (λ_ s₂ h₂=>Æ (Œ h₂ (λok s₃ h₃=>?_) λ_ _ h'=>h'.elim)) λ_ _ h'=>h'.elim)
  cases ok with
  |false=>exact Ö ⟨rfl,h₃⟩
  |true =>
   exact Æ (Æ (Œ h₃ (λx s₄ h₄=>Æ (Œ h₄ (λ_ s₅ h₅=>Ö (Ö ⟨rfl,h₅⟩)) λ_ _ h'=>h'.elim)) λ_ _ h'=>h'.elim))
def PTs(X:Cx)(ifs:List Expr)(t:TT):Prop :=
 ∀(pins:List (Addr×Obj)) (s:Shared) (σ:St) (H:Hp) (Q:Bool->Hp->Prop),Inv X pins σ H s->t σ H Q ->
  wpAny (model X.prog X.w) X.A (forIn ifs true λc r=>if r=true then do let ok ←isTrue c X.env (eval c X.env);pure (Ī ok) else pure (Ī r)) (TP X pins σ Q) X.xe s
def MK{X:Cx}:PTs X [] (λ_ H Q=>Q true H):=λ_ _ _ H _ I h=>wpAny_tests_nil ⟨H,I,h⟩
def MJ{X:Cx}{c:Expr}{t:TT}(hc:PT X c t):PTs X [c] t:=λpins s σ H Q I h=>wpAny_tests_one (hc pins s σ H Q I h)
def VL(J:It)(n:Nat)(g:CB->TG)(tt:CB->TT)(te:CB->TE)(σ:St)(Q:VK)(H:Hp):Prop:=∃W:Nat->Nat->List V->Hp->Prop,(∃m,W 0 m [] H)/\∀(c:CB) i m ys H,W i m ys H ->
 (J.stop i H/\∀p,H p=none->Q (.ref p) (upd H p (.lst ys))) ∨
 (J.go i H/\ys.length<sizeLine/\∃N:List V->Hp->Prop,(∀ys' H',N ys' H'->∃m',m'<m/\W (i+1) m' ys' H')/\∀x H',J.yld i H x H'->g c x (Ú n none++σ) H' λσ2 H2=>tt c σ2 H2 λb H3 =>
  if b=true then te c σ2 H3 λv H4=>N (ys++[v]) H4 else N ys H3)
def tLC(n:Nat)(wi:TI)(g:CB->TG)(tt:CB->TT)(te:CB->TE):TE:=λσ H Q=>wi σ H λJ H1=>VL J n g tt te σ Q H1
section
variable {X:Cx}{own:List Str}{scope:Scope}{tg iter elt:Expr}{ifs:List Expr}{pos:Pos}{wi:TI}{g:CB->TG}{tt:CB->TT}{te:CB->TE}
def bw(env:Env)(scope:Scope)(N M:List Str):Bool :=
 d8 env scope M&&((N.length == M.length)&&(N.zip M).all λy=>y.1 == y.2 || ((y.2 == ("":Str))&&scope.names.all λz=>!(z.1 == ("":Str))))
def zV{env:Env}{N:List Str}(h:d8 env scope N=true):bw env scope N N=true:=by
 unfold bw
 rw[h,Ċ,beq_self_eq_true,Ċ,Ĕ]
 rintro⟨a,b⟩ hy
 obtain⟨i,hi,e⟩:=Ŧ.mp hy
 rw[List.getElem_zip] at e
 cases e
 simp
variable {M:List Str}
def dR(h:bw X.env scope X.N M=true):scope.kind=.function:=by
 unfold bw d8 at h
 simp only[Õ,beq_iff_eq] at h
 exact h.1.1
def bH(h:bw X.env scope X.N M=true):∀y∈scope.names,(y.2=.local->y.1∉M/\scope.names.lookup y.1=some .local)/\(y.2=.cell->y.1∉M/\scope.names.lookup y.1=some .cell)/\(y.2=.free->scope.names.lookup y.1=some .free/\(X.env.kindOf y.1=some .cell\/X.env.kindOf y.1=some .free)):=by
 unfold bw at h
 rw[Õ] at h
 have h:=h.1
 unfold d8 at h
 rw[Õ,Ĕ] at h
 intro y hy
 have q:=h.2 y hy
 obtain⟨n,k⟩:=y
 cases k with
 |«local»=>simp at q ⊢;exact q
 |cell=>simp at q ⊢;exact q
 |free=>simp at q ⊢;exact q
 |globalExplicit=>simp
 |globalImplicit=>simp
theorem aZ:∀(names:List (Str×NameKind)) (n:Nat) (acc:List (Str×Addr)),cellsFrom n names acc=cellsFrom n names []++acc
 |[],_,_=>rfl
 |(nm,k)::r,n,acc=>by
  show(if (k == Ė)=true then cellsFrom (n+1) r ((nm,n)::acc) else cellsFrom n r acc)=(if (k == Ė)=true then cellsFrom (n+1) r [(nm,n)] else cellsFrom n r [])++acc
  split
  ·rw[aZ r (n+1) ((nm,n)::acc),aZ r (n+1) [(nm,n)],List.append_assoc]
   rfl
  ·exact aZ r n acc
theorem dW:∀(names:List (Str×NameKind)) (n:Nat) (x:Str) (c:Addr),(x,c)∈cellsFrom n names []->(x,Ė)∈names/\n<=c
 |[],_,_,_,h=>nomatch h
 |(nm,k)::r,n,x,c,h=>by
  have h:(x,c)∈(if (k == Ė)=true then cellsFrom (n+1) r [(nm,n)] else cellsFrom n r []):=h
  split at h
  ·rename_i hk
   rw[aZ] at h
   rcases à.mp h with z|z
   ·obtain⟨h1,h2⟩:=dW r (n+1) x c z
    exact⟨Ê _ h1,by omega⟩
   ·have z:(x,c)=(nm,n):=by simpa using z
    cases z
    have hk:k=.cell:=by simpa using hk
    subst hk
    exact⟨Ñ,Ô _⟩
  ·obtain⟨h1,h2⟩:=dW r n x c h
   exact⟨Ê _ h1,h2⟩
theorem oG:∀(names:List (Str×NameKind)) (n:Nat) (x y:Str) (c:Addr),(x,c)∈cellsFrom n names []->(y,c)∈cellsFrom n names []->x=y
 |[],_,_,_,_,h,_=>nomatch h
 |(nm,k)::r,n,x,y,c,h,h'=>by
  have h:(x,c)∈(if (k == Ė)=true then cellsFrom (n+1) r [(nm,n)] else cellsFrom n r []):=h
  have h':(y,c)∈(if (k == Ė)=true then cellsFrom (n+1) r [(nm,n)] else cellsFrom n r []):=h'
  by_cases hk:(k == Ė)=true
  ·rw[if_pos hk,aZ] at h h'
   rcases à.mp h with z|z <;> rcases à.mp h' with z'|z'
   ·exact oG r (n+1) x y c z z'
   ·have:=(dW r (n+1) x c z).2
    have z':(y,c)=(nm,n):=by simpa using z'
    cases z'
    exact absurd this (Nat.not_succ_le_self _)
   ·have:=(dW r (n+1) y c z').2
    have z:(x,c)=(nm,n):=by simpa using z
    cases z
    exact absurd this (Nat.not_succ_le_self _)
   ·have z:(x,c)=(nm,n):=by simpa using z
    have z':(y,c)=(nm,n):=by simpa using z'
    cases z
    cases z'
    rfl
  ·rw[if_neg hk] at h h'
   exact oG r n x y c h h'
theorem jr:∀(names:List (Str×NameKind)) (h:Heap) (b:Addr) (o:Obj),h.get? b=some o->(pushCells h names).get? b=some o
 |[],_,_,_,e=>e
 |(nm,k)::r,h,b,o,e=>by
  show(if (k == Ė)=true then pushCells (h.push { cls:=ĉ "cell",data:=Data.cell none }) r else pushCells h r).get? b=some o
  split
  ·exact jr r _ b o (Î _ e)
  ·exact jr r h b o e
theorem nu:∀(names:List (Str×NameKind)) (h:Heap) (x:Str) (c:Addr),(x,c)∈cellsFrom h.objs.size names []->(pushCells h names).IsCell c none
 |[],_,_,_,e=>nomatch e
 |(nm,k)::r,h,x,c,e=>by
  have e:(x,c)∈(if (k == Ė)=true then cellsFrom (h.objs.size+1) r [(nm,h.objs.size)] else cellsFrom h.objs.size r []):=e
  show(if (k == Ė)=true then pushCells (h.push { cls:=ĉ "cell",data:=Data.cell none }) r else pushCells h r).IsCell c none
  by_cases hk:(k == Ė)=true
  ·rw[if_pos hk,aZ] at e
   rw[if_pos hk]
   rcases à.mp e with z|z
   ·exact nu r _ x c (by rw[ĸ];exact z)
   ·have z:(x,c)=(nm,h.objs.size):=by simpa using z
    cases z
    exact⟨_,jr r _ _ _ (Þ _ rfl),rfl⟩
  ·rw[if_neg hk] at e ⊢
   exact nu r h x c e
def BP{M:Model}{A:Around}{E:Value->Shared->Prop}{s:Shared}{scope:Scope}{globals:Addr}{closure:List (Str×Addr)}{qual:Str}{func:Option Addr}{code:Value}{around:Option Env}{builtins:Addr}{Q:Env->Shared->Prop}(h:Q (newEnv scope s.heap.objs.size globals (cellsFrom (s.heap.objs.size+1) scope.names closure) qual func code around builtins) { s with heap:=pushCells (s.heap.push { cls:=ĉ (if around.isSome=true then "dict" else "frame"),data:=Data.dict #[] }) scope.names }) :
  wpAny M A (newFunctionEnv scope globals closure [] qual func code around builtins) Q E s:=by
 unfold newFunctionEnv
 refine Æ (wpAny_alloc ?_)
 refine Æ (wpAny_layCells _ (λ_ _ _=>rfl) _ _ _ _ ?_)
 rw[ĸ]
 exact Æ (Ö (Ö h))
def Tq{n:Nat}{names:List (Str×NameKind)}{cl:List (Str×Addr)}{x:Str}{c:Addr}(h:(cellsFrom n names cl).lookup x=some c):(x,c)∈cellsFrom n names []\/cl.lookup x=some c:=by
 rw[aZ,List.lookup_append] at h
 cases e:(cellsFrom n names []).lookup x with
 |none=>rw[e] at h;exact .inr h
 |some d =>
  rw[e] at h
  cases h
  exact .inl (ŗ e)
def Lk{n:Nat}{names:List (Str×NameKind)}{cl:List (Str×Addr)}{x:Str}(h:∀c,(x,c)∈cellsFrom n names []->False):(cellsFrom n names cl).lookup x=cl.lookup x:=by
 rw[aZ,List.lookup_append]
 cases e:(cellsFrom n names []).lookup x with
 |none=>rfl
 |some d=>exact(h d (ŗ e)).elim
def zy(h:bw X.env scope X.N M=true){n:Nat}{x:Str}(hx:(x,ă)∈scope.names):∀c,(x,c)∈cellsFrom n scope.names []->False:=λc z=>by
 have h1:=((bH h _ hx).2.2 rfl).1
 have h2:=((bH h _ (dW _ _ _ _ z).1).2.1 rfl).2
 rw[h1] at h2
 cases h2
def jf(h:bw X.env scope X.N M=true):X.N.length=M.length:=by
 unfold bw at h
 rw[Õ,Õ] at h
 exact eq_of_beq h.2.1
def uW{i:Nat}{x:Str}{k:NameKind}(h:bw X.env scope X.N M=true)(hx:M[i]?=some x)(_:x∈M)(hn:(x,k)∈scope.names):X.N[i]?=some x:=by
 have hl:=jf h
 unfold bw at h
 rw[Õ,Õ,Ĕ] at h
 have hi:i<M.length:=(Ç.mp hx).1
 have hx':M[i]=x:=(Ç.mp hx).2
 have hi':i<X.N.length:=by omega
 have q:=h.2.2 (X.N[i],M[i]) (by
  refine List.mem_iff_getElem.mpr ⟨i,by rw[List.length_zip];omega,?_⟩
  rw[List.getElem_zip])
 rw[Bool.or_eq_true] at q
 rcases q with q|q
 ·have q:X.N[i]=M[i]:=eq_of_beq q
  rw[É hi',q,hx']
 ·rw[Õ,Ĕ] at q
  have e:M[i]=("":Str):=eq_of_beq q.1
  have z:=q.2 (x,k) hn
  rw[←hx',e] at z
  simp at z
def Di{pins:List (Addr×Obj)}{σ:St}{H:Hp}{s:Shared}{fp:List Addr}{h₁:Heap}{tk:Nat}(hk:bw X.env scope X.N M=true)(I:Inv X pins σ H s)(hf:∀b∈fp,mW X pins H b)(hfo:∀b∈fp,∃o,s.heap.get? b=some o)(hns:h₁.Ns (s.heap.objs.size+1) λ_=>none)(old:∀b o,s.heap.get? b=some o->h₁.get? b=some o)(hD:h₁.get? s.heap.objs.size=some { cls:=.type "list",data:=.seq #[] 0 })(hnc:∀x c,(x,c)∈cellsFrom (s.heap.objs.size+2) scope.names []->h₁.IsCell c none) :
  Inv (X.bD own M scope ⟨cellsFrom (s.heap.objs.size+2) scope.names (cM X.env.cells scope.names []),s.heap.objs.size+1,s,H,fp⟩) [(s.heap.objs.size,{ cls:=.type "list",data:=.seq #[] 0 })] (Ú own.length none++σ) H { s with heap:=h₁,toks:=tk }:=by
 have hkk:=dR hk
 have hka:=bH hk
 have hhas:∀x,(x,ă)∈scope.names->∃c,X.env.cells.lookup x=some c:=λx hx=>I.ok.has x ((hka _ hx).2.2 rfl).2
 have hcl:∀x c,(cM X.env.cells scope.names []).lookup x=some c->X.env.cells.lookup x=some c/\(x,ă)∈scope.names:=λx c e=>by
  rcases mR e with q|⟨q1,q2⟩
  ·simp at q
  ·obtain⟨c',e'⟩:=hhas x q1
   rw[e'] at q2
   exact⟨by rw[e',q2];rfl,q1⟩
 have hcc:∀x c,(cellsFrom (s.heap.objs.size+2) scope.names (cM X.env.cells scope.names [])).lookup x=some c->(X.env.cells.lookup x=some c/\(x,ă)∈scope.names/\c<s.heap.objs.size)\/((x,c)∈cellsFrom (s.heap.objs.size+2) scope.names []/\(x,Ė)∈scope.names/\s.heap.objs.size+2<=c):=λx c e=>by
  rcases Tq e with z|z
  ·exact .inr ⟨z,dW _ _ _ _ z⟩
  ·obtain⟨h1,h2⟩:=hcl x c z
   obtain⟨v,o,ho,_⟩:=I.cell x c h1
   exact .inl ⟨h1,h2,Ï ho⟩
 have hvis:∀x,(relabel scope X.env).names.lookup x=some .cell\/(relabel scope X.env).names.lookup x=some .free->(x,ă)∈scope.names\/(x,Ė)∈scope.names:=λx hx=>by
  have key:∀q,(relabel scope X.env).names.lookup x=some q->q=.cell\/q=.free->(x,ă)∈scope.names\/(x,Ė)∈scope.names:=λq hq hq'=>by
   obtain⟨k,h1,h2,h3⟩:=cF (env:=X.env) (names:=scope.names) hq
   rcases h3 with h3|⟨_,h3⟩
   ·subst h3
    rcases hq' with z|z
    ·rw[z] at h1;exact .inr h1
    ·rw[z] at h1;exact .inl h1
   ·rw[h3] at h1;exact .inl h1
  rcases hx with hx|hx
  ·exact key _ hx (.inl rfl)
  ·exact key _ hx (.inr rfl)
 have hlt:∀b o,s.heap.get? b=some o->b<s.heap.objs.size:=λb o e=>Ï e
 refine⟨⟨I.ok.mod,hkk,I.ok.glob,I.ok.blt,Ň _,λx y c h1 h2=>?inj,λx hx=>?_,λx c z e=>?cab,I.ok.hd,I.ok.frames,.inl rfl,λb hb=>⟨?_,λx c e=>?exf⟩,I.bs,
   õ I.ok.bsz I.sz,λb o e hb=>?_,λb hb hs=>?_,I.stack,I.DQ,λq hq=>⟨(I.ok.sof q hq).1,I.base.frzs _ _ _ (I.ok.sof q hq).2.1,(I.ok.sof q hq).2.2⟩⟩,rfl,I.bare,Un.kept old,⟨_,hns,λi x v h1 h2 h3=>?_⟩,λx c e=>?_,?_,λx c e=>?frc,λp hp=>?_,I.hok.kept old,?_⟩
 case inj =>
  rcases hcc x c h1 with ⟨a1,_,a3⟩|⟨a1,_,a3⟩ <;> rcases hcc y c h2 with ⟨b1,_,b3⟩|⟨b1,_,b3⟩
  ·exact I.ok.inj x y c a1 b1
  ·exact absurd (ì a3 (õ (Nat.le_add_right _ 2) b3)) (ċ _)
  ·exact absurd (ì b3 (õ (Nat.le_add_right _ 2) a3)) (ċ _)
  ·exact oG _ _ _ _ _ a1 b1
 case cab =>
  show s.heap.objs.size<=c
  rcases hcc x c e with ⟨_,a2,_⟩|⟨_,_,a3⟩
  ·have h1:=((hka _ a2).2.2 rfl).1
   have z:(scope.names.lookup x == some Ė)=true:=z
   rw[h1] at z
   exact absurd z (by decide)
  ·omega
 case exf =>
  rcases hcc x c e with ⟨a1,_,_⟩|⟨_,_,a3⟩
  ·exact(hf b hb).2.2.2.2.1 x c a1
  ·obtain⟨o,e⟩:=hfo b hb
   have:=hlt b o e
   intro z
   subst z
   exact absurd (ì this (õ (Nat.le_add_right _ 2) a3)) (ċ _)
 case frc =>
  rcases hcc x c e with ⟨a1,_,_⟩|⟨_,_,a3⟩
  ·exact I.freeC x c a1
  ·exact I.hok.fresh (by omega)
 ·have hx':(relabel scope X.env).names.lookup x=some .cell\/(relabel scope X.env).names.lookup x=some .free:=hx
  refine Option.isSome_iff_exists.mp (W.cellsFrom_some _ _ _ ?_)
  rcases hvis x hx' with z|z
  ·exact .inr (jg z)
  ·exact .inl ((hka _ z).2.1 rfl).2
 ·obtain⟨o,e⟩:=hfo b hb
  exact ä (ď (hlt b o e))
 ·have hb':b∈fp:=hb
  rcases(hf b hb').2.2.2.1 with z|z
  ·exact I.ok.noex b o e z
  ·exact absurd (ì (Ï (I.ok.bs b o e).1) z) (ċ _)
 ·have hb':b∈fp:=hb
  rcases Ü.mp (I.Aq b hs) with z|z
  ·exact(hf b hb').2.1 z
  ·exact(hf b hb').2.2.1 z
 ·have hi:own.length<=i:=by
   by_cases hi:i<own.length
   ·rw[ù (by simpa using hi),Ű] at h2
    split at h2 <;> cases h2
   ·omega
  have h1':M[i - own.length]?=some x:=by
   have q:(own++M)[i]?=some x:=h1
   rwa [Ą hi] at q
  have h2':σ[i - own.length]?=some (some v):=by
   rw[Ą (by simpa using hi)] at h2
   simpa using h2
  have h3':Vis (relabel scope X.env) x:=h3
  have hfr:(x,ă)∈scope.names:=by
   rcases h3' with z|z
   ·obtain⟨k,q1,q2,q3⟩:=cF (env:=X.env) (names:=scope.names) z
    rcases q3 with q3|⟨q3,_⟩
    ·subst q3
     exact absurd (Ð h1') ((hka _ q1).1 rfl).1
    ·cases q3
   ·rcases hvis x z with y|y
    ·exact y
    ·exact absurd (Ð h1') ((hka _ y).2.1 rfl).1
  have hkx:=((hka _ hfr).2.2 rfl).2
  obtain⟨m,hm,hl⟩:=I.loc
  obtain⟨u,ru,lu⟩:=hl _ x v (uW hk h1' (Ð h1') hfr) h2' (by rcases hkx with z|z;exact .inr (.inl z);exact .inr (.inr z))
  refine⟨u,ru,.inr ⟨?_,?_⟩⟩
  ·rcases h3' with z|z|z
   ·obtain⟨k,q1,q2,q3⟩:=cF (env:=X.env) (names:=scope.names) z
    rcases q3 with q3|⟨q3,_⟩
    ·subst q3
     exact absurd (Ð h1') ((hka _ q1).1 rfl).1
    ·cases q3
   ·exact .inl z
   ·exact .inr z
  ·rcases lu with ⟨z,_⟩|⟨_,c,e,ic⟩
   ·rcases hkx with q|q
    ·rw[q] at z;cases z
    ·rw[q] at z;cases z
   ·obtain⟨c',e'⟩:=Option.isSome_iff_exists.mp (jg (cells:=X.env.cells) (acc:=[]) hfr)
    have e2:=(hcl x c' e').1
    rw[e] at e2
    cases e2
    obtain⟨o,ho,hd⟩:=ic
    exact⟨c,(Lk (zy hk hfr)).trans e',o,old _ _ ho,hd⟩
 ·rcases hcc x c e with ⟨z,_,_⟩|⟨z,_,_⟩
  ·obtain⟨v,o,ho,hd⟩:=I.cell x c z
   exact⟨v,o,old _ _ ho,hd⟩
  ·exact⟨none,hnc x c z⟩
 ·exact I.hok.fresh (Ň _)
 ·have hp':p=(s.heap.objs.size,{ cls:=.type "list",data:=.seq #[] 0 }):=by simpa using hp
  subst hp'
  refine⟨hD,I.hok.fresh (Ô _),ä (ō _),λz=>?_,λv z=>nomatch z⟩
  obtain⟨_,o,ho,_⟩:=I.stack.mem z
  exact absurd (Ï ho) (ċ _)
 ·show(Ú own.length none++σ).length=(own++M).length
  rw[Í,Í,List.length_replicate,I.len,jf hk]
def Dh{pins pn:List (Addr×Obj)}{σ σ':St}{H H':Hp}{s s':Shared}{fp:List Addr}{cl:List (Str×Addr)}{ys:List V}{us:List Value}{n:Nat}(I:Inv X pins σ H s)(hf:∀b∈fp,mW X pins H b)(J:Inv (X.bD own M scope ⟨cl,s.heap.objs.size+1,s,H,fp⟩) pn σ' H' s')(hp:(s.heap.objs.size,({ cls:=.type "list",data:=.seq us.toArray n }:Obj))∈pn)(hv:Vals ys us)(hz:ys.length<=sizeLine) :
  Inv X pins σ (upd H' s.heap.objs.size (.lst ys)) s'/\H' s.heap.objs.size=none:=by
 obtain⟨hD,hDn,_⟩:=J.pin _ (ç _ hp)
 refine⟨I.call' J.os ⟨λb o e n hb hx=>J.base.keep b o e n hb hx,λb o e n hb hx=>J.base.slot b o e n hb hx,λb o e n hx=>?_,λb o e hx=>J.base.there b o e hx,λb xs e=>?_,λb o u e=>?_,λb ps e=>?_⟩ ?_ J.bare ?_,hDn⟩
 ·rw[aj (ä (Ï e))]
  exact J.base.free b o e n hx
 ·have q:=J.base.tups b xs e
  rw[aj (ao q hDn)]
  exact q
 ·have q:=J.base.frzs b o u e
  rw[aj (ao q hDn)]
  exact q
 ·obtain⟨more,q⟩:=J.base.tbls b ps e
  exact⟨more,by rw[aj (ao q hDn)];exact q⟩
 ·exact J.hok.track hDn ⟨hz,us,n,hv,hD⟩
 ·intro b hb
  exact⟨(hf b hb).2.2.2.1,(hf b hb).2.1,(hf b hb).2.2.2.2.1,(hf b hb).2.2.2.2.2⟩
def tu{pins pn:List (Addr×Obj)}{σ σ':St}{H H':Hp}{s s':Shared}{fp:List Addr}{cl:List (Str×Addr)}(hk:bw X.env scope X.N M=true)(I:Inv X pins σ H s)(hf:∀b∈fp,mW X pins H b)(hcl:∀x,(x,ă)∈scope.names->∃c,cl.lookup x=some c/\X.env.cells.lookup x=some c)(J:Inv (X.bD own M scope ⟨cl,s.heap.objs.size+1,s,H,fp⟩) pn σ' H' s'):Inv (X.bD own M scope ⟨cl,s.heap.objs.size+1,s,H,fp⟩) pn (Ú own.length none++σ) H' s':=by
 have hka:=bH hk
 refine⟨J.ok,J.os,J.bare,J.base,?_,J.cell,J.free,J.freeC,J.pin,J.hok,?_⟩
 ·obtain⟨mC,hmC,_⟩:=J.loc
  refine⟨mC,hmC,λi x v h1 h2 h3=>?_⟩
  have hi:own.length<=i:=by
   by_cases hi:i<own.length
   ·rw[ù (by simpa using hi),Ű] at h2
    split at h2 <;> cases h2
   ·omega
  have h1':M[i - own.length]?=some x:=by
   have q:(own++M)[i]?=some x:=h1
   rwa [Ą hi] at q
  have h2':σ[i - own.length]?=some (some v):=by
   rw[Ą (by simpa using hi)] at h2
   simpa using h2
  have h3':Vis (relabel scope X.env) x:=h3
  have nloc:¬(relabel scope X.env).names.lookup x=some .local:=λz=>by
   obtain⟨k,q1,q2,q3⟩:=cF (env:=X.env) (names:=scope.names) z
   rcases q3 with q3|⟨q3,_⟩
   ·subst q3
    exact absurd (Ð h1') ((hka _ q1).1 rfl).1
   ·cases q3
  have hkk:(relabel scope X.env).names.lookup x=some .cell\/(relabel scope X.env).names.lookup x=some .free:=by
   rcases h3' with z|z
   ·exact absurd z nloc
   ·exact z
  have hfr:(x,ă)∈scope.names:=by
   have key:∀q,(relabel scope X.env).names.lookup x=some q->q=.cell\/q=.free->(x,ă)∈scope.names:=λq hq hq'=>by
    obtain⟨k,h1,h2,h3⟩:=cF (env:=X.env) (names:=scope.names) hq
    rcases h3 with h3|⟨_,h3⟩
    ·subst h3
     rcases hq' with z|z
     ·rw[z] at h1;exact absurd (Ð h1') ((hka _ h1).2.1 rfl).1
     ·rw[z] at h1;exact h1
    ·rw[h3] at h1;exact h1
   rcases hkk with hx|hx
   ·exact key _ hx (.inl rfl)
   ·exact key _ hx (.inr rfl)
  have hkx:=((hka _ hfr).2.2 rfl).2
  obtain⟨m,hm,hl⟩:=I.loc
  obtain⟨u,ru,lu⟩:=hl _ x v (uW hk h1' (Ð h1') hfr) h2' (by rcases hkx with z|z;exact .inr (.inl z);exact .inr (.inr z))
  refine⟨u,ru,.inr ⟨hkk,?_⟩⟩
  rcases lu with ⟨z,_⟩|⟨_,c,e,ic⟩
  ·rcases hkx with q|q
   ·rw[q] at z;cases z
   ·rw[q] at z;cases z
  ·obtain⟨c',e',e2⟩:=hcl x hfr
   rw[e] at e2
   cases e2
   obtain⟨o,ho,hd⟩:=ic
   obtain⟨sl,q⟩:=J.base.any ho (I.freeC x c e) λz=>(hf c z).2.2.2.2.1 x c e rfl
   exact⟨c,e',_,q,hd⟩
 ·show(Ú own.length none++σ).length=(own++M).length
  rw[Í,Í,List.length_replicate,I.len,jf hk]
def uT{pins:List (Addr×Obj)}{σ:St}{H:Hp}{s:Shared}{it:Addr}{fp:List Addr}{tn:Nat->Heap->Prop}{J:It}{W:Nat->Nat->List V->Hp->Prop}{E:Value->Shared->Prop}{RR:Value->Addr->Result->Shared->Prop}{Cm:Cx->Prop}(hc:∀c,Cm (X.bD own M scope c))(hk:bw X.env scope X.N M=true)(hg:∀c,PG (X.bD own M scope c) tg (g c))(ht:∀c,PTs (X.bD own M scope c) ifs (tt c))(he:∀c,PE (X.bD own M scope c) elt (te c))(I:Inv X pins σ H s)(T:TurnG Cm X.prog X.w X.K tg J fp it tn)(st:tn 0 s.heap)(hf:∀b∈fp,mW X pins H b){m0:Nat}(w0:W 0 m0 [] H){D:List V->Hp->Prop}(turn:∀(c:CB) i m ys H,W i m ys H->(J.stop i H/\D ys H) ∨
   (J.go i H/\ys.length<sizeLine/\∃N:List V->Hp->Prop,(∀ys' H',N ys' H'->∃m',m'<m/\W (i+1) m' ys' H')/\∀x H',J.yld i H x H'->g c x (Ú own.length none++σ) H' λσ2 H2=>tt c σ2 H2 λb H3 =>
    if b=true then te c σ2 H3 λv H4=>N (ys++[v]) H4 else N ys H3))(fin:∀s' m' ys H',(s'.heap.Ns (s.heap.objs.size+1) m')->H' (s.heap.objs.size+1)=none->H' s.heap.objs.size=none->Inv X pins σ (upd H' s.heap.objs.size (.lst ys)) s'->D ys H'->RR (.ref s.heap.objs.size) (s.heap.objs.size+1) (.ok .next) s') :
  wpAny (model X.prog X.w) X.A (newList []) (λacc s₃=>wpAny (model X.prog X.w) X.A (newFunctionEnv scope X.env.globals (cM X.env.cells scope.names []) [] X.env.qual none .none (some X.env)) (λcenv s₄ =>
   codeAny (model X.prog X.w) X.A (.compStart (.ListComp elt [⟨tg,iter,ifs,0⟩] scope pos) 0 (.ref it) acc { cenv with scope:=relabel scope X.env }) (RR acc cenv.locals) s₄) E s₃) E s:=by
 have hkk:=dR hk
 have hka:=bH hk
 refine ř (BP ?_)
 dsimp only
 have hC:(s.heap.push { cls:=.type "list",dict:=none,data:=.seq ([]:List Value).toArray }).objs.size=s.heap.objs.size+1:=ĸ ..
 rw[hC]
 generalize hH2:s.heap.push { cls:=.type "list",dict:=none,data:=.seq ([]:List Value).toArray }=H2 at hC ⊢
 generalize hH3:H2.push { cls:=ĉ (if (some X.env:Option Env).isSome=true then "dict" else "frame"),data:=Data.dict #[] }=H3
 generalize hh1:pushCells H3 scope.names=h₁
 have hC3:H3.objs.size=s.heap.objs.size+2:=by rw[←hH3,ĸ,hC]
 have old3:∀b o,H3.get? b=some o->h₁.get? b=some o:=λb o e=>hh1 ▸ jr _ _ _ _ e
 have old2:∀b o,H2.get? b=some o->h₁.get? b=some o:=λb o e=>old3 b o (hH3 ▸ Î _ e)
 have old:∀b o,s.heap.get? b=some o->h₁.get? b=some o:=λb o e=>old2 b o (hH2 ▸ Î _ e)
 have hacc:h₁.get? s.heap.objs.size=some { cls:=.type "list",data:=.seq #[] 0 }:=old2 _ _ (hH2 ▸ Þ _ rfl)
 have hns:h₁.Ns (s.heap.objs.size+1) λ_=>none:=by
  have z:=Heap.Ns.new H2 (ĉ (if (some X.env:Option Env).isSome=true then "dict" else "frame"))
  rw[hC,hH3] at z
  exact z.keeps old3
 have hnc:∀x c,(x,c)∈cellsFrom (s.heap.objs.size+2) scope.names []->h₁.IsCell c none:=λx c e=>by
  rw[←hC3] at e
  exact hh1 ▸ nu _ _ _ _ e
 have hfo:∀b∈fp,∃o,s.heap.get? b=some o:=λb hb=>let ⟨o,e,_⟩:=T.obj 0 _ st b hb;⟨o,e⟩
 have st₁:tn 0 h₁:=T.keep 0 _ _ st λb _ o e=>old b o e
 have I₁:=Di (own:=own) (tk:=s.toks) hk I hf hfo hns old hacc hnc
 have loop:∀s₃:Shared,s₃={ s with heap:=h₁,toks:=s.toks } ->
   codeAny (model X.prog X.w) X.A (.compLoop (.ListComp elt [⟨tg,iter,ifs,0⟩] scope pos) 0 (.ref it) (.ref s.heap.objs.size) (compEnvC scope (cellsFrom (s.heap.objs.size+2) scope.names (cM X.env.cells scope.names [])) (s.heap.objs.size+1) X.env))
    (RR (.ref s.heap.objs.size) (s.heap.objs.size+1)) s₃:=by
  rintro s₃ rfl
  have neD:∀b∈fp,b≠s.heap.objs.size:=λb hb=>by
   obtain⟨o,e⟩:=hfo b hb
   exact ä (Ï e)
  have stat:∀{H':Hp}{o:Obj},(∀b∈fp,H' b=none)->∀b∈fp,mW (X.bD own M scope ⟨cellsFrom (s.heap.objs.size+2) scope.names (cM X.env.cells scope.names []),s.heap.objs.size+1,s,H,fp⟩) [(s.heap.objs.size,o)] H' b:=λ{H' o} hn b hb =>
   ⟨hn b hb,(I₁.ok.exf b hb).1,I₁.ok.exfs b hb,.inl hb,(I₁.ok.exf b hb).2,λp hp=>by
    have hp':p=(s.heap.objs.size,o):=by simpa using hp
    subst hp'
    exact ġ (neD b hb)⟩
  refine Hr (λk s'=>∃i ys us n H',Inv (X.bD own M scope ⟨cellsFrom (s.heap.objs.size+2) scope.names (cM X.env.cells scope.names []),s.heap.objs.size+1,s,H,fp⟩) [(s.heap.objs.size,{ cls:=.type "list",data:=.seq (us:List Value).toArray n })] (Ú own.length none++σ) H' s' /\
    Vals ys us/\ys.length<=sizeLine/\tn i s'.heap/\(∀b∈fp,H' b=none)/\W i k ys H') ?_ m0 ⟨0,[],[],0,H,I₁,.nil,ü _,st₁,λb hb=>(hf b hb).1,w0⟩
  rintro k s3 ⟨i,ys,us,n,H3,I3,hv,hz,st3,fr3,w3⟩
  rcases turn ⟨cellsFrom (s.heap.objs.size+2) scope.names (cM X.env.cells scope.names []),s.heap.objs.size+1,s,H,fp⟩ i k ys H3 w3 with ⟨stop,d⟩|⟨go,hlt,N,hN,step⟩
  ·refine thn (T.done (X.bD own M scope ⟨cellsFrom (s.heap.objs.size+2) scope.names (cM X.env.cells scope.names []),s.heap.objs.size+1,s,H,fp⟩) rfl rfl rfl (hc _) i _ s3 _ H3 _ I3 (stat fr3) st3 stop) λr s4 ⟨hr,I4⟩=>?_
   subst hr
   obtain⟨m',hm',_⟩:=I4.loc
   obtain⟨J4,hDn⟩:=Dh I hf I4 (Ë.mpr rfl) hv hz
   exact fin s4 m' ys H3 hm' I4.free hDn J4 d
  ·refine thn (T.item (X.bD own M scope ⟨cellsFrom (s.heap.objs.size+2) scope.names (cM X.env.cells scope.names []),s.heap.objs.size+1,s,H,fp⟩) rfl rfl rfl (hc _) i _ s3 _ H3 _ I3 (stat fr3) st3 go) λr s4 ⟨u,hr,h4⟩=>?_
   subst hr
   refine thn h4 λ_ s5 ⟨x,H5,I5,r5,y5,st5,fr5⟩=>?_
   have I5':=I5.pinned (stat fr5) (T.obj _ _ st5)
   refine thn (hg _ _ s5 _ H5 x u _ I5' r5 (step x H5 y5)) λ_ s6 ⟨σ6,H6,I6,q6⟩=>?_
   refine thn (ht _ _ s6 σ6 H6 _ I6 q6) λb s7 ⟨H7,I7,q7⟩=>?_
   -- the turn's end: the iterator's records stand,the names are forgotten
   have clH:∀x,(x,ă)∈scope.names->∃c,(cellsFrom (s.heap.objs.size+2) scope.names (cM X.env.cells scope.names [])).lookup x=some c/\X.env.cells.lookup x=some c:=λx hx=>by
    obtain⟨c,e⟩:=I.ok.has x ((hka _ hx).2.2 rfl).2
    obtain⟨c',e'⟩:=Option.isSome_iff_exists.mp (jg (cells:=X.env.cells) (acc:=[]) hx)
    rcases mR e' with q|⟨_,q⟩
    ·simp at q
    ·rw[e] at q
     exact⟨c',(Lk (zy hk hx)).trans e',by rw[e,q];rfl⟩
   have keepT:∀{H':Hp}{σ':St}{s':Shared}{pn:List (Addr×Obj)},(∀p∈iC fp s5.heap,p∈pn)->Inv (X.bD own M scope ⟨cellsFrom (s.heap.objs.size+2) scope.names (cM X.env.cells scope.names []),s.heap.objs.size+1,s,H,fp⟩) pn σ' H' s'->tn (i+1) s'.heap/\∀b∈fp,H' b=none:=λ{H' σ' s' pn} hs I' =>
    ⟨T.keep _ _ _ st5 λb hb o e=>(I'.pin (b,o) (ç _ (hs _ (fZ hb e)))).1,λb hb=>by
     obtain⟨o,e,_⟩:=T.obj _ _ st5 b hb
     exact(I'.pin (b,o) (ç _ (hs _ (fZ hb e)))).2.1⟩
   cases b with
   |false =>
    rw[if_neg Ó]
    rw[if_neg Ó] at q7
    obtain⟨m',hm',w7⟩:=hN _ _ q7
    obtain⟨t7,f7⟩:=keepT (λp hp=>ç _ hp) I7
    exact⟨m',hm',i+1,ys,us,n,H7,tu hk I hf clH I7.j8,hv,hz,t7,f7,w7⟩
   |true =>
    rw[if_pos rfl]
    rw[if_pos rfl] at q7
    refine thn (he _ _ s7 σ6 H7 _ I7 q7) λu8 s8 ⟨v8,H8,I8,r8,q8⟩=>?_
    obtain⟨m',hm',w8⟩:=hN _ _ q8
    obtain⟨t8,f8⟩:=keepT (λp hp=>ç _ hp) I8
    obtain⟨hD8,nD8,lD8,fD8,_⟩:=I8.pin (s.heap.objs.size,{ cls:=.type "list",data:=.seq us.toArray n }) (ç _ (ú _ (Ë.mpr rfl)))
    refine append_at (hsz:=by rw[Ò,←hv.length];exact Nat.le_of_lt hlt) hD8 λh9 hs9 hD9=>?_
    have J8:Inv (X.bD own M scope ⟨cellsFrom (s.heap.objs.size+2) scope.names (cM X.env.cells scope.names []),s.heap.objs.size+1,s,H,fp⟩) (iC fp s5.heap) σ6 H8 s8:=I8.pR λp hp=>I8.pin p (ç _ (ç _ hp))
    have J9:Inv (X.bD own M scope ⟨cellsFrom (s.heap.objs.size+2) scope.names (cM X.env.cells scope.names []),s.heap.objs.size+1,s,H,fp⟩) (iC fp s5.heap) σ6 H8 { s8 with heap:=h9 }:=J8.turned (t':=s8.toks) (it:=s.heap.objs.size) (λb o hb e=>(hs9.2 b hb).trans e) nD8 lD8 (.inr (Ô _))
     (λx c e z=>by
      obtain⟨v,o,ho,hd⟩:=J8.cell x c e
      rw[z,hD8] at ho
      cases ho
      cases hd)
     (λp hp=>by
      have hp':p∈iC fp s5.heap:=by simpa using hp
      exact neD _ (uI hp').1)
    obtain⟨t9,f9⟩:=keepT (λp hp=>hp) J9
    have e9:h9.get? s.heap.objs.size=some { cls:=.type "list",data:=.seq (us++[u8]).toArray (n+1) }:=by
     rw[hD9,List.push_toArray]
    have J9':Inv (X.bD own M scope ⟨cellsFrom (s.heap.objs.size+2) scope.names (cM X.env.cells scope.names []),s.heap.objs.size+1,s,H,fp⟩) [(s.heap.objs.size,{ cls:=.type "list",data:=.seq (us++[u8]).toArray (n+1) })] σ6 H8 { s8 with heap:=h9 }:=J9.pR λp hp=>by
     have hp':p=(s.heap.objs.size,{ cls:=.type "list",data:=.seq (us++[u8]).toArray (n+1) }):=by simpa using hp
     subst hp'
     exact⟨e9,nD8,lD8,fD8,λv z=>nomatch z⟩
    exact⟨m',hm',i+1,ys++[v8],us++[u8],n+1,H8,tu hk I hf clH J9',hv.append (.cons r8 .nil),by rw[Í,è];exact hlt,t9,f9,w8⟩
 exact codeAny_compStart_list (loop _ rfl) (T.self _ 0 _ _ _ st₁ (loop _ rfl))
def uV{pins:List (Addr×Obj)}{σ:St}{H:Hp}{s:Shared}(hk:bw X.env scope X.N M=true)(I:Inv X pins σ H s):closureFor scope X.env=pure (cM X.env.cells scope.names []) :=
 Dj λx hx hf=>I.ok.has x.1 ((bH hk x hx).2.2 hf).2
def uU{pins:List (Addr×Obj)}{σ:St}{H:Hp}{s s':Shared}{C:Addr}{h':Heap}{m:Str->Option Value}(I:Inv X pins σ H s')(hs:X.s₀.heap.objs.size<=C)(hC:C≠X.env.locals)(hcl:∀x c,X.env.cells.lookup x=some c->c≠C)(hp:∀p∈X.pn++pins,p.1≠C)(hn:H C=none)(hb:Heap.SameBut C s'.heap h'):Inv X pins σ H { s' with heap:=h' }:=I.turned (t':=s'.toks) (λb o hb' e=>(hb.2 b hb').trans e) hn hC (.inr hs) hcl hp
def RJ(own M:List Str)(hc:X.calm=true)(hi:PI X tg iter wi)(hg:∀c,PG (X.bD own M scope c) tg (g c))(ht:∀c,PTs (X.bD own M scope c) ifs (tt c))(he:∀c,PE (X.bD own M scope c) elt (te c))(hk:bw X.env scope X.N M=true:=by rfl)(hs:∀x,foldedSetIterable iter X.env x=pure x:=by intro _;rfl) :
  PE X (.ListComp elt [⟨tg,iter,ifs,0⟩] scope pos) (tLC own.length wi g tt te):=by
 intro pins s σ H Q I h
 rw[eval_ListComp]
 have hka:=bH hk
 refine wpAny_comprehension_free (use:=none) rfl hs (uV hk I) (dR hk) (λx hx hl=>((hka x hx).1 hl).2) (thn (hi pins s σ H _ I h) λv s1 h1=>thn h1 λitv s2 h2=>?_)
 obtain⟨it,fp,tn,J,H2,e,I2,T,st2,f2,W,⟨m0,w0⟩,turn⟩:=h2
 subst e
 refine uT (RR:=λacc C=>compPost (model X.prog X.w) X.A X.xe none (EP X pins σ Q) acc C) (D:=λys H=>∀p,H p=none->Q (.ref p) (upd H p (.lst ys))) (λ_=>hc) hk hg ht he I2 T st2 f2 w0 turn ?_
 intro s' m' ys H' hns hCn hDn J' d
 have lt2:∀{b:Addr}{o:Obj},s2.heap.get? b=some o->b≠s2.heap.objs.size+1:=λe=>ä (ď (Ï e))
 refine⟨m',hns,λh' hb=>⟨.ref s2.heap.objs.size,_,uU (m:=m') (s:=s2) J' (õ I2.sz (Ň _)) (ġ (ä (ď I2.lt))) (λx c e=>?_) (λp hp=>?_) ?_ hb,rfl,d _ hDn⟩⟩
 ·obtain⟨v,o,ho,_⟩:=I2.cell x c e
  exact lt2 ho
 ·exact lt2 (I2.pin p hp).1
 ·rw[aj (Ļ (ō _))]
  exact hCn
def MN{Cm:Cx->Prop}(own M:List Str){i:Nat}{y:Str}{py spos:Pos}(hc:∀c,Cm (X.bD own M scope c))(hN:X.N.Nodup)(hiN:X.N[i]?=some y)(hx:Loc X.env.scope y)(hi:PIG Cm X tg iter wi)(hg:∀c,PG (X.bD own M scope c) tg (g c))(ht:∀c,PTs (X.bD own M scope c) ifs (tt c))(he:∀c,PE (X.bD own M scope c) elt (te c))(hsw:swapsWith (.ListComp elt [⟨tg,iter,ifs,0⟩] scope pos) (some (.Name y py)) spos.line X.env=pure true:=by rfl)(hk:bw X.env scope X.N M=true:=by rfl)(hs:∀x,foldedSetIterable iter X.env x=pure x:=by intro _;rfl)(hf:X.fn y=true\/X.env.scope.names.lookup y=some .local:=by first|exact .inl rfl|exact .inr rfl|assumption) :
  PS X (.Assign [.Name y py] (.ListComp elt [⟨tg,iter,ifs,0⟩] scope pos) spos) (qD (tLC own.length wi g tt te) (iY i)):=by
 intro pins s σ H D I h
 rw[exec_Assign_Name_used _ _ _ _ hsw]
 have hka:=bH hk
 refine Æ (wpAny_standAt (Æ ?_))
 show wpAny _ X.A (do let _ ←comprehension (.ListComp elt [⟨tg,iter,ifs,0⟩] scope pos) scope X.env _ (newList []) false (eval iter X.env) (some (assign (.Name y py) X.env))) _ _ s
 refine Æ (Œ (wpAny_comprehension_free (use:=some (assign (.Name y py) X.env)) (Q:=λ_ s'=>SP X pins D .next s') rfl hs (uV hk I) (dR hk) (λx hx hl=>((hka x hx).1 hl).2)
  (thn (hi pins s σ H _ I h) λv s1 h1=>thn h1 λitv s2 h2=>?_)) (λ_ s' hq=>Ö (Ö hq)) λ_ _ e=>e)
 obtain⟨it,fp,tn,J,H2,e,I2,T,st2,f2,W,⟨m0,w0⟩,turn⟩:=h2
 subst e
 refine uT (RR:=λacc C=>compPost (model X.prog X.w) X.A X.xe (some (assign (.Name y py) X.env)) (λ_ s'=>SP X pins D .next s') acc C) (D:=λys H=>∀p,H p=none->iY i (.ref p) σ (upd H p (.lst ys)) D.nx) hc hk hg ht he I2 T st2 f2 w0 turn ?_
 intro s' m' ys H' hns hCn hDn J' d
 have lt2:∀{b:Addr}{o:Obj},s2.heap.get? b=some o->b≠s2.heap.objs.size+1:=λe=>ä (ď (Ï e))
 show wpAny _ X.A (assign (.Name y py) X.env (.ref s2.heap.objs.size)) _ _ _
 refine wpAny_assign_Name (ur (v:=.ref s2.heap.objs.size) J' (λj h=>yO hN h hiN) hiN hx rfl (λs'' J'' ⟨a,hsb,ha⟩=>?_) hf)
 have hLne:X.env.locals≠s2.heap.objs.size+1:=ä (ď I2.lt)
 have hCa:s2.heap.objs.size+1≠a:=by
  rcases ha with ha|ha
  ·rw[ha];exact ġ hLne
  ·obtain⟨v,o,ho,_⟩:=I2.cell _ _ ha
   exact ġ (lt2 ho)
 refine⟨m',hns.sameBut hsb hCa,λh' hb=>⟨_,_,uU (m:=m') (s:=s2) J'' (õ I2.sz (Ň _)) (ġ hLne) (λx c e=>?_) (λp hp=>?_) ?_ hb,d _ hDn⟩⟩
 ·obtain⟨v,o,ho,_⟩:=I2.cell x c e
  exact lt2 ho
 ·exact lt2 (I2.pin p hp).1
 ·rw[aj (Ļ (ō _))]
  exact hCn
def Rk(own M:List Str){i:Nat}{y:Str}{py spos:Pos}(hc:X.calm=true)(hN:X.N.Nodup)(hiN:X.N[i]?=some y)(hx:Loc X.env.scope y)(hi:PI X tg iter wi)(hg:∀c,PG (X.bD own M scope c) tg (g c))(ht:∀c,PTs (X.bD own M scope c) ifs (tt c))(he:∀c,PE (X.bD own M scope c) elt (te c))(hsw:swapsWith (.ListComp elt [⟨tg,iter,ifs,0⟩] scope pos) (some (.Name y py)) spos.line X.env=pure true:=by rfl)(hk:bw X.env scope X.N M=true:=by rfl)(hs:∀x,foldedSetIterable iter X.env x=pure x:=by intro _;rfl)(hf:X.fn y=true\/X.env.scope.names.lookup y=some .local:=by first|exact .inl rfl|exact .inr rfl|assumption) :
  PS X (.Assign [.Name y py] (.ListComp elt [⟨tg,iter,ifs,0⟩] scope pos) spos) (qD (tLC own.length wi g tt te) (iY i)):=MN own M (λ_=>hc) hN hiN hx hi hg ht he hsw hk hs hf
def Uy(own:List Str)(hc:X.calm=true)(hi:PI X tg iter wi)(hg:∀c,PG (X.comp own scope c) tg (g c))(ht:∀c,PTs (X.comp own scope c) ifs (tt c))(he:∀c,PE (X.comp own scope c) elt (te c))(hk:d8 X.env scope X.N=true:=by rfl)(hs:∀x,foldedSetIterable iter X.env x=pure x:=by intro _;rfl) :
  PE X (.ListComp elt [⟨tg,iter,ifs,0⟩] scope pos) (tLC own.length wi g tt te):=RJ own X.N hc hi hg ht he (zV hk) hs
def Qc(own:List Str){i:Nat}{y:Str}{py spos:Pos}(hc:X.calm=true)(hN:X.N.Nodup)(hiN:X.N[i]?=some y)(hx:Loc X.env.scope y)(hi:PI X tg iter wi)(hg:∀c,PG (X.comp own scope c) tg (g c))(ht:∀c,PTs (X.comp own scope c) ifs (tt c))(he:∀c,PE (X.comp own scope c) elt (te c))(hsw:swapsWith (.ListComp elt [⟨tg,iter,ifs,0⟩] scope pos) (some (.Name y py)) spos.line X.env=pure true:=by rfl)(hk:d8 X.env scope X.N=true:=by rfl)(hs:∀x,foldedSetIterable iter X.env x=pure x:=by intro _;rfl)(hf:X.fn y=true\/X.env.scope.names.lookup y=some .local:=by first|exact .inl rfl|exact .inr rfl|assumption) :
  PS X (.Assign [.Name y py] (.ListComp elt [⟨tg,iter,ifs,0⟩] scope pos) spos) (qD (tLC own.length wi g tt te) (iY i)):=Rk own X.N hc hN hiN hx hi hg ht he hsw (zV hk) hs hf
end
section
variable {X:Cx}{tg:Expr}{K:Ý}{g:CB->TG}{tt:CB->TT}{te:CB->TE}{σ:St}{H:Hp}{Q:VK}{n:Nat}
def Wn(K:Ý)(tl:TE):TI:=λσ H R=>tl σ H λx H1=>∃a,x=.ref a/\(((∃xs,SqL K H1 a xs)/\R (Itl K a) H1)\/((∃xs,SqT K H1 a xs)/\R (Itt K a) H1))
def Rr{l:Expr}{tl:TE}(hl:PE X l tl):PI X tg l (Wn X.K tl):=by
 intro pins s σ H R I h
 refine thn (hl pins s σ H _ I h) λv s1 ⟨x,H1,I1,r1,q1⟩=>?_
 obtain⟨a,e,q1⟩:=q1
 subst e
 cases r1
 rcases q1 with ⟨⟨xs,hq⟩,q⟩|⟨⟨xs,hq⟩,q⟩
 ·obtain⟨its,rv,p,hz⟩:=I1.list hq
  refine wpAny_pyIter_list p.isList ?_
  refine⟨s1.heap.objs.size,[s1.heap.objs.size],_,_,H1,rfl,I1.kept (t':=s1.toks) λb o e=>Î _ e,Gj a _,⟨_,Þ _ rfl,rfl,rfl⟩,λb hb=>?_,q⟩
  have e:b=s1.heap.objs.size:=by simpa using hb
  subst e
  exact I1.zA (Ô _) (I1.hok.fresh (Ô _))
 ·obtain⟨its,rv,p,hz⟩:=I1.tuple hq
  refine ţ (show s1.heap.IsTuple a its.toArray from p) ?_
  refine⟨s1.heap.objs.size,[s1.heap.objs.size],_,_,H1,rfl,I1.kept (t':=s1.toks) λb o e=>Î _ e,Aj a _,⟨_,Þ _ rfl,rfl,rfl⟩,λb hb=>?_,q⟩
  have e:b=s1.heap.objs.size:=by simpa using hb
  subst e
  exact I1.zA (Ô _) (I1.hok.fresh (Ô _))
end
end L2
namespace NfSort
open PySem PySem.W PyProof.Rows
def kwp{α:Type}(n:Nat)(key:Nat->Int):KasT α->(α->Prop)->Prop
 |.ret a,Q=>Q a
 |.ask i j k,Q=>i<n/\j<n/\kwp n key (k (decide (key i<key j))) Q
theorem bC{α:Type}{n:Nat}{key:Nat->Int}{Q Q':α->Prop}(h:∀a,Q a->Q' a):∀{t:KasT α},kwp n key t Q->kwp n key t Q'
 |.ret a,q=>h a q
 |.ask _ _ k,q=>⟨q.1,q.2.1,bC h q.2.2⟩
theorem d7{α β:Type}{n:Nat}{key:Nat->Int}{f:α->KasT β}{Q:β->Prop}:∀{t:KasT α},kwp n key t (λa=>kwp n key (f a) Q)->kwp n key (t.bind f) Q
 |.ret a,q=>q
 |.ask _ _ k,q=>⟨q.1,q.2.1,d7 q.2.2⟩
theorem wu{α:Type}{n:Nat}{key:Nat->Int}{cmp:Nat->Nat->(Bool->Shared->Prop)->Shared->Prop}{s:Shared}{G:α->Shared->Prop}(hc:∀i j C,i<n->j<n->C (decide (key i<key j)) s->cmp i j C s) :
  ∀{t:KasT α},kwp n key t (λa=>G a s)->t.kasWp cmp G s
 |.ret _,q=>q
 |.ask i j k,q=>hc i j _ q.1 q.2.1 (wu hc q.2.2)
section
variable {n:Nat}{key:Nat->Int}{p:Array Nat}
def Pm(n:Nat)(p:Array Nat):Prop:=p.Perm (ê n).toArray
def kk(key:Nat->Int)(p:Array Nat)(i:Nat):Int:=key (p.getD i 0)
def Pm.size(h:Pm n p):p.size=n:=by
 have:=Array.Perm.size_eq h
 simpa using this
def getD_eq(p:Array Nat)(i:Nat):p.getD i 0=(p[i]?).getD 0:=by
 by_cases h:i<p.size <;> simp[Array.getD,h]
def Pm.lt(h:Pm n p){i:Nat}(hi:i<n):p.getD i 0<n:=by
 have hs:=h.size
 have hi':i<p.size:=by omega
 have hm:p[i]∈p.toList:=by
  have:=Array.getElem_mem hi'
  simpa using this
 have hp:p.toList.Perm (ê n):=by
  have:=Array.perm_iff_toList_perm.mp h
  simpa using this
 have e:p.getD i 0=p[i]:=by simp[Array.getD,hi']
 rw[e]
 exact Ħ.mp (hp.mem_iff.mp hm)
def Pm.rev(h:Pm n p)(i j:Nat):Pm n (kas_rev p i j):=Array.Perm.trans (mirror_perm _ _ _ _) h
def Pm.bub(h:Pm n p)(i j:Nat):Pm n (bubble p i j):=Array.Perm.trans (bubble_perm _ _ _) h
def wA(h:Pm n p){i j:Nat}(hj:j<=n)(t:Nat):kk key (kas_rev p i j) t=if i<=t/\t<j then kk key p (i+j - 1 - t) else kk key p t:=by
 unfold kk kas_rev
 rw[getD_eq,getElem?_mirror_all (by rw[h.size];exact hj)]
 split
 ·rw[getD_eq]
 ·rw[getD_eq]
def Sq(h:Pm n p){k l:Nat}(hk:k<n)(hl:l<=k)(t:Nat):kk key (bubble p k (k - l)) t=if t=l then kk key p k else if l<t/\t<=k then kk key p (t - 1) else kk key p t:=by
 unfold kk
 rw[getD_eq,getElem?_bubble (by rw[h.size];exact hk) _ (by omega)]
 have e:k - (k - l)=l:=by omega
 rw[e]
 split
 ·rw[getD_eq]
 ·split
  ·rw[getD_eq]
  ·rw[getD_eq]
def Up(key:Nat->Int)(p:Array Nat)(m:Nat):Prop:=∀i j,i<=j->j<m->kk key p i<=kk key p j
def Dn(key:Nat->Int)(p:Array Nat)(m:Nat):Prop:=∀i j,i<=j->j<m->kk key p j<=kk key p i
def Rn(key:Nat->Int)(p:Array Nat)(m q:Nat):Prop:=q+1<=m/\∀t,m<=t+q+1->t<m->kk key p t=kk key p (m - 1)
def Up.more{a:Nat}(h:Up key p a)(h1:1<=a)(hx:kk key p (a - 1)<=kk key p a):Up key p (a+1):=λi j hij hj=>by
 by_cases hja:j<a
 ·exact h i j hij hja
 ·obtain rfl:j=a:=by omega
  by_cases hi:i=j
  ·subst hi;exact Ş _
  ·exact Int.le_trans (h i (j - 1) (by omega) (by omega)) hx
def Dn.more{a:Nat}(h:Dn key p a)(h1:1<=a)(hx:kk key p a<=kk key p (a - 1)):Dn key p (a+1):=λi j hij hj=>by
 by_cases hja:j<a
 ·exact h i j hij hja
 ·obtain rfl:j=a:=by omega
  by_cases hi:i=j
  ·subst hi;exact Ş _
  ·exact Int.le_trans hx (h i (j - 1) (by omega) (by omega))
theorem Dp(hp:Pm n p):∀(f a:Nat),1<=a->a+f<=n->Up key p a->kwp n key (kas_asc p f a) (λm=>a<=m/\m<=a+f/\Up key p m/\(m<a+f->kk key p m<kk key p (m - 1)))
 |0,a,h1,hf,hu=>⟨Ô _,Ô _,hu,λh=>absurd h (by omega)⟩
 |f+1,a,h1,hf,hu=>by
  refine⟨hp.lt (by omega),hp.lt (by omega),?_⟩
  by_cases hc:key (p.getD a 0)<key (p.getD (a - 1) 0)
  ·(rw[decide_eq_true hc];dsimp only;rw[if_pos rfl])
   exact⟨Ô _,by omega,hu,λ_=>hc⟩
  ·(rw[decide_eq_false hc];dsimp only;rw[if_neg Ó])
   refine bC (λm ⟨a1,a2,a3,a4⟩=>⟨by omega,by omega,a3,λh=>a4 (by omega)⟩) (Dp hp f (a+1) (by omega) (by omega) (hu.more h1 (Int.not_lt.mp hc)))
def Em(hp:Pm n p){a q:Nat}(ha:a<=n)(hr:Rn key p a q)(t:Nat):kk key (kas_rev p (a - (q+1)) a) t=kk key p t:=by
 rw[wA hp ha]
 split
 ·rename_i h
  rw[hr.2 t (by omega) h.2]
  exact hr.2 _ (by have:=hr.1;omega) (by omega)
 ·rfl
def Dn.eq{p':Array Nat}{m:Nat}(h:Dn key p m)(e:∀t,kk key p' t=kk key p t):Dn key p' m:=λi j a b=>by rw[e,e];exact h i j a b
theorem FW:∀(f:Nat) (p:Array Nat) (a q:Nat),Pm n p->1<=a->a+f<=n->Dn key p a->Rn key p a q ->
  kwp n key (kas_desc f p a q) (λr=>Pm n r.1/\a<=r.2.1/\r.2.1<=a+f/\Dn key r.1 r.2.1/\Rn key r.1 r.2.1 r.2.2)
 |0,p,a,q,hp,h1,hf,hd,hr=>⟨hp,Ô _,Ô _,hd,hr⟩
 |f+1,p,a,q,hp,h1,hf,hd,hr=>by
  refine⟨hp.lt (by omega),hp.lt (by omega),?_⟩
  have fin:∀{p':Array Nat}{q':Nat},Pm n p'->Dn key p' (a+1)->Rn key p' (a+1) q'->kwp n key (kas_desc f p' (a+1) q') (λr=>Pm n r.1/\a<=r.2.1/\r.2.1<=a+(f+1)/\Dn key r.1 r.2.1/\Rn key r.1 r.2.1 r.2.2):=λx y z =>
   bC (λr ⟨a1,a2,a3,a4,a5⟩=>⟨a1,by omega,by omega,a4,a5⟩) (FW f _ (a+1) _ x (by omega) (by omega) y z)
  have rn0:∀p':Array Nat,Rn key p' (a+1) 0:=λp'=>⟨by omega,λt h1 h2=>by
   have e:t=a+1 - 1:=by omega
   rw[e]⟩
  by_cases hc:key (p.getD a 0)<key (p.getD (a - 1) 0)
  ·(rw[decide_eq_true hc];dsimp only;rw[if_pos rfl])
   have hc':kk key p a<kk key p (a - 1):=hc
   by_cases hq:q > 0
   ·rw[if_pos hq]
    have e:=Em (key:=key) hp (by omega) hr
    exact fin (hp.rev _ _) ((hd.more h1 (Int.le_of_lt hc')).eq e) (rn0 _)
   ·rw[if_neg hq]
    exact fin hp (hd.more h1 (Int.le_of_lt hc')) (rn0 _)
  ·(rw[decide_eq_false hc];dsimp only;rw[if_neg Ó])
   refine⟨hp.lt (by omega),hp.lt (by omega),?_⟩
   by_cases hc2:key (p.getD (a - 1) 0)<key (p.getD a 0)
   ·(rw[decide_eq_true hc2];dsimp only;rw[if_pos rfl])
    exact⟨hp,Ô _,(by show a<=a+(f+1);omega),hd,hr⟩
   ·(rw[decide_eq_false hc2];dsimp only;rw[if_neg Ó])
    have e:kk key p a=kk key p (a - 1):=Int.le_antisymm (Int.not_lt.mp hc2) (Int.not_lt.mp hc)
    refine fin hp (hd.more h1 (Int.le_of_eq e)) ⟨by have:=hr.1;omega,λt t1 t2=>?_⟩
    show _=kk key p a
    by_cases ht:t=a
    ·rw[ht]
    ·rw[e]
     exact hr.2 t (by omega) (by omega)
def xT{a:Nat}(hp:Pm n p)(h1:1<=a)(ha:a<=n)(hd:Dn key p a):kwp n key (kas_tail3 a n p) (λr=>Pm n r.2/\1<=r.1/\r.1<=n/\Up key r.2 r.1):=by
 unfold kas_tail3
 have hu:Up key (kas_rev p 0 a) a:=λi j hij hj=>by
  rw[wA hp ha,wA hp ha,if_pos ⟨by omega,by omega⟩,if_pos ⟨by omega,hj⟩]
  exact hd _ _ (by omega) (by omega)
 refine d7 (bC (λm ⟨a1,a2,a3,_⟩=>?_) (Dp (hp.rev 0 a) (n - a) a h1 (by omega) hu))
 exact⟨hp.rev 0 a,by omega,by omega,a3⟩
def o9{a:Nat}(hp:Pm n p)(ha:a+1<=n)(hd:Dn key p (a+1)):kwp n key (kas_descPart a n p) (λr=>Pm n r.2/\1<=r.1/\r.1<=n/\Up key r.2 r.1):=by
 unfold kas_descPart
 refine d7 (bC (λr ⟨a1,a2,a3,a4,a5⟩=>?_) (FW (n - (a+1)) p (a+1) 0 hp (by omega) (by omega) hd ⟨by omega,λt h1 h2=>by
  have e:t=a+1 - 1:=by omega
  rw[e]⟩))
 split
 ·exact xT (a1.rev _ _) (by omega) (by omega) (a4.eq (Em a1 (by omega) a5))
 ·exact xT a1 (by omega) (by omega) a4
def Lj(hp:Pm n p)(h1:1<=n):kwp n key (kas_count n p) (λr=>Pm n r.2/\1<=r.1/\r.1<=n/\Up key r.2 r.1):=by
 unfold kas_count
 have u1:Up key p 1:=λi j hij hj=>by
  have e:i=j:=by omega
  rw[e];exact Ş _
 refine d7 (bC (λm ⟨a1,a2,a3,a4⟩=>?_) (Dp hp (n - 1) 1 (Ô _) (by omega) u1))
 by_cases hm:m=n
 ·rw[if_pos (by simpa using hm)]
  exact⟨hp,by omega,by omega,a3⟩
 ·rw[if_neg (by simpa using hm)]
  have hlt:=a4 (by omega)
  by_cases hm1:m > 1
  ·rw[if_pos hm1]
   refine⟨hp.lt (by omega),hp.lt (by omega),?_⟩
   by_cases hc:key (p.getD 0 0)<key (p.getD (m - 1) 0)
   ·(rw[decide_eq_true hc];dsimp only;rw[if_pos rfl])
    exact⟨hp,by omega,by omega,a3⟩
   ·(rw[decide_eq_false hc];dsimp only;rw[if_neg Ó])
    have hall:∀t,t<m->kk key p t=kk key p 0:=λt ht=>by
     have e1:=a3 0 t (by omega) ht
     have e2:=a3 t (m - 1) (by omega) (by omega)
     have e3:kk key p (m - 1)<=kk key p 0:=Int.not_lt.mp hc
     omega
    have e:∀t,kk key (kas_rev p 0 m) t=kk key p t:=λt=>by
     rw[wA hp (by omega)]
     split
     ·rename_i h
      rw[hall t h.2,hall _ (by omega)]
     ·rfl
    refine o9 (hp.rev 0 m) (by omega) (Dn.eq (p:=p) (Dn.more (λi j hij hj=>?_) (by omega) (Int.le_of_lt hlt)) e)
    rw[hall i (by omega),hall j hj]
    exact Ş _
  ·rw[if_neg hm1]
   obtain rfl:m=1:=by omega
   refine o9 hp (by omega) (Dn.more (λi j hij hj=>?_) (by omega) (Int.le_of_lt hlt))
   have e:i=j:=by omega
   rw[e];exact Ş _
theorem qY{k:Nat}(hp:Pm n p)(hk:k<n)(hu:Up key p k):∀(f l r:Nat),l<=r->r<=k->r<=l+f->(∀t,t<l->kk key p t<=kk key p k)->(∀t,r<=t->t<k->kk key p k<kk key p t) ->
  kwp n key (kas_place p k f l r) (λl'=>l'<=k/\(∀t,t<l'->kk key p t<=kk key p k)/\(∀t,l'<=t->t<k->kk key p k<kk key p t))
 |0,l,r,h1,h2,h3,h4,h5=>⟨by omega,h4,λt a b=>h5 t (by omega) b⟩
 |f+1,l,r,h1,h2,h3,h4,h5=>by
  unfold kas_place
  by_cases hlr:l ≥ r
  ·rw[if_pos hlr]
   exact⟨by omega,h4,λt a b=>h5 t (by omega) b⟩
  ·rw[if_neg hlr]
   have hm:(l+r) / 2<r:=by omega
   refine⟨hp.lt hk,hp.lt (by omega),?_⟩
   by_cases hc:key (p.getD k 0)<key (p.getD ((l+r) / 2) 0)
   ·(rw[decide_eq_true hc];dsimp only;rw[if_pos rfl])
    have hc':kk key p k<kk key p ((l+r) / 2):=hc
    exact qY hp hk hu f l _ (by omega) (by omega) (by omega) h4 λt a b=>Int.lt_of_lt_of_le hc' (hu _ t a b)
   ·(rw[decide_eq_false hc];dsimp only;rw[if_neg Ó])
    have hc':kk key p ((l+r) / 2)<=kk key p k:=Int.not_lt.mp hc
    exact qY hp hk hu f _ r (by omega) (by omega) (by omega) (λt a=>Int.le_trans (hu t _ (by omega) (by omega)) hc') h5
theorem Lr:∀(f:Nat) (p:Array Nat) (k:Nat),Pm n p->k+f<=n->Up key p k->kwp n key (kas_bin f p k) (λp'=>Pm n p'/\Up key p' (k+f))
 |0,p,k,hp,hk,hu=>⟨hp,hu⟩
 |f+1,p,k,hp,hk,hu=>by
  unfold kas_bin
  refine d7 (bC (λl ⟨a1,a2,a3⟩=>?_) (qY hp (by omega) hu k 0 k (ü _) (Ô _) (by omega) (λt h=>absurd h (by omega)) (λt h1 h2=>absurd h1 (by omega))))
  have e:=Sq (key:=key) hp (k:=k) (by omega) a1
  have hu':Up key (bubble p k (k - l)) (k+1):=λi j hij hj=>by
   rw[e,e]
   by_cases hi:i=l
   ·rw[if_pos hi]
    by_cases hj':j=l
    ·rw[if_pos hj'];exact Ş _
    ·rw[if_neg hj',if_pos ⟨by omega,by omega⟩]
     exact Int.le_of_lt (a3 _ (by omega) (by omega))
   ·rw[if_neg hi]
    by_cases hi2:l<i/\i<=k
    ·rw[if_pos hi2,if_neg (by omega),if_pos ⟨by omega,by omega⟩]
     exact hu _ _ (by omega) (by omega)
    ·rw[if_neg hi2]
     by_cases hj':j=l
     ·rw[if_pos hj']
      exact a2 i (by omega)
     ·rw[if_neg hj']
      by_cases hj2:l<j/\j<=k
      ·rw[if_pos hj2]
       exact hu _ _ (by omega) (by omega)
      ·rw[if_neg hj2]
       exact hu _ _ hij (by omega)
  refine bC (λp' ⟨b1,b2⟩=>⟨b1,?_⟩) (Lr f _ (k+1) (hp.bub _ _) (by omega) hu')
  have e2:k+(f+1)=k+1+f:=by omega
  rw[e2];exact b2
def Mv(h1:1<=n):kwp n key (kas_sort n) (λp=>Pm n p/\Up key p n):=by
 unfold kas_sort
 refine d7 (bC (λr ⟨a1,a2,a3,a4⟩=>?_) (Lj (p:=(ê n).toArray) (Array.Perm.refl _) h1))
 have e:max r.1 1=r.1:=by omega
 rw[e]
 split
 ·refine bC (λp' ⟨b1,b2⟩=>⟨b1,?_⟩) (Lr (n - r.1) r.2 r.1 a1 (by omega) a4)
  have e2:r.1+(n - r.1)=n:=by omega
  rw[e2] at b2;exact b2
 ·have e2:r.1=n:=by omega
  rw[e2] at a4
  exact⟨a1,a4⟩
end
end NfSort
namespace L2
open PySem PySem.Spec PyProof.Rows
section
variable {prog:Program}{w:World}{A:Around}{E:Value->Shared->Prop}{s:Shared}
end
section
variable {X:Cx}{pos:Pos}
def Oq(K:Ý)(n:Nat)(t:TGs):TG:=λv σ H Q=>∃a xs,v=.ref a/\SqL K H a xs/\xs.length=n/\t xs σ H Q
end
section
variable {X:Cx}
def w5:aP X (.builtin "isinstance") (λxs H Q=>∃x c t b,xs=[x,.ty c]/\TyOf X.K H x t/\W.kitOne X.K t (.type c)=some b/\Q (.bl b) H):=by
 intro pins s σ H xs us Q I r h
 obtain⟨x,c,t,b,rfl,ty,e,q⟩:=h
 obtain⟨u,u2,rfl,rx,rc⟩:=vals2 r
 cases rc
 exact G9 I rx ty e λtk=>⟨.bl b,H,I.tok _,rfl,q⟩
def yD:OpR X (compareOp .IsNot) (λx y H Q=>∃a b,x=.bl a/\y=.bl b/\Q (.bl (!decide (a=b))) H):=by
 intro pins s σ H x y v u Q I rx ry h
 obtain⟨a,b,rfl,rfl,q⟩:=h
 cases rx
 cases ry
 refine Ö ?_
 refine⟨.bl (!decide (a=b)),H,I,?_,q⟩
 cases a <;> cases b <;> rfl
theorem u6:∀{bs:List Bool}{us:List Value},Vals (bs.map V.bl) us->us=bs.map Value.bool
 |[],_,h=>by cases h;rfl
 |b::bs,_,h=>by
  cases h with
  |cons r t =>
   cases r
   rw[u6 t]
   rfl
def all_range(bs:List Bool):(ê bs.length).all (λi=>bs.getD i true)=bs.all id:=by
 rw[ĕ]
 simp only[Ĕ,Ħ]
 constructor
 ·intro h x hx
  obtain⟨i,hi,e⟩:=Ŧ.mp hx
  have q:=h i hi
  simp[hi] at q
  rw[←e];exact q
 ·intro h i hi
  have q:=h bs[i] (į hi)
  simpa[hi] using q
def HF(hc:X.calm=true):aP X (.builtin "all") (λxs H Q=>∃(p:Addr) (bs:List Bool),xs=[.ref p]/\SqL X.K H p (bs.map V.bl)/\Q (.bl (bs.all id)) H):=by
 intro pins s σ H xs us Q I r h
 obtain⟨p,bs,rfl,hp,q⟩:=h
 obtain⟨u,rfl,rx⟩:=vals1 r
 cases rx
 obtain⟨its,rv,pl,hz⟩:=I.list hp
 have e:=u6 rv
 subst e
 have hlt:p≠s.heap.objs.size:=by obtain⟨o,ho,_⟩:=pl.isList;exact ä (Ï ho)
 refine call_all_walk (wpAny_pyIter_list pl.isList ?_)
 refine⟨_,_,_,_,_,_,λi=>bs.getD i true,rfl,Walks.list (A:=X.A.in1) (I.ok.hd hc) _ p hlt _,⟨⟨_,Þ _ rfl,rfl,rfl⟩,pl.isList.push _⟩,?_,λh' tk hk=>?_⟩
 ·intro i v s Q E hP hQ
  have hP':(bs.map Value.bool)[i]?=some v:=by simpa using hP
  rw[Û] at hP'
  cases hb:bs[i]? with
  |none=>rw[hb] at hP';cases hP'
  |some b =>
   rw[hb] at hP'
   cases hP'
   refine ģ ?_
   have e:bs.getD i true=b:=by rw[ö,hb];rfl
   have hQ':Q (bs.getD i true) s:=hQ
   rw[e] at hQ'
   exact hQ'
 ·have e:(ê (bs.map Value.bool).toArray.size).all (λi=>bs.getD i true)=bs.all id:=by
   rw[Ò,Ä]
   exact all_range bs
  rw[e]
  refine⟨.bl (bs.all id),H,I.kept λb o eb=>hk b o ?_ (Î _ eb),rfl,q⟩
  intro hm
  have:b=s.heap.objs.size:=by simpa using hm
  exact absurd (Ï eb) (by rw[this];exact ċ _)
def Hv(hc:X.calm=true):aP X (.builtin "min") (λxs H Q=>∃p a b,xs=[.ref p]/\SqT X.K H p [.int a,.int b]/\Q (.int (if b<a then b else a)) H):=by
 intro pins s σ H xs us Q I r h
 obtain⟨p,a,b,rfl,hp,q⟩:=h
 obtain⟨u,rfl,rx⟩:=vals1 r
 cases rx
 obtain⟨its,rv,pl,hz⟩:=I.tuple hp
 obtain⟨v1,v2,rfl,⟨t1,rfl⟩,⟨t2,rfl⟩⟩:=vals2 rv
 have pl':s.heap.IsTuple p (intItems #[(a,t1),(b,t2)]):=by
  have z:s.heap.IsTuple p #[œ a t1,œ b t2]:=pl
  simpa[intItems] using z
 have hlt:p<s.heap.objs.size:=by obtain⟨o,ho,_⟩:=pl;exact Ï ho
 refine call_min_walk (ţ pl' ?_)
 refine⟨_,[s.heap.objs.size,p],[s.heap.objs.size],_,_,_,_,rfl,Walks.tuple (A:=X.A.in1) (I.ok.hd hc) _ p (ä hlt) (intItems #[(a,t1),(b,t2)]),⟨⟨_,Þ _ rfl,rfl,rfl⟩,pl'.push _⟩,λc hc=>?_,by simp[intItems],
  CmpOf.ints_lt (numAt #[(a,t1),(b,t2)]) (λ_ _=>intItems_at),λv h' tk hP hk=>?_⟩
 ·show c<(s.heap.push _).objs.size
  rw[ĸ]
  rcases Ü.mp hc with rfl|hc
  ·exact ō _
  ·have:c=p:=by simpa using hc
   rw[this];exact ď hlt
 ·have hv:v=if b<a then œ b t2 else œ a t1:=by
   have hP':(intItems #[(a,t1),(b,t2)])[argBest (λi j=>decide (numAt #[(a,t1),(b,t2)] i<numAt #[(a,t1),(b,t2)] j)) 1]?=some v:=by
    have hsz2:(intItems #[(a,t1),(b,t2)]).size - 1=1:=by simp[intItems]
    rw[←hsz2];exact hP
   by_cases hba:b<a
   ·have e:argBest (λi j=>decide (numAt #[(a,t1),(b,t2)] i<numAt #[(a,t1),(b,t2)] j)) 1=1:=by simp[argBest,numAt,hba]
    rw[e] at hP'
    simpa[intItems,hba] using hP'.symm
   ·have e:argBest (λi j=>decide (numAt #[(a,t1),(b,t2)] i<numAt #[(a,t1),(b,t2)] j)) 1=0:=by simp[argBest,numAt,hba]
    rw[e] at hP'
    simpa[intItems,hba] using hP'.symm
  subst hv
  refine⟨.int (if b<a then b else a),H,I.kept λb o eb=>hk b o ?_ (Î _ eb),?_,q⟩
  ·intro hm
   have:b=s.heap.objs.size:=by simpa using hm
   exact absurd (Ï eb) (by rw[this];exact ċ _)
  ·by_cases hba:b<a
   ·rw[if_pos hba,if_pos hba];exact⟨_,rfl⟩
   ·rw[if_neg hba,if_neg hba];exact⟨_,rfl⟩
def Hx(hc:X.calm=true):aP X (.builtin "max") (λxs H Q=>∃p a b,xs=[.ref p]/\SqT X.K H p [.int a,.int b]/\Q (.int (if b > a then b else a)) H):=by
 intro pins s σ H xs us Q I r h
 obtain⟨p,a,b,rfl,hp,q⟩:=h
 obtain⟨u,rfl,rx⟩:=vals1 r
 cases rx
 obtain⟨its,rv,pl,hz⟩:=I.tuple hp
 obtain⟨v1,v2,rfl,⟨t1,rfl⟩,⟨t2,rfl⟩⟩:=vals2 rv
 have pl':s.heap.IsTuple p (intItems #[(a,t1),(b,t2)]):=by
  have z:s.heap.IsTuple p #[œ a t1,œ b t2]:=pl
  simpa[intItems] using z
 have hlt:p<s.heap.objs.size:=by obtain⟨o,ho,_⟩:=pl;exact Ï ho
 refine call_max_walk (ţ pl' ?_)
 refine⟨_,[s.heap.objs.size,p],[s.heap.objs.size],_,_,_,_,rfl,Walks.tuple (A:=X.A.in1) (I.ok.hd hc) _ p (ä hlt) (intItems #[(a,t1),(b,t2)]),⟨⟨_,Þ _ rfl,rfl,rfl⟩,pl'.push _⟩,λc hc=>?_,by simp[intItems],
  CmpOf.ints_gt (numAt #[(a,t1),(b,t2)]) (λ_ _=>intItems_at),λv h' tk hP hk=>?_⟩
 ·show c<(s.heap.push _).objs.size
  rw[ĸ]
  rcases Ü.mp hc with rfl|hc
  ·exact ō _
  ·have:c=p:=by simpa using hc
   rw[this];exact ď hlt
 ·have hv:v=if b > a then œ b t2 else œ a t1:=by
   have hP':(intItems #[(a,t1),(b,t2)])[argBest (λi j=>decide (numAt #[(a,t1),(b,t2)] i > numAt #[(a,t1),(b,t2)] j)) 1]?=some v:=by
    have hsz2:(intItems #[(a,t1),(b,t2)]).size - 1=1:=by simp[intItems]
    rw[←hsz2];exact hP
   by_cases hba:b > a
   ·have e:argBest (λi j=>decide (numAt #[(a,t1),(b,t2)] i > numAt #[(a,t1),(b,t2)] j)) 1=1:=by simp[argBest,numAt,hba]
    rw[e] at hP'
    simpa[intItems,hba] using hP'.symm
   ·have e:argBest (λi j=>decide (numAt #[(a,t1),(b,t2)] i > numAt #[(a,t1),(b,t2)] j)) 1=0:=by simp[argBest,numAt,hba]
    rw[e] at hP'
    simpa[intItems,hba] using hP'.symm
  subst hv
  refine⟨.int (if b > a then b else a),H,I.kept λb o eb=>hk b o ?_ (Î _ eb),?_,q⟩
  ·intro hm
   have:b=s.heap.objs.size:=by simpa using hm
   exact absurd (Ï eb) (by rw[this];exact ċ _)
  ·by_cases hba:b > a
   ·rw[if_pos hba,if_pos hba];exact⟨_,rfl⟩
   ·rw[if_neg hba,if_neg hba];exact⟨_,rfl⟩
def SM{prog:Program}{w:World}{A:Around}{E:Value->Shared->Prop}{s:Shared}{l:Addr}{n:Nat}{x:Int}{t:Tok}{u:Value}{Q:Value->Shared->Prop}{its:List Value}(ho:s.heap.get? l=some { cls:=.type "list",data:=.seq its.toArray n })(hfit:¬(!Builtin.List.listFitsIndex x)=true)(hsz:its.toArray.size<=sizeLine)(h:Q .none { s with heap:=s.heap.update l (ô λxs=>(xs.extract 0 (if x<0 then (x+(xs.size:Int)).toNat else min x.toNat xs.size)).push u++xs.extract (if x<0 then (x+(xs.size:Int)).toNat else min x.toNat xs.size)),toks:=s.toks }) :
  wpAny (model prog w) A (call (.builtin "list.insert") [.ref l,.int x t,u]) Q E s:=by
 generalize its.toArray=ia at ho hsz
 exact call_meets PySem.F.slot_list_insert ⟨_,ho,rfl⟩ PySem.F.entry_list_insert (PySem.F.args_list_insert_3 _ _ _) (PySem.AutoSeq1.list_insert_list_int_val_1 l ia n x t u hfit hsz) ⟨ho,h⟩
def Eo:V->List V->Hp->VK->Prop:=λx vs H Q=>∃l xs k y,x=.ref l/\vs=[.int (k:Nat),y]/\H l=some (.lst xs)/\k<=xs.length/\xs.length<sizeLine/\Q .non (upd H l (.lst (xs.take k++y::xs.drop k)))
def GR:MtM X "list.insert" Eo:=by
 intro pins s σ H x vs v us Q I rx rv h
 obtain⟨l,xs,k,y,rfl,rfl,hH,hk,hz,q⟩:=h
 cases rx
 obtain⟨u1,u,rfl,⟨t,rfl⟩,ru⟩:=rv.two
 obtain⟨z,its,n,r,hl,e⟩:=I.tZ hH
 have h24:(sizeLine:Nat)=16777216:=ą
 have hfit:¬(!Builtin.List.listFitsIndex (k:Int))=true:=by
  have q1:decide (-(2 ^ 63:Int)<=(k:Int))=true:=decide_eq_true (by omega)
  have q2:decide ((k:Int)<2 ^ 63)=true:=decide_eq_true (by omega)
  unfold Builtin.List.listFitsIndex
  rw[q1,q2]
  exact Ó
 have hsz:its.toArray.size<=sizeLine:=by
  have e1:its.toArray.size=xs.length:=(Ò ..).trans hl.symm
  rw[e1]
  exact z
 have hx0:¬((k:Int)<0):=by omega
 have hxk:(k:Int).toNat=k:=ĩ k
 generalize hx:(k:Int)=x at hfit hx0 hxk
 refine SM (its:=its) e hfit hsz ?_
 refine⟨.non,_,I.GZ (its':=its.take k++u::its.drop k) hH e ?_ ?_ ?_,rfl,q⟩
 ·have hm:min k its.length=k:=by omega
  have e2:=W.kl_ins_eq its k u
  simp only[hx0,if_false,hxk,Ò,hm]
  exact e2
 ·exact(r.take k).append (.cons ru (r.drop k))
 ·rw[Í,ï,ě,ŝ]
  omega
end
abbrev Tie:=Int×Int
def Pr(H:Hp)(v:V)(t:Tie):Prop:=∃p,v=.ref p/\H p=some (.tup [.int t.1,.int t.2])
abbrev Prs(H:Hp):List V->List Tie->Prop:=Paired (Pr H)
def aR(t:Tie):Int:=64 * t.1+t.2
def Af(t:Tie):Prop:=0<=t.2/\t.2<64
def ji(h:Heap)(u:Value)(t:Tie):Prop:=∃a o t1 t2 n,u=.ref a/\h.get? a=some o/\o.cls=.type "tuple"/\o.data=.seq #[.int t.1 t1,.int t.2 t2] n
def ji.keep{h h':Heap}{u:Value}{t:Tie}(x:ji h u t)(k:∀a o,h.get? a=some o->o.cls=.type "tuple"->h'.get? a=some o):ji h' u t:=by
 obtain⟨a,o,t1,t2,n,e,ho,hc,hd⟩:=x
 exact⟨a,o,t1,t2,n,e,k a o ho hc,hc,hd⟩
def Uv{α β:Type}{F:α->β->Prop}{l₁:List α}{l₂:List β}(h:Paired F l₁ l₂):∀{i:Nat}{b:β},l₂[i]?=some b->∃a,l₁[i]?=some a/\F a b:=by
 induction h with
 |nil=>intro i x e;simp at e
 |cons r t ih =>
  intro i x e
  cases i with
  |zero=>simp at e;subst e;exact⟨_,rfl,r⟩
  |succ i =>
   obtain⟨c,e1,f⟩:=ih (by simpa using e)
   exact⟨c,by simpa using e1,f⟩
theorem Jw{α β:Type}{F:α->β->Prop}{l₁:List α}{l₂:List β}(h:Paired F l₁ l₂)(da:α)(db:β):∀(p:List Nat),(∀i∈p,i<l₂.length)->Paired F (p.map λi=>l₁.getD i da) (p.map λi=>l₂.getD i db)
 |[],_=>.nil
 |i::p,hp=>by
  have hi:i<l₂.length:=hp i Ñ
  obtain⟨a,e,f⟩:=Uv h (i:=i) (b:=l₂[i]) (by simp[hi])
  refine .cons ?_ (Jw h da db p λj hj=>hp j (Ê _ hj))
  have e1:l₁.getD i da=a:=by rw[ö,e];rfl
  have e2:l₂.getD i db=l₂[i]:=by simp[hi]
  show F (l₁.getD i da) (l₂.getD i db)
  rw[e1,e2]
  exact f
theorem Uk{α:Type}:∀us:List α,List.map (λx=>x.snd) (us.zip us)=us
 |[]=>rfl
 |u::us=>by rw[List.zip_cons_cons,ò,Uk us]
def iT{α:Type}(l:List α)(d:α):(ê l.length).map (λi=>l.getD i d)=l:=by
 apply List.ext_getElem
 ·simp
 ·intro i h1 h2
  simp at h1 ⊢
  simp[h1]
section
variable {X:Cx}{pins:List (Addr×Obj)}{σ:St}{H:Hp}{s:Shared}
theorem Inv.pairs(I:Inv X pins σ H s):∀{vs:List V}{ts:List Tie}{us:List Value},Prs H vs ts->Vals vs us->Paired (ji s.heap) us ts
 |_,_,_,.nil,r=>by cases r;exact .nil
 |_,_,_,.cons p q,r=>by
  cases r with
  |cons r rr =>
   refine .cons ?_ (I.pairs q rr)
   obtain⟨a,rfl,e⟩:=p
   cases r
   obtain⟨_,its,rv,⟨o,ho,hc,n,hd⟩⟩:=I.hok a _ e
   obtain⟨v1,v2,rfl,⟨t1,rfl⟩,⟨t2,rfl⟩⟩:=vals2 rv
   exact⟨a,o,t1,t2,n,rfl,ho,hc,hd⟩
end
section
variable {prog:Program}{w:World}{A:Around}{E:Value->Shared->Prop}{s:Shared}
def J5{x y:Value}{a b:Tie}{Q:Bool->Shared->Prop}(hx:ji s.heap x a)(hy:ji s.heap y b)(na:Af a)(nb:Af b)(h:Q (decide (aR a<aR b)) s):wpAny (model prog w) A (keyLt' (tuples' true) x y) Q E s:=by
 obtain⟨p,o,t1,t2,n,rfl,ho,hc,hd⟩:=hx
 obtain⟨p',o',t1',t2',n',rfl,ho',hc',hd'⟩:=hy
 obtain⟨a1,a2⟩:=a
 obtain⟨b1,b2⟩:=b
 unfold Af at na nb
 simp only at na nb
 refine W.kat_lt ho hd ho' hd' ?_
 refine W.kat_cons (wpAny_eqBool_int ?_)
 by_cases e1:a1=b1
 ·subst e1
  rw[beq_self_eq_true]
  refine W.kat_yes (W.kat_cons (wpAny_eqBool_int ?_))
  by_cases e2:a2=b2
  ·subst e2
   rw[beq_self_eq_true]
   refine W.kat_yes (W.kat_nil ?_)
   have e:decide (aR (a1,a2)<aR (a1,a2))=false:=decide_eq_false (Int.lt_irrefl _)
   rw[e] at h
   exact h
  ·rw[beq_eq_false_iff_ne.mpr e2]
   refine W.kat_no (W.kat_one _ _ (lt_int ?_))
   have e:decide (aR (a1,a2)<aR (a1,b2))=decide (a2<b2):=by
    apply decide_eq_decide.mpr
    unfold aR
    omega
   rw[e] at h
   exact h
 ·rw[beq_eq_false_iff_ne.mpr e1]
  refine W.kat_no (oneLt_int ?_)
  have e:decide (aR (a1,a2)<aR (b1,b2))=decide (a1<b1):=by
   apply decide_eq_decide.mpr
   unfold aR
   simp only
   constructor
   ·intro h;omega
   ·intro h;omega
  rw[e] at h
  exact h
theorem Kg:∀{us:List Value}{ts:List Tie},Paired (ji s.heap) us ts->∃fs,W.KatTups s.heap us fs/\fs.length=us.length/\∀v∈fs,∃i t,v=œ i t
 |_,_,.nil=>⟨[],.nil,rfl,λ_ h=>nomatch h⟩
 |_,_,.cons p q=>by
  obtain⟨a,o,t1,t2,n,rfl,ho,hc,hd⟩:=p
  obtain⟨fs,k,hl,hv⟩:=Kg q
  refine⟨_::fs,.cons ho hc hd (f:=œ _ t1) rfl k,by simp[hl],λv hv'=>?_⟩
  rcases Ü.mp hv' with rfl|h
  ·exact⟨_,_,rfl⟩
  ·exact hv v h
def TX{n:Nat}{key:Nat->Int}{p:Array Nat}(hp:NfSort.Pm n p)(h1:1<=n)(hs:NfSort.Up key p n):NfSort.kwp n key (W.kas_count n p) (λr=>r.1=n/\r.2=p):=by
 unfold W.kas_count
 have go:∀(f a:Nat),1<=a->a+f=n->NfSort.kwp n key (W.kas_asc p f a) (λm=>m=n):=by
  intro f
  induction f with
  |zero=>intro a _ h;exact h
  |succ f ih =>
   intro a ha h
   refine⟨hp.lt (by omega),hp.lt (by omega),?_⟩
   have hc:¬key (p.getD a 0)<key (p.getD (a - 1) 0):=Int.not_lt.mpr (hs (a - 1) a (by omega) (by omega))
   rw[decide_eq_false hc]
   exact ih (a+1) (by omega) (by omega)
 refine NfSort.d7 (NfSort.bC (λm e=>?_) (go (n - 1) 1 (Ô _) (by omega)))
 rw[if_pos (by simpa using e)]
 exact⟨e,rfl⟩
open PySem.W in
def Mz{prog:Program}{w:World}{A:Around}{E:Value->Shared->Prop}{κ:SortKind}{it:Array Keyed}{n:Nat}{Q:Unit->SortSt->Shared->Prop}{G:Array Nat->Shared->Prop}{s:Shared}(h2:2<=n)(hmr:minRun' n n 0<=n)(hG:∀p' st' s',p'.size=n->arrOf st'=p'.map (kas_item it)->failedOf st'=none->G p' s'->Q () st' s')(h:(kas_count n (ť (ê n))).kasWp (kas_cmp prog w A κ it) (λr s'=>r.1=n/\G r.2 s') s) :
  kasC (model prog w) A E sortRuns' Q (kas_st κ it (ť (ê n))) s:=by
 obtain⟨r,rfl⟩:∃r,n=r+2:=⟨n - 2,by omega⟩
 have hrs:(ť (ê (r+2))).size=r+2:=by simp
 rw[sortRuns'_eq]
 refine kasC_bind (kasC_get ?_)
 dsimp only
 have hsz:(arrOf (kas_st κ it (ť (ê (r+2))))).size=r+2:=by
  show((ť (ê (r+2))).map (kas_item it)).size=_
  rw[Array.size_map,hrs]
 simp only[hsz]
 refine kasC_bind (kasC_range ?_)
 show kasC _ _ _ (forIn (0::1::List.range' 2 r) _ _) _ _ _
 refine kasC_cons ?_
 dsimp only
 rw[if_neg (by omega)]
 simp only[Nat.sub_zero,Nat.zero_add]
 refine kasC_bind (kas_count_ (by omega) (by rw[hrs];exact Ô _) (λm p' s' hm1 hm2 hp hg=>?_) h)
 have hps:p'.size=r+2:=hp.trans hrs
 obtain⟨e,hg⟩:=hg
 have e':m=r+2:=e
 subst e'
 dsimp only
 rw[if_neg (by omega)]
 refine kasC_bind (kasC_get ?_)
 rw[show(pendingOf (kas_st κ it p')).back?=none from rfl]
 dsimp only
 refine kasC_bind (kasC_modify (kasC_pure ?_))
 show kasC _ _ _ (forIn (1::List.range' 2 r) _ _) _ _ _
 refine kasC_cons ?_
 dsimp only
 rw[if_pos (Ô _)]
 refine kasC_pure ?_
 dsimp only
 refine kasC_bind (kasC_range ?_)
 show kasC _ _ _ (forIn (0::1::List.range' 2 r) _ _) _ _ _
 refine kasC_cons ?_
 refine kasC_bind (kasC_get ?_)
 rw[if_pos (show(pendingOf (setPending (kas_st κ it p') ((pendingOf (kas_st κ it p')).push (0,r+2,0)))).size<=1 from Ô 1)]
 refine kasC_pure ?_
 dsimp only
 exact kasC_pure (hG p' _ _ hps rfl rfl hg)
def Srt(ts:List Tie):Prop:=ts.length<64\/ts.length=300/\∀i j,i<=j->j<ts.length->aR (ts.getD i (0,0))<=aR (ts.getD j (0,0))
theorem Srt.lt{ts:List Tie}:Srt ts->ts.length<512
 |.inl h=>by omega
 |.inr h=>by omega
def Gs{a:Addr}{us:List Value}{ts:List Tie}{n:Nat}{P:PySem.Fin->Shared->Prop}(ho:s.heap.get? a=some (seqObj "list" us.toArray n))(hp:Paired (ji s.heap) us ts)(hn:∀t∈ts,Af t)(h64:Srt ts)(h:∀p:List Nat,p.Perm (ê us.length)->(∀i j,i<=j->j<us.length->aR (ts.getD (p.getD i 0) (0,0))<=aR (ts.getD (p.getD j 0) (0,0))) ->
   P (.done (.ret .none)) { s with heap:=sortedHeap s.heap a us (p.map λi=>us.getD i İ).toArray }) :
  wpAny (model prog w) A (Builtin.«list.sort» ⟨[.ref a],[]⟩) P E s:=by
 have hlen:=hp.length
 have hbig:=h64.lt
 have h24:=ą
 rw[list_sort_plain]
 have ha:a<s.heap.objs.size:=Ï ho
 refine Æ (listItems_at ho rfl ?_)
 refine Æ (listUpdate_at ho rfl ?_ (by rw[Ò,ą];omega) (ü _))
 obtain⟨e1,ho1⟩:∃e1,(s.heap.update a (ô λ_=>(#[]:Array Value))).get? a=some (seqObj "list" #[] e1):=⟨_,get?_update_seq ho (λ_=>#[])⟩
 refine Æ (seqEpoch_at ho1 rfl ?_)
 refine Æ (wpAny_newTuple ?_ (by show us.length<=_;rw[ą];omega))
 refine Æ (wpAny_newList ?_ (ü _))
 refine Ě ?_
 have ho6:(((s.heap.update a (ô λ_=>(#[]:Array Value))).push (seqObj "tuple" us.toArray 0)).push (seqObj "list" #[] 0)).get? a=some (seqObj "list" #[] e1):=by
  rw[Heap.get?_push_ne _ _ _ (by rw[size_push',ś];exact ä (ď ha)),Heap.get?_push_ne _ _ _ (by rw[ś];exact ä ha)]
  exact ho1
 have kept:∀b o,s.heap.get? b=some o->o.cls=.type "tuple"->(((s.heap.update a (ô λ_=>(#[]:Array Value))).push (seqObj "tuple" us.toArray 0)).push (seqObj "list" #[] 0)).get? b=some o:=λb o q hc=>by
  have hlt:b<s.heap.objs.size:=Ï q
  have hne:b≠a:=λz=>by
   rw[z,ho] at q
   cases q
   have z2:(ĉ "list")=ĉ "tuple":=hc
   injection z2 with z3
   exact absurd z3 (by decide)
  rw[Heap.get?_push_ne _ _ _ (by rw[size_push',ś];exact ä (ď hlt)),Heap.get?_push_ne _ _ _ (by rw[ś];exact ä hlt),Heap.get?_update_ne _ _ _ _ hne]
  exact q
 show wpAny (model prog w) A _ P E { s with heap:=((s.heap.update a (ô λ_=>(#[]:Array Value))).push (seqObj "tuple" us.toArray 0)).push (seqObj "list" #[] 0) }
 dsimp only
 have hsz:us.toArray.size=us.length:=by simp
 have hp6:Paired (ji (((s.heap.update a (ô λ_=>(#[]:Array Value))).push (seqObj "tuple" us.toArray 0)).push (seqObj "list" #[] 0))) us ts:=Paired.GX hp λu t x=>x.keep kept
 by_cases h2:us.toArray.size<2
 ·rw[if_pos h2,if_pos h2]
  refine Æ (Ö ?_)
  rw[StateT.run_pure]
  refine Æ (Ö ?_)
  dsimp only
  have eout:(arrOf (SortSt.mk' general' (us.toArray.zip us.toArray) #[] 7 none)).map (·.2)=((ê us.length).map λi=>us.getD i İ).toArray:=by
   rw[iT]
   show(us.toArray.zip us.toArray).map (·.2)=us.toArray
   apply Array.toList_inj.mp
   simp
   exact Uk us
  rw[eout]
  refine Æ (seqEpoch_at ho6 rfl ?_)
  refine Æ (listUpdate_at ho6 rfl ?_ (ü _) (by rw[Ò,Ä,ł,ą];omega))
  simp only[bne_self_eq_false,Ĭ,if_false]
  refine Ö (h _ (List.Perm.refl _) λi j hij hj=>?_)
  have:i=j:=by omega
  subst this
  exact Ş _
 ·rw[if_neg h2,if_neg h2]
  have h2':2<=us.length:=by omega
  obtain⟨fs,hk,hfl,hfi⟩:=Kg (s:={ s with heap:=((s.heap.update a (ô λ_=>(#[]:Array Value))).push (seqObj "tuple" us.toArray 0)).push (seqObj "list" #[] 0) }) hp6
  refine Æ (W.kat_kind (T:=.type "int") hk (by omega) (λv hv=>by obtain⟨i,t,rfl⟩:=hfi v hv;exact W.Looks.of_pure rfl) rfl ?_)
  have hcmp:∀i j C,i<us.length->j<us.length->C (decide (aR (ts.getD i (0,0))<aR (ts.getD j (0,0)))) { s with heap:=((s.heap.update a (ô λ_=>(#[]:Array Value))).push (seqObj "tuple" us.toArray 0)).push (seqObj "list" #[] 0) } ->
    W.kas_cmp prog w A (tuples' true) (us.toArray.zip us.toArray) i j C { s with heap:=((s.heap.update a (ô λ_=>(#[]:Array Value))).push (seqObj "tuple" us.toArray 0)).push (seqObj "list" #[] 0) }:=λi j C hi hj hC=>by
   unfold W.kas_cmp
   rw[W.kat_item rfl,W.kat_item rfl]
   have key:∀k,k<us.length->ji (((s.heap.update a (ô λ_=>(#[]:Array Value))).push (seqObj "tuple" us.toArray 0)).push (seqObj "list" #[] 0)) (us.getD k İ) (ts.getD k (0,0))/\Af (ts.getD k (0,0)):=λk hk=>by
    have hk':k<ts.length:=by omega
    have ek:ts.getD k (0,0)=ts[k]:=by simp[hk']
    obtain⟨u,eu,pu⟩:=Uv hp6 (i:=k) (b:=ts[k]) (by simp[hk'])
    have eu':us.getD k İ=u:=by rw[ö,eu];rfl
    rw[ek,eu']
    exact⟨pu,hn _ (į hk')⟩
   exact J5 (key i hi).1 (key j hj).1 (key i hi).2 (key j hj).2 hC
  have G:W.kasC (model prog w) A E sortRuns' (λ_ st' s'=>∃p:Array Nat,s'={ s with heap:=((s.heap.update a (ô λ_=>(#[]:Array Value))).push (seqObj "tuple" us.toArray 0)).push (seqObj "list" #[] 0) }/\arrOf st'=p.map (W.kas_item (us.toArray.zip us.toArray))/\failedOf st'=none/\NfSort.Pm us.length p/\NfSort.Up (λi=>aR (ts.getD i (0,0))) p us.length) (W.kas_st (tuples' true) (us.toArray.zip us.toArray) (ť (ê us.length))) { s with heap:=((s.heap.update a (ô λ_=>(#[]:Array Value))).push (seqObj "tuple" us.toArray 0)).push (seqObj "list" #[] 0) }:=by
   rcases h64 with h64|⟨h64,hs⟩
   ·exact W.kas_runs (G:=λp s'=>s'={ s with heap:=((s.heap.update a (ô λ_=>(#[]:Array Value))).push (seqObj "tuple" us.toArray 0)).push (seqObj "list" #[] 0) }/\NfSort.Pm us.length p/\NfSort.Up (λi=>aR (ts.getD i (0,0))) p us.length) h2' (by omega) (λp' st' s' a1 a2 a3 a4=>⟨p',a4.1,a2,a3,a4.2⟩)
     (NfSort.wu hcmp (NfSort.bC (λp hp=>⟨rfl,hp⟩) (NfSort.Mv (by omega))))
   ·have hu:NfSort.Up (λi=>aR (ts.getD i (0,0))) (ť (ê us.length)) us.length:=λi j hij hj=>by
     unfold NfSort.kk
     have eg:∀k,k<us.length->(ť (ê us.length)).getD k 0=k:=λk hk=>by simp[Array.getD,hk]
     rw[eg i (by omega),eg j hj]
     exact hs i j hij (by omega)
    exact Mz (G:=λp s'=>s'={ s with heap:=((s.heap.update a (ô λ_=>(#[]:Array Value))).push (seqObj "tuple" us.toArray 0)).push (seqObj "list" #[] 0) }/\NfSort.Pm us.length p/\NfSort.Up (λi=>aR (ts.getD i (0,0))) p us.length) h2' (by rw[hlen,h64];decide +kernel) (λp' st' s' a1 a2 a3 a4=>⟨p',a4.1,a2,a3,a4.2⟩)
     (NfSort.wu (G:=λr s'=>r.1=us.length/\s'={ s with heap:=((s.heap.update a (ô λ_=>(#[]:Array Value))).push (seqObj "tuple" us.toArray 0)).push (seqObj "list" #[] 0) }/\NfSort.Pm us.length r.2/\NfSort.Up (λi=>aR (ts.getD i (0,0))) r.2 us.length) hcmp (NfSort.bC (λr ⟨e1,e2⟩=>⟨e1,rfl,by rw[e2];exact⟨Array.Perm.refl _,hu⟩⟩) (TX (Array.Perm.refl _) (by omega) hu)))
  have est:SortSt.mk' (tuples' true) (us.toArray.zip us.toArray) #[] 7 none=W.kas_st (tuples' true) (us.toArray.zip us.toArray) (ť (ê us.length)):=by
   have e:=W.kas_range (us.toArray.zip us.toArray)
   rw[show(us.toArray.zip us.toArray).size=us.length by simp] at e
   show SortSt.mk' (tuples' true) (us.toArray.zip us.toArray) #[] 7 none=SortSt.mk' (tuples' true) ((ť (ê us.length)).map (W.kas_item (us.toArray.zip us.toArray))) #[] 7 none
   rw[e]
  have eT:tuples' (ĉ "int" != ĉ "tuple")=tuples' true:=rfl
  rw[eT,est]
  refine Æ (Œ G ?_ λ_ _ e=>e)
  rintro⟨⟨⟩,st'⟩ s' ⟨p,rfl,har,hf,hpm,hup⟩
  dsimp only
  have hout:=W.kat_snds (ks:=us) (vs:=us) rfl har
  rw[hout]
  have hsz2:p.size=us.length:=hpm.size
  refine Æ (seqEpoch_at ho6 rfl ?_)
  refine Æ (listUpdate_at ho6 rfl ?_ (ü _) (by rw[Ò,Ä,Ę,hsz2,ą];omega))
  rw[hf]
  simp only[bne_self_eq_false,Ĭ,if_false]
  refine Ö (h p.toList ?_ λi j hij hj=>?_)
  ·have:=Array.perm_iff_toList_perm.mp hpm
   simpa using this
  ·have q:=hup i j hij hj
   unfold NfSort.kk at q
   have eg:∀k,p.toList.getD k 0=p.getD k 0:=λk=>by
    rw[NfSort.getD_eq,ö]
    simp
   rw[eg,eg]
   exact q
def tD{l:Addr}{vs:List Value}{Q:List Value->Shared->Prop}(hl:IsTup s.heap l vs.toArray)(h:Q vs { s with heap:=(s.heap.push (seqObj "list" #[] 0)).update s.heap.objs.size (ô (·++vs.toArray)) })(hsz:vs.length<=sizeLine) :
  wpAny (model prog w) A (collect (.ref l)) Q E s:=by
 obtain⟨o,ho,hc,n,hd⟩:=id hl
 unfold collect
 refine Æ (wpAny_runValue (codeAny_builtin entry_proto_collect' ?_))
 show wpAny _ _ (do again (.builtin "list.__iadd__" ⟨[←newList [],.ref l],[]⟩)) _ _ s
 refine Æ (wpAny_newList (Ö ⟨Code.quiet_builtin _ (by decide +kernel),codeAny_builtin entry_list_iadd' ?_⟩))
 show wpAny _ _ (ĥ (.ref s.heap.objs.size) (.ref l) (.ref s.heap.objs.size)) _ _ { s with heap:=s.heap.push (seqObj "list" #[] 0) }
 unfold ĥ
 have ho':(s.heap.push (seqObj "list" #[] 0)).get? l=some o:=Î _ ho
 refine Æ (wpAny_typeOf (T:="tuple") ⟨o,ho',hc⟩ ?_)
 have ht:(ĉ "tuple" == ĉ "tuple")=true:=by rfl
 rw[if_pos (by rw[ht];simp)]
 refine Æ (listItems_at ho' hd ?_)
 refine Æ (listItems_at (xs:=#[]) (n:=0) (Þ _ rfl) rfl ?_)
 rw[if_neg (by simp)]
 refine Æ (listUpdate_at (xs:=#[]) (n:=0) (Þ _ rfl) rfl ?_ (ü _) (by show(#[]++vs.toArray).size<=sizeLine+1;simp only[Array.size_append,Ò,List.length_nil];omega))
 refine Ö ?_
 show wpAny (model prog w) A (do
   let o ←load s.heap.objs.size
   match o.data with
   |.seq xs _=>pure xs.toList
   |_=>unsupported "internal:collect") Q E { s with heap:=(s.heap.push (seqObj "list" #[] 0)).update s.heap.objs.size (ô (·++vs.toArray)) }
 refine Æ (wpAny_load (get?_update_seq (Þ _ rfl) _) ?_)
 show wpAny _ _ (pure ((#[]:Array Value)++vs.toArray).toList) Q E _
 rw[show((#[]:Array Value)++vs.toArray).toList=vs by simp]
 exact Ö h
def vf{l:Addr}{us:List Value}{ts:List Tie}{Q:Value->Shared->Prop}(hl:s.heap.IsList l us.toArray\/IsTup s.heap l us.toArray)(hp:Paired (ji s.heap) us ts)(hn:∀t∈ts,Af t)(h64:Srt ts)(h:∀p:List Nat,p.Perm (ê us.length)->(∀i j,i<=j->j<us.length->aR (ts.getD (p.getD i 0) (0,0))<=aR (ts.getD (p.getD j 0) (0,0))) ->
   Q (.ref (s.heap.objs.size+1)) { s with heap:=sortedAll s.heap us (p.map λi=>us.getD i İ).toArray }) :
  wpAny (model prog w) A (call (.builtin "sorted") [.ref l]) Q E s:=by
 have h24:=ą
 have hlen:=hp.length
 have hbig:=h64.lt
 refine Calls.call_function_entry kind_sorted plain_sorted entry_sorted (args_sorted1 _) ?_
 unfold Builtin.«sorted»
 refine Æ (m:=checkCount "sorted" 1 1 _) (Ö ?_)
 have hsz:((s.heap.push (seqObj "list" #[] 0)).update s.heap.objs.size (ô (·++us.toArray))).objs.size=s.heap.objs.size+1:=by
  rw[ś,size_push']
 have hoL:(((s.heap.push (seqObj "list" #[] 0)).update s.heap.objs.size (ô (·++us.toArray))).push (seqObj "list" us.toArray 0)).get? (s.heap.objs.size+1)=some (seqObj "list" us.toArray 0):=by
  rw[←hsz];exact Þ _ rfl
 have keep:∀b o,s.heap.get? b=some o->(((s.heap.push (seqObj "list" #[] 0)).update s.heap.objs.size (ô (·++us.toArray))).push (seqObj "list" us.toArray 0)).get? b=some o:=λb o q=>by
  have hlt:b<s.heap.objs.size:=Ï q
  rw[Heap.get?_push_ne _ _ _ (by rw[hsz];exact ä (ď hlt)),Heap.get?_update_ne _ _ _ _ (ä hlt),Heap.get?_push_ne _ _ _ (ä hlt)]
  exact q
 have go:∀{Q':List Value->Shared->Prop},Q' us { s with heap:=(s.heap.push (seqObj "list" #[] 0)).update s.heap.objs.size (ô (·++us.toArray)) }->wpAny (model prog w) A.in1 (collect (.ref l)) Q' (λe s'=>E e s') s:=λ{Q'} hq=>by
  rcases hl with hl|hl
  ·exact collect_list hl hq (by omega)
  ·exact tD hl hq (by omega)
 refine Æ (go ?_)
 refine Æ (wpAny_newList ?_ (by omega))
 show wpAny _ _ _ _ _ { s with heap:=((s.heap.push (seqObj "list" #[] 0)).update s.heap.objs.size (ô (·++us.toArray))).push (seqObj "list" us.toArray 0) }
 rw[hsz]
 refine Æ (Ě (ĵ slot_list_sort ⟨_,hoL,rfl⟩ entry_list_sort (Gs hoL (Paired.GX hp λu t x=>x.keep λa o e _=>keep a o e) hn h64 λp a1 a2=>⟨_,rfl,?_⟩) (args_list_sort _)))
 exact Ö ⟨_,rfl,h p a1 a2⟩
end
section
variable {X:Cx}
def xX{ts:List Tie}{p:List Nat}(hp:p.Perm (ê ts.length))(h:∀i j,i<=j->j<ts.length->aR (ts.getD (p.getD i 0) (0,0))<=aR (ts.getD (p.getD j 0) (0,0))) :
  (p.map λi=>ts.getD i (0,0)).Perm ts/\(p.map λi=>ts.getD i (0,0)).Pairwise (λa b=>aR a<=aR b):=by
 refine⟨?_,?_⟩
 ·have q:=hp.map λi=>ts.getD i (0,0)
  rw[iT] at q
  exact q
 ·have hl:p.length=ts.length:=by simpa using hp.length_eq
  rw[List.pairwise_iff_getElem]
  intro i j hi hj hij
  rw[Ä] at hi hj
  have q:=h i j (by omega) (by omega)
  have ei:p.getD i 0=p[i]:=by simp[hi]
  have ej:p.getD j 0=p[j]:=by simp[hj]
  rw[ei,ej] at q
  simpa using q
def wW:aP X (.builtin "sorted") (λxs H Q=>∃(p:Addr) (vs:List V) (ts:List Tie),xs=[.ref p]/\(SqL X.K H p vs\/SqT X.K H p vs)/\Prs H vs ts/\(∀t∈ts,Af t)/\Srt ts /\
  ∀l ws us,H l=none->Prs H ws us->us.Perm ts->us.Pairwise (λa b=>aR a<=aR b)->Q (.ref l) (upd H l (.lst ws))):=by
 intro pins s σ H xs us Q I r h
 obtain⟨p,vs,ts,rfl,hp,hpr,hn,h64,q⟩:=h
 obtain⟨u,rfl,rx⟩:=vals1 r
 cases rx
 have h24:=ą
 have fin:∀its:List Value,Vals vs its->(s.heap.IsList p its.toArray\/IsTup s.heap p its.toArray)->wpAny (model X.prog X.w) X.A (call (.builtin "sorted") [.ref p]) (EP X pins σ Q) X.xe s:=λits rv hl=>by
  have hpv:=I.pairs hpr rv
  have hlen:=hpr.length
  have hlen2:=rv.length
  have hbig:=h64.lt
  refine vf hl hpv hn h64 λpp hpp hord=>?_
  have eits:its.length=ts.length:=by omega
  rw[eits] at hpp hord
  obtain⟨hperm,hpw⟩:=xX hpp hord
  have hlt:∀i∈pp,i<ts.length:=λi hi=>Ħ.mp (hpp.mem_iff.mp hi)
  have hw:=Jw hpr V.non (0,0) pp hlt
  have hvv:Vals (pp.map λi=>vs.getD i V.non) (pp.map λi=>its.getD i İ):=Jw rv V.non İ pp λi hi=>by have:=hlt i hi;omega
  obtain⟨e,he⟩:=sortedAll_at s.heap its (pp.map λi=>its.getD i İ).toArray
  refine⟨.ref (s.heap.objs.size+1),upd H (s.heap.objs.size+1) (.lst (pp.map λi=>vs.getD i V.non)),I.laid (t':=s.toks) (λb o eb=>sortedAll_old eb) (Ň _) ?_,rfl,q _ _ _ (I.hok.fresh (Ň _)) hw hperm hpw⟩
  refine⟨?_,_,e,hvv,he⟩
  have hl3:pp.length=ts.length:=by simpa using hpp.length_eq
  rw[Ä]
  omega
 rcases hp with hp|hp
 ·obtain⟨its,rv,pl,hz⟩:=I.list hp
  exact fin its rv (.inl pl.isList)
 ·obtain⟨its,rv,pl,hz⟩:=I.tuple hp
  exact fin its rv (.inr pl)
def pD(t:Tie):PyData:=.tuple [.int t.1,.int t.2]
inductive DatV(K:Ý)(H:Hp):V->PyData->Prop
 |lst {a:Addr}{vs:List V}{ts:List Tie}:SqL K H a vs->Prs H vs ts->DatV K H (.ref a) (.list (ts.map pD))
 |tup {a:Addr}{vs:List V}{ts:List Tie}:SqT K H a vs->Prs H vs ts->DatV K H (.ref a) (.tuple (ts.map pD))
 |web {a b:Addr}{n:Int}{vs:List V}{ts:List Tie}:SqT K H a [.int n,.ref b]->SqT K H b vs->Prs H vs ts->DatV K H (.ref a) (.tuple [.int n,.tuple (ts.map pD)])
end
end L2
namespace L2
open PySem PySem.Spec PyProof.Rows HT
section
variable {prog:Program}{w:World}{A:Around}{E:Value->Shared->Prop}{s:Shared}
end
section
variable {X:Cx}{e:Expr}{te:TE}{p1 p2 p3 pos:Pos}
end
end L2
namespace PySem
open Sem (wp)
open AutoSeq1 (wpAny_loadPart')
def iR(l:Addr)(items:Array Value)(n:Nat)(dct:Option Addr)(sl:Array (Option Value)) :
  Meets (Builtin.«enumerate.__new__» ⟨[.type "enumerate",.ref l],[]⟩) (λ_ R s=>s.heap.get? l=some { cls:=.type "tuple",dict:=dct,data:=.seq items n,slots:=sl } /\
   R (.ok (.ret (.ref (s.heap.push { cls:=.type "tuple_iterator",data:=.fields #[.ref l,.int 0 0] }).objs.size)))
    { s with heap:=(s.heap.push { cls:=.type "tuple_iterator",data:=.fields #[.ref l,.int 0 0] }).push { cls:=.type "enumerate",data:=.fields #[.none,.bool false,.ref s.heap.objs.size,rawInt 0,.none,.none] } }) :=
 .of_wp λprog w A R s h=>by
  obtain⟨hp,g,d,tk,os⟩:=s;obtain⟨hl,h⟩:=h
  have hsub:=sub_enumerate
  have hL:Heap.IsTuple (Shared.heap ⟨hp,g,d,tk,os⟩) l items:=⟨_,hl,rfl,n,rfl⟩
  wp_walk using wpAny_loadPart' hl
  refine wpAny_stack_any λst=>Ö ?_
  split
  ·rename_i c _ _ _ _ _
   cases (c == ĉ "enumerate")
   ·wp_walk using wpAny_loadPart' hl,ţ hL
    exact⟨_,rfl,h⟩
   ·wp_walk using wpAny_loadPart' hl,ţ hL
    exact⟨_,rfl,h⟩
  ·wp_walk using wpAny_loadPart' hl,ţ hL
   exact⟨_,rfl,h⟩
section
variable {prog:Program}{w:World}{A:Around}{E:Value->Shared->Prop}{s:Shared}
def jh{l:Addr}{items:Array Value}{Q:Value->Shared->Prop}(hL:s.heap.IsTuple l items)(h:∀h',IsEnum h' (s.heap.objs.size+1) s.heap.objs.size 0 .none->h'.IsTupleIter s.heap.objs.size l 0->h'.objs.size=s.heap.objs.size+2 ->
   (∀b o,s.heap.get? b=some o->h'.get? b=some o)->Q (.ref (s.heap.objs.size+1)) { s with heap:=h' }) :
  wpAny (model prog w) A (call (.type "enumerate") [.ref l]) Q E s:=by
 obtain⟨⟨c,dct,dt,sl⟩,hl,hc,n,hd⟩:=hL
 replace hc:c=.type "tuple":=hc
 replace hd:dt=.seq items n:=hd
 subst hc hd
 refine callType_new F.called_enumerate (by decide) (F.typeCall_enumerate_1 _) (F.newCall_enumerate_1 _) (λobj=>F.args_object_init_2 obj _) F.entry_enumerate_new
  (iR l items n dct sl) ⟨hl,?_⟩
 have hz:(s.heap.push { cls:=.type "tuple_iterator",data:=.fields #[.ref l,.int 0 0] }).objs.size=s.heap.objs.size+1:=ĸ ..
 show _/\_
 rw[hz]
 have he:IsEnum ((s.heap.push { cls:=.type "tuple_iterator",data:=.fields #[.ref l,.int 0 0] }).push
   { cls:=.type "enumerate",data:=.fields #[.none,.bool false,.ref s.heap.objs.size,rawInt 0,.none,.none] }) (s.heap.objs.size+1) s.heap.objs.size 0 .none:=by
  have:=Þ (s.heap.push { cls:=.type "tuple_iterator",data:=.fields #[.ref l,.int 0 0] })
   (o:={ cls:=.type "enumerate",data:=.fields #[.none,.bool false,.ref s.heap.objs.size,rawInt 0,.none,.none] }) rfl
  rw[hz] at this;exact this
 refine⟨⟨_,he,rfl⟩,h _ he ⟨_,Î _ (Þ _ rfl),rfl,rfl⟩ (by rw[ĸ,hz]) λb o x=>Î _ (Î _ x)⟩
def lO{it l:Addr}{i:Nat}{items}{x:Value}{Q:Value->Shared->Prop}(hit:s.heap.IsTupleIter it l i)(hl:s.heap.IsTuple l items)(hx:items[i]?=some x)(hQ:∀h',h'.IsTupleIter it l (i+1)->Heap.SameBut it s.heap h'->Q x { s with heap:=h' }) :
  wpAny (model prog w) A (ğ (.ref it)) Q E s:=by
 obtain⟨o,ho,hc,hd⟩:=id hit
 obtain⟨ol,hol,_,nl,hdl⟩:=hl
 unfold ğ
 refine Æ (Ł (name:=Ś "__next__") hit.typeIs Ŝ
  (ĵ Ŝ hit.typeIs PyProof.Rows.entry_tupleiter_next ?_ (PyProof.Rows.args_tupleiter_next _)))
 show wpAny _ _ (field (.ref it) 0 >>= _) _ _ s
 refine Æ (ů ho hd (x:=.ref l) rfl ?_)
 show wpAny _ _ (if (Ģ l == İ)=true then _ else _) _ _ s
 rw[if_neg (show ¬((Ģ l == İ)=true) from Ó)]
 show wpAny _ _ (field (.ref it) 1 >>= _) _ _ s
 refine Æ (ů ho hd (x:=.int i 0) rfl ?_)
 show wpAny _ _ (seqItems? (.ref l) >>= _) _ _ s
 refine Æ (wpAny_seqItems hol hdl ?_)
 simp only[ĩ,hx]
 refine Æ (wpAny_setField ho hd (by simp) (Ö ⟨x,rfl,Ö (hQ _ ?_ (Heap.SameBut.update ..))⟩))
 exact⟨_,ň _ ho (Obj.isFreed_of_fields (Obj.data_mapFields hd _)),(Obj.cls_mapFields ..).trans hc,by
  rw[Obj.data_mapFields hd];simp[rawInt]⟩
def fJ{it l:Addr}{i:Nat}{items}{Q:Value->Shared->Prop}(hh:A.handled=none)(hit:s.heap.IsTupleIter it l i)(hl:s.heap.IsTuple l items)(hx:items[i]?=none)(hE:∀h' e,Heap.ExtBut it s.heap h'->(∃o,h'.get? e=some o/\o.cls=.type "StopIteration")->E (.ref e) { s with heap:=h' }) :
  wpAny (model prog w) A (ğ (.ref it)) Q E s:=by
 obtain⟨o,ho,hc,hd⟩:=id hit
 obtain⟨ol,hol,_,nl,hdl⟩:=hl
 unfold ğ
 refine Æ (Ł (name:=Ś "__next__") hit.typeIs Ŝ
  (ĵ Ŝ hit.typeIs PyProof.Rows.entry_tupleiter_next ?_ (PyProof.Rows.args_tupleiter_next _)))
 show wpAny _ _ (field (.ref it) 0 >>= _) _ _ s
 refine Æ (ů ho hd (x:=.ref l) rfl ?_)
 show wpAny _ _ (if (Ģ l == İ)=true then _ else _) _ _ s
 rw[if_neg (show ¬((Ģ l == İ)=true) from Ó)]
 show wpAny _ _ (field (.ref it) 1 >>= _) _ _ s
 refine Æ (ů ho hd (x:=.int i 0) rfl ?_)
 show wpAny _ _ (seqItems? (.ref l) >>= _) _ _ s
 refine Æ (wpAny_seqItems hol hdl ?_)
 simp only[ĩ,hx]
 refine Æ (wpAny_rule (Æ (wpAny_setField ho hd (by simp) ?_)))
 show wpAny _ _ (newExc (.type "StopIteration") [] >>= _) _ _ _
 refine Æ ?_
 simp only[newExc,newTuple]
 refine Æ (ř ?_ (by size_fits))
 refine Æ (m:=firstArgMember _ _) (wpAny_of_eq (a:=İ) (by first|rfl|(simp only[firstArgMember];rfl)) ?_)
 refine ř ?_ (by size_fits)
 simp only[raiseNew]
 refine Æ (wpAny_handled ?_)
 first|rw[show A.in1.handled=none from hh]|rw[hh]
 refine Æ (Ö (wpAny_throw ?_))
 exact hE _ _ (((Heap.SameBut.update ..).extBut.push _).push _) ⟨_,Þ _ rfl,rfl⟩
end
def Draws.tuple{prog:Program}{w:World}{A:Around}(hh:A.handled=none)(it l:Addr)(hne:l≠it)(items:Array Value) :
  Draws prog w A it [it,l] items.size (λi v=>items[i]?=some v) (λi h=>h.IsTupleIter it l i/\h.IsTuple l items) where
 live:=λ_ _ st=>let ⟨o,ho,_⟩:=st.1;⟨o,ho⟩
 frame:=λ_ _ _ st hk=>⟨let ⟨o,ho,r⟩:=st.1;⟨o,hk it (by simp) o ho,r⟩,let ⟨o,ho,r⟩:=st.2;⟨o,hk l (by simp) o ho,r⟩⟩
 item:=λi s Q E hi st hQ=>by
  refine lO st.1 st.2 (x:=items[i]) (by simp[hi]) λh' hit' hs'=>?_
  exact hQ _ h' s.toks (by simp[hi]) ⟨hit',st.2.extBut hs'.extBut hne⟩ hs'
 done:=λs Q E st hE=>fJ hh st.1 st.2 (by simp) hE
end PySem
namespace L2
open PySem PySem.Spec PyProof.Rows
def Ite(K:Ý)(a:Addr):It :=
 ⟨λi H=>∃xs x,SqT K H a xs/\xs[i]?=some x,λi H x H'=>∃t v,x=.ref t/\H t=none/\H'=upd H t (.tup [.int i,v])/\∀xs,SqT K H a xs->xs[i]?=some v,λi H=>∃xs,SqT K H a xs/\xs.length<=i⟩
def Gk{P:Program}{w:World}{K:Ý}{elts:List Expr}{kk:Nat}{pos:Pos}(a e it:Addr)(hei:e≠it) :
  Turn P w K (.Tuple elts kk pos) (Ite K a) [e,it] e (λi h=>(∃old,IsEnum h e it i old)/\h.IsTupleIter it a i) where
 mem:=by simp
 obj:=λi h st b hb=>by
  obtain⟨⟨old,he⟩,o,ho,hc,hd⟩:=st
  rcases Ü.mp hb with rfl|hb
  ·exact⟨_,he,λv z=>nomatch z⟩
  ·have e1:b=it:=by simpa using hb
   subst e1
   exact⟨o,ho,λv z=>by rw[hd] at z;cases z⟩
 keep:=λi h h' st k=>by
  obtain⟨⟨old,he⟩,o,ho,r⟩:=st
  exact⟨⟨old,k e (by simp) _ he⟩,o,k it (by simp) _ ho,r⟩
 item:=by
  intro X hP hw hK hc i pins s σ H E I hf st hg
  subst hP hw hK
  obtain⟨xs,x,hq,hx⟩:=hg
  obtain⟨its,rv,p,hz⟩:=I.tuple hq
  obtain⟨u,hu,ru⟩:=rv.get hx
  obtain⟨⟨old,he⟩,hit⟩:=st
  have hai:a≠it:=λz=>by
   obtain⟨o,ho,hc1,_⟩:=p
   obtain⟨o',ho',hc2,_⟩:=hit
   rw[z,ho'] at ho
   cases ho
   rw[hc2] at hc1
   injection hc1 with z2
   exact absurd z2 (by decide)
  have hae:e≠a:=λz=>by
   obtain⟨o,ho,hc1,_⟩:=p
   have he':s.heap.get? e=some _:=he
   rw[z,ho] at he'
   cases he'
   have z1:ĉ "enumerate"=ĉ "tuple":=hc1
   injection z1 with z2
   exact absurd z2 (by decide)
  have hlt:i<its.toArray.size:=by have:=(Ç.mp hu).1;simpa using this
  obtain⟨e0,e1,e2,e3,e4,e5⟩:=hf e (by simp)
  obtain⟨f0,f1,f2,f3,f4,f5⟩:=hf it (by simp)
  have D:=Draws.tuple (prog:=X.prog) (w:=X.w) (A:=X.A.in1) (I.ok.hd hc) it a hai its.toArray
  refine wpAny_pyNext_enum_itemD D he ⟨hit,show s.heap.IsTuple a its.toArray from p⟩ hlt hei (by simp[hei,hae]) λx' h' tk hP ho hs' hT hsz hk=>⟨_,rfl,?_⟩
  have ex:x'=u:=by
   have hP':its[i]?=some x':=by simpa using hP
   rw[hu] at hP'
   exact(Ø hP').symm
  subst ex
  refine wpAny_letOwnedTupleGo_enum ho λh2 he2 hs2=>?_
  have hTn:H s.heap.objs.size=none:=I.hok.fresh (Ô _)
  have keep2:∀b o,b≠e->b≠it->s.heap.get? b=some o->h2.get? b=some o:=λb o hb1 hb2 q=>(hs2.2 b hb1).trans (hk b o hb1 hb2 q)
  have hTe:s.heap.objs.size≠e:=Ļ (Ï he)
  have hTup:h2.get? s.heap.objs.size=some { cls:=.type "tuple",data:=.seq #[.int i tk,x'] }:=(hs2.2 _ hTe).trans hT
  have J:Inv X pins σ (upd H s.heap.objs.size (.tup [.int i,x])) { s with heap:=h2,toks:=tk+1 }:=by
   refine I.step (g':=s.gens) (d':=s.drawn) (t':=tk+1) (ch:=[e,it]) (λb hb=>?_) (λb o _ _ hcb q _=>keep2 b o (λz=>hcb (by simp[z])) (λz=>hcb (by simp[z])) q)
    (λb o _ _ hcb q _=>⟨o.slots,keep2 b o (λz=>hcb (by simp[z])) (λz=>hcb (by simp[z])) q⟩) (λb o _ q n=>by rw[aj (ä (Ï q))];exact n)
    (λb o hcb q=>⟨o,keep2 b o (λz=>hcb (by simp[z])) (λz=>hcb (by simp[z])) q⟩) (λb ys q=>by rw[aj (ao q hTn)];exact q) (λb o y q=>by rw[aj (ao q hTn)];exact q)
    (λb ps q=>⟨#[],by rw[aj (ao q hTn),q];simp⟩) (λm hm=>?_) ?_ I.bare
   ·rcases Ü.mp hb with rfl|hb
    ·exact⟨e3,e1,e4,e5⟩
    ·have z:b=it:=by simpa using hb
     subst z
     exact⟨f3,f1,f4,f5⟩
   ·obtain⟨o,es,ep,ho',r⟩:=hm
    exact⟨o,es,ep,keep2 _ o (ġ e1) (ġ f1) ho',r⟩
   ·intro b u' q
    have nT:∀{c y},H c=some y->c≠e/\c≠it:=λ{c y} z=>⟨λv=>(by rw[v,e0] at z;exact nomatch z),λv=>(by rw[v,f0] at z;exact nomatch z)⟩
    by_cases hb:b=s.heap.objs.size
    ·subst hb
     rw[aq] at q
     cases q
     exact⟨(by show 2<=sizeLine;decide),[.int i tk,x'],.cons ⟨_,rfl⟩ (.cons ru .nil),_,hTup,rfl,_,rfl⟩
    ·rw[aj hb] at q
     refine(I.hok b u' q).stay (λc v hcv y=>keep2 c v ?_ ?_ y) (λc y=>by rw[aj (ao y hTn)];exact y) λc ys y=>by rw[aj (ao y hTn)];exact y
     ·rcases hcv with rfl|z
      ·exact(nT q).1
      ·exact(nT z).1
     ·rcases hcv with rfl|z
      ·exact(nT q).2
      ·exact(nT z).2
  refine⟨.ref s.heap.objs.size,_,J,rfl,⟨_,x,rfl,hTn,rfl,λys hy=>by rw[I.ug hy hq];exact hx⟩,⟨⟨x',?_⟩,?_⟩,λb hb=>?_⟩
  ·have he3:IsEnum h2 e it ((i:Int)+1) x':=by simpa using he2
   have ec:((i+1:Nat):Int)=(i:Int)+1:=by omega
   rw[ec]
   exact he3
  ·obtain⟨o,ho2,r⟩:=hs'.1
   exact⟨o,(hs2.2 it (ġ hei)).trans ho2,r⟩
  ·rw[aj]
   ·exact(hf b hb).1
   ·rcases Ü.mp hb with rfl|hb
    ·exact ġ hTe
    ·have z:b=it:=by simpa using hb
     subst z
     obtain⟨o,ho2,_⟩:=hit
     exact ä (Ï ho2)
 done:=by
  intro X hP hw hK hc i pins s σ H E I hf st hg
  subst hP hw hK
  obtain⟨xs,hq,hx⟩:=hg
  obtain⟨its,rv,p,hz⟩:=I.tuple hq
  obtain⟨⟨old,he⟩,hit⟩:=st
  obtain⟨f0,f1,f2,f3,f4,f5⟩:=hf it (by simp)
  have hl:=rv.length
  have hT:s.TypeIs (.ref e) "enumerate":=⟨_,he,rfl⟩
  unfold pyNext
  refine Æ (wpAny_attempt (Ł (name:=Ś "__next__") hT ļ
   (ĵ ļ hT PySem.F.entry_enumerate_next ?_ (PySem.F.args_enumerate_next_1 _))))
  show wpAny _ _ (field (.ref e) 2 >>= _) _ _ _
  refine Æ (ů he rfl (x:=.ref it) rfl ?_)
  refine Æ (fJ (I.ok.hd hc) hit (show s.heap.IsTuple a its.toArray from p) (by simp;omega) λh' x he' hx'=>?_)
  obtain⟨o,ho,hc'⟩:=hx'
  refine Æ (wpAny_isInstance (T:="StopIteration") (b:=true) ⟨o,ho,hc'⟩ isSubtype_stop ?_)
  exact Ö ⟨rfl,I.turned (t':=s.toks) (λb o hb e=>he' b o hb e) f0 f1 f3 f4 f5⟩
 self:=λA i s Q E st h=>by
  obtain⟨⟨old,he⟩,_⟩:=st
  have hT:s.TypeIs (.ref e) "enumerate":=⟨_,he,rfl⟩
  refine wpAny_pyIter_slot hT Ÿ (ĵ Ÿ hT PySem.F.entry_enumerate_iter ?_ (PySem.F.args_enumerate_iter_1 _))
  show wpAny _ _ (ret (.ref e)) _ _ s
  exact Ö ⟨_,rfl,"enumerate",_,hT,ļ.lookup,h⟩
def boot_enumerate:bootBuiltins "enumerate"=some (.type "enumerate"):=by decide +kernel
def Ve(K:Ý)(ta:TA):TI:=λσ H R=>ta σ H λvs H1=>∃a,vs=[.ref a]/\(∃xs,SqT K H1 a xs)/\R (Ite K a) H1
def M7{X:Cx}{elts:List Expr}{kk:Nat}{tpos:Pos}{a:Expr}{ta:TA}{p pos:Pos}(hg:Gl X "enumerate")(hm:X.mg "enumerate"=none)(ha:PA X [a] ta)(hs:starEach [a] X.env=[(false,eval a X.env)]:=by rfl):PI X (.Tuple elts kk tpos) (.Call (.Name "enumerate" p) [a] [] pos) (Ve X.K ta):=by
 intro pins s σ H R I h
 refine Call_ (dJ I hg hm boot_enumerate (ć (thn (ha pos pins s σ H _ I h) λus s1 ⟨vs,H1,I1,r1,q1⟩=>?_) hs rfl))
 obtain⟨b,e,⟨xs,hq⟩,q⟩:=q1
 subst e
 obtain⟨u,rfl,rx⟩:=vals1 r1
 cases rx
 obtain⟨its,rv,pt,hz⟩:=I1.tuple hq
 refine jh (show s1.heap.IsTuple b its.toArray from pt) λh' he hit hsz hk=>?_
 have I2:Inv X pins σ H1 { s1 with heap:=h' }:=I1.kept (t':=s1.toks) hk
 have T:Turn X.prog X.w X.K (.Tuple elts kk tpos) (Ite X.K b) [s1.heap.objs.size+1,s1.heap.objs.size] (s1.heap.objs.size+1) (λi h=>(∃old,IsEnum h (s1.heap.objs.size+1) s1.heap.objs.size i old)/\h.IsTupleIter s1.heap.objs.size b i):=Gk b _ _ (Ļ (ō _))
 refine T.self _ 0 _ _ _ ⟨⟨_,he⟩,hit⟩ ⟨_,_,_,_,H1,rfl,I2,T,⟨⟨_,he⟩,hit⟩,λc hc=>?_,q⟩
 rcases Ü.mp hc with rfl|hc
 ·exact I1.zA (Ň _) (I1.hok.fresh (Ň _))
 ·have z:c=s1.heap.objs.size:=by simpa using hc
  subst z
  exact I1.zA (Ô _) (I1.hok.fresh (Ô _))
section
variable {κ:Type} [DecidableEq κ]
def gR(kvs:List (κ×V))(k:κ):Option V:=(kvs.find? λkv=>decide (kv.1=k)).map (·.2)
def putK(kvs:List (κ×V))(k:κ)(v:V):List (κ×V) :=
 if (kvs.any λkv=>decide (kv.1=k))=true then kvs.map (λkv=>if kv.1=k then (kv.1,v) else kv) else kvs++[(k,v)]
def j7{p:κ×V}{r:List (κ×V)}{k:κ}(e:p.1=k):gR (p::r) k=some p.2:=by simp[gR,ŕ,e]
def qw{p:κ×V}{r:List (κ×V)}{k:κ}(e:¬p.1=k):gR (p::r) k=gR r k:=by simp[gR,ŕ,e]
theorem xQ(k:κ):∀kvs:List (κ×V),(kvs.any λkv=>decide (kv.1=k))=(gR kvs k).isSome
 |[]=>rfl
 |p::r=>by
  rw[ũ]
  by_cases e:p.1=k
  ·simp only[j7 e,decide_eq_true e,Bool.true_or,Option.isSome_some]
  ·rw[qw e,decide_eq_false e,Bool.false_or];exact xQ k r
def iV(kvs:List (κ×V))(k:κ)(v:V):(putK kvs k v).length<=kvs.length+1:=by
 unfold putK
 split
 ·rw[Ä];omega
 ·rw[Í,ï,List.length_nil];omega
def tQ.nW{o:Option V}{u:Option Value}(r:tQ o u):o.isSome=u.isSome:=by
 cases o with
 |none=>cases u with
  |none=>rfl
  |some _=>exact(show False from r).elim
 |some _=>cases u with
  |none=>exact(show False from r).elim
  |some _=>rfl
def KV.val{kvs:List (κ×V)}{vs:List (κ×Value)}(r:KV kvs vs)(k:κ):tQ (gR kvs k) (valueAt vs k):=by
 unfold KV at r
 induction r with
 |nil=>exact ų
 |@cons p q ps qs h t ih =>
  obtain⟨h1,h2⟩:=h
  by_cases e:p.1=k
  ·have e':q.1=k:=h1.symm.trans e
   have b:valueAt (q::qs) k=some q.2:=by simp[valueAt,ŕ,e']
   rw[j7 e,b];exact h2
  ·have e':¬q.1=k:=λz=>e (h1.trans z)
   have b:valueAt (q::qs) k=valueAt qs k:=by simp[valueAt,ŕ,e']
   rw[qw e,b];exact ih
def KV.any{kvs:List (κ×V)}{vs:List (κ×Value)}(r:KV kvs vs)(k:κ):(kvs.any λkv=>decide (kv.1=k))=vs.any λkv=>decide (kv.1=k):=by
 unfold KV at r
 induction r with
 |nil=>rfl
 |cons h t ih=>rw[ũ,ũ,ih,h.1]
def KV.repl{kvs:List (κ×V)}{vs:List (κ×Value)}(r:KV kvs vs)(k:κ){y:V}{u:Value}(ry:RelV y u) :
  KV (kvs.map λkv=>if kv.1=k then (kv.1,y) else kv) (vs.map λkv=>if kv.1=k then (kv.1,u) else kv):=by
 unfold KV at r ⊢
 induction r with
 |nil=>exact .nil
 |@cons p q ps qs h t ih =>
  rw[ò,ò]
  refine .cons ?_ ih
  obtain⟨h1,h2⟩:=h
  by_cases e:p.1=k
  ·rw[if_pos e,if_pos (h1.symm.trans e)];exact⟨h1,ry⟩
  ·rw[if_neg e,if_neg (λz=>e (h1.trans z))];exact⟨h1,h2⟩
def KV.put{kvs:List (κ×V)}{vs:List (κ×Value)}(r:KV kvs vs)(k:κ){y:V}{u:Value}(ry:RelV y u):KV (putK kvs k y) (stored vs k u):=by
 unfold putK stored
 rw[r.any k]
 by_cases e:(vs.any λkv=>decide (kv.1=k))=true
 ·rw[if_pos e,if_pos e];exact r.repl k ry
 ·rw[if_neg e,if_neg e];exact Paired.snoc r ⟨rfl,ry⟩
def KV.keys{kvs:List (κ×V)}{vs:List (κ×Value)}(r:KV kvs vs):kvs.map (·.1)=vs.map (·.1):=by
 unfold KV at r
 induction r with
 |nil=>rfl
 |cons h t ih=>rw[ò,ò,ih,h.1]
def KV.length{kvs:List (κ×V)}{vs:List (κ×Value)}(r:KV kvs vs):kvs.length=vs.length:=Paired.length r
end
def yW{P:Program}{w:World}{k:Key}{u:Value}(r:RelV (kV k) u):(aW P w).is k u=true:=by
 cases k with
 |inl i=>obtain⟨t,e⟩:=(show ∃t,u=œ i t from r);subst e;exact yQ P w i t
 |inr x=>obtain⟨t,e⟩:=(show ∃t,u=Value.str x t from r);subst e;exact yP P w x t
theorem uO{P:Program}{w:World}:∀{ks:List Key}{us:List Value},Vals (ks.map kV) us->ItemsAre (aW P w) ks us
 |[],_,r=>by rw[List.map_nil] at r;cases r;exact .nil
 |k::ks,_,r=>by
  rw[ò] at r
  cases r with
  |cons h t=>exact .cons (yW h) (uO t)
abbrev KT(H:Hp):List (List Key×V)->List (List Key×Addr×Value)->Prop:=Paired λp q=>p.1=q.1/\H q.2.1=some (.tup (p.1.map kV))/\RelV p.2 q.2.2
def KT.val{H:Hp}{kvs:List (List Key×V)}{xs:List (List Key×Addr×Value)}(r:KT H kvs xs)(k:List Key):tQ (gR kvs k) ((atKey xs k).map (·.2)):=by
 induction r with
 |nil=>exact ų
 |@cons p q ps qs h t ih =>
  obtain⟨h1,_,h2⟩:=h
  by_cases e:p.1=k
  ·have e':q.1=k:=h1.symm.trans e
   have b:atKey (q::qs) k=some q.2:=by simp[atKey,ŕ,e']
   rw[j7 e,b];exact h2
  ·have e':¬q.1=k:=λz=>e (h1.trans z)
   have b:atKey (q::qs) k=atKey qs k:=by simp[atKey,ŕ,e']
   rw[qw e,b];exact ih
def KT.repl{H:Hp}{kvs:List (List Key×V)}{xs:List (List Key×Addr×Value)}(r:KT H kvs xs)(k:List Key){y:V}{u:Value}(ry:RelV y u) :
  KT H (kvs.map λkv=>if kv.1=k then (kv.1,y) else kv) (xs.map (putAt k u)):=by
 induction r with
 |nil=>exact .nil
 |@cons p q ps qs h t ih =>
  rw[ò,ò]
  refine .cons ?_ ih
  obtain⟨h1,h2,h3⟩:=h
  unfold putAt
  by_cases e:p.1=k
  ·rw[if_pos e,if_pos (h1.symm.trans e)];exact⟨h1,h2,ry⟩
  ·rw[if_neg e,if_neg (λz=>e (h1.trans z))];exact⟨h1,h2,h3⟩
def KT.put{H:Hp}{kvs:List (List Key×V)}{xs:List (List Key×Addr×Value)}(r:KT H kvs xs)(k:List Key){b:Addr}{y:V}{u:Value}(hb:H b=some (.tup (k.map kV)))(ry:RelV y u) :
  KT H (putK kvs k y) (storedH xs k b u):=by
 have e:(kvs.any λkv=>decide (kv.1=k))=(atKey xs k).isSome:=by
  rw[xQ,(r.val k).nW,Option.isSome_map]
 unfold putK storedH
 rw[e]
 by_cases q:(atKey xs k).isSome=true
 ·rw[if_pos q,if_pos q];exact r.repl k ry
 ·rw[if_neg q,if_neg q];exact Paired.snoc r ⟨rfl,hb,ry⟩
def KT.keeps{H H':Hp}{kvs:List (List Key×V)}{xs:List (List Key×Addr×Value)}(r:KT H kvs xs)(ht:∀b ys,H b=some (.tup ys)->H' b=some (.tup ys)):KT H' kvs xs :=
 Paired.GX r λ_ _ z=>⟨z.1,ht _ _ z.2.1,z.2.2⟩
section
variable {P:Program}{w:World}{H:Hp}{h:Heap}{a:Addr}
def PX{u:HO}(ok:HOk P w H h)(e:Rd H a u):bf P w H h a u:=e.ok ok
def FQ{kvs:List (Key×V)}(ok:HOk P w H h)(e:Rd H a (.dK kvs)):kvs.length<=sizeLine/\(a == sysModules)=false/\∃vs,KV kvs vs/\h.DictOf (aW P w) a vs :=
 show bf P w H h a (.dK kvs) from PX ok e
def FT{kvs:List (Key×V)}(ok:HOk P w H h)(e:H a=some (.dK kvs)):kvs.length<=sizeLine/\(a == sysModules)=false/\∃vs,KV kvs vs/\h.DictOf (aW P w) a vs:=FQ ok (.inl e)
def wB{ks:List Key}(ok:HOk P w H h)(e:H a=some (.tup (ks.map kV))):(tupleKind (aW P w)).is h ks a:=by
 obtain⟨_,its,r,o,h1,h2,n,h3⟩:=(show bf P w H h a (.tup (ks.map kV)) from ok a _ e)
 exact⟨o,its.toArray,n,h1,h2,h3,by simpa using uO r⟩
def FN{kvs:List (List Key×V)}(ok:HOk P w H h)(e:Rd H a (.dT kvs)):kvs.length<=sizeLine/\(a == sysModules)=false /\
  ∃xs,KT H kvs xs/\h.DictOfH (tupleKind (aW P w)) a xs:=by
 obtain⟨z,y,xs,r,o,es,ep,h1,h2,h3,h4,h5⟩:=(show bf P w H h a (.dT kvs) from PX ok e)
 refine⟨z,y,xs,r,o,es,ep,h1,h2,h3,h4,λx hx=>?_,h5⟩
 have all:∀{l:List (List Key×V)}{m:List (List Key×Addr×Value)},KT H l m->∀x∈m,(tupleKind (aW P w)).is h x.1 x.2.1:=by
  intro l m q
  induction q with
  |nil=>intro x hx;exact nomatch hx
  |@cons p q ps qs hq t ih =>
   intro x hx
   rcases Ü.mp hx with e|hx
   ·subst e
    exact wB ok (by rw[←hq.1];exact hq.2.1)
   ·exact ih x hx
 exact all r x hx
def Vv{kvs:List (List Key×V)}(ok:HOk P w H h)(e:H a=some (.dT kvs)):kvs.length<=sizeLine/\(a == sysModules)=false /\
  ∃xs,KT H kvs xs/\h.DictOfH (tupleKind (aW P w)) a xs:=FN ok (.inl e)
end
def xH(H:Hp)(a:Addr)(y:V)(r:Option V):Prop :=
 (∃kvs k,Rd H a (.dK kvs)/\y=kV k/\r=gR kvs k)\/∃kvs k b,Rd H a (.dT kvs)/\y=.ref b/\H b=some (.tup (k.map kV))/\r=gR kvs k
def LR(H:Hp)(a:Addr)(y v:V)(H':Hp):Prop :=
 (∃kvs k,H a=some (.dK kvs)/\y=kV k/\kvs.length<sizeLine/\H'=upd H a (.dK (putK kvs k v))) ∨
 ∃kvs k b,H a=some (.dT kvs)/\y=.ref b/\H b=some (.tup (k.map kV))/\kvs.length<sizeLine/\H'=upd H a (.dT (putK kvs k v))
def xH.k{H:Hp}{a:Addr}{kvs:List (Key×V)}{k:Key}(e:H a=some (.dK kvs)):xH H a (kV k) (gR kvs k):=.inl ⟨kvs,k,.inl e,rfl,rfl⟩
def LR.k{H:Hp}{a:Addr}{kvs:List (Key×V)}{k:Key}{v:V}(e:H a=some (.dK kvs))(hl:kvs.length<sizeLine):LR H a (kV k) v (upd H a (.dK (putK kvs k v))):=.inl ⟨kvs,k,e,rfl,hl,rfl⟩
section
variable {X:Cx}{pins:List (Addr×Obj)}{σ:St}{H:Hp}{s:Shared}{a:Addr}{y v:V}{u r:Value}{o:Option V}{A:Around}{E:Value->Shared->Prop}
def Inv.big(I:Inv X pins σ H s):sysModules<s.heap.objs.size:=by
 have h:mainGlobals<s.heap.objs.size:=(I.mod.glob.keeps I.bk).lt
 exact Nat.lt_trans (by decide) h
def Ho{Q:Value->Shared->Prop}(hu:A.units+1<cLine)(I:Inv X pins σ H s)(g:xH H a y (some v))(ry:RelV y u)(h:∀w' s',Inv X pins σ H s'->RelV v w'->Q w' s') :
  wpAny (model X.prog X.w) A (getItem (.ref a) u) Q E s:=by
 rcases g with ⟨kvs,k,e,ey,l⟩|⟨kvs,k,b,e,ey,eb,l⟩
 ·subst ey
  obtain⟨z,hd,vs,rel,dd⟩:=FQ I.hok e
  obtain⟨w',hw,rw'⟩:=tQ.some_of (v:=v) (o:=valueAt vs k) (by rw[l];exact rel.val k)
  exact wpAny_getItem_of (yW ry) dd.mapOf hw (h w' _ (I.tok _) rw')
 ·subst ey
  cases (show u=Ģ b from ry)
  obtain⟨z,hd,xs,rel,dd⟩:=FN I.hok e
  obtain⟨w',hw,rw'⟩:=tQ.some_of (v:=v) (o:=(atKey xs k).map (·.2)) (by rw[l];exact rel.val k)
  obtain⟨p,hp,hp2⟩:=Option.map_eq_some_iff.mp hw
  refine wpAny_getItem_heap (tupleKind_room_in1 hu) (wB I.hok eb) dd hp ?_
  rw[hp2]
  exact h w' _ (I.tok _) rw'
def O5{Q:Value->Shared->Prop}(hu:A.units+1<cLine)(I:Inv X pins σ H s)(g:xH H a y o)(ry:RelV y u)(h:∀s',Inv X pins σ H s'->Q (.bool (!o.isSome)) s') :
  wpAny (model X.prog X.w) A (compareOp .NotIn u (.ref a)) Q E s:=by
 rcases g with ⟨kvs,k,e,ey,l⟩|⟨kvs,k,b,e,ey,eb,l⟩
 ·subst ey
  obtain⟨z,hd,vs,rel,dd⟩:=FQ I.hok e
  refine wpAny_notIn_of (yW ry) hd dd.mapOf ?_
  rw[←(rel.val k).nW,←l]
  exact h _ (I.tok _)
 ·subst ey
  cases (show u=Ģ b from ry)
  obtain⟨z,hd,xs,rel,dd⟩:=FN I.hok e
  refine wpAny_notIn_heap (tupleKind_room_in1 hu) (wB I.hok eb) hd dd ?_
  have q:=(rel.val k).nW
  rw[Option.isSome_map] at q
  rw[←q,←l]
  exact h _ (I.tok _)
def wQ{h':Heap}{t':Nat}{ob:HO}(I:Inv X pins σ H s)(mu:Mut (H a))(hs:Heap.SameBut a s.heap h')(he:∃q,h'.get? a=some q)(new:bf X.prog X.w (upd H a ob) h' a ob) :
  Inv X pins σ (upd H a ob) { s with heap:=h',toks:=t' } :=
 I.write (x:=a) (e:=a) mu (.inl rfl) (λb q hb z=>(hs.2 b hb).trans z) he new
def Ld{P:Program}{w:World}{H':Hp}{h':Heap}{kvs:List (Key×V)}{vs:List (Key×Value)}(z:kvs.length<=sizeLine)(hd:(a == sysModules)=false)(rel:KV kvs vs)(dd:h'.DictOf (aW P w) a vs) :
  bf P w H' h' a (.dK kvs):=⟨z,hd,vs,rel,dd⟩
def Hl{H':Hp}{Q:Unit->Shared->Prop}(hu:A.units+1<cLine)(I:Inv X pins σ H s)(g:LR H a y v H')(ry:RelV y u)(rv:RelV v r)(h:∀s',Inv X pins σ H' s'->Q () s') :
  wpAny (model X.prog X.w) A (setItem (.ref a) u r) Q E s:=by
 rcases g with ⟨kvs,k,e,ey,l,eH⟩|⟨kvs,k,b,e,ey,eb,l,eH⟩
 ·subst ey eH
  obtain⟨z,hd,vs,rel,dd⟩:=FT I.hok e
  have hz:vs.length<=sizeLine:=by rw[←rel.length];exact z
  have hl:(putK kvs k v).length<=sizeLine:=by have:=iV kvs k v;omega
  refine wpAny_setItem_pairs (hsz:=hz) (yW ry) dd λh' dd' hs=>h _ ?_
  have he:∃q,h'.get? a=some q:=let ⟨q,_,_,hq,_⟩:=dd';⟨q,hq⟩
  exact wQ I (by rw[e];exact ų) hs he (Ld hl hd (rel.put k rv) dd')
 ·subst ey eH
  cases (show u=Ģ b from ry)
  obtain⟨z,hd,xs,rel,dd⟩:=Vv I.hok e
  have hz:xs.length<=sizeLine:=by rw[←Paired.length rel];exact z
  have hl:(putK kvs k v).length<=sizeLine:=by have:=iV kvs k v;omega
  refine wpAny_setItem_heap (hsz:=hz) (tupleKind_room_in1 hu) (wB I.hok eb) dd λh' dd' hs=>h _ ?_
  obtain⟨q,es,ep,hq,h2,h3,h4,_,h5⟩:=dd'
  refine wQ I (by rw[e];exact ų) hs ⟨q,hq⟩ ⟨hl,hd,_,(rel.put k eb rv).keeps λc ys ec=>?_,q,es,ep,hq,h2,h3,h4,h5⟩
  rw[aj (U7 ec e (λz=>nomatch z))]
  exact ec
end
section
variable {X:Cx}{pins:List (Addr×Obj)}{σ:St}{H:Hp}{s:Shared}{a:Addr}{kvs:List (Key×V)}{k:Key}{u:Value}{A:Around}{E:Value->Shared->Prop}
end
def Ph(i:Expr):Prop:=∀ov iv,subscripted i false ov iv=operate [ov,iv] (getItem ov iv)
def Ms{prog:Program}{w:World}{A:Around}{E:Value->Shared->Prop}{s:Shared}{env:Env}{value slice:Expr}{pos:Pos}{T id:String}{Q:Value->Shared->Prop}(hl:typeLookup (.type T) "__getitem__"=pure (some (.builtin id)))(hs:Ph slice)(h:wpAny (model prog w) A (eval value env) (λo s₁=>wpAny (model prog w) A (eval slice env) (λi s₂=>s₂.TypeIs o T/\wpAny (model prog w) A (getItem o i) Q E s₂) E s₁) E s) :
  wpAny (model prog w) A (eval (.Subscript value slice pos) env) Q E s:=by
 refine Subscript_ (Œ h (λo s₁ h₁=>Œ h₁ (λi s₂ h₂=>?_) λ_ _ x=>x) λ_ _ x=>x)
 obtain⟨hT,h₂⟩:=h₂
 unfold subscriptTail
 refine Æ ?_
 rw[getitemInPython_of_ne hT.not_modules]
 refine Æ (wpAny_specialOf hT hl ?_)
 have fin:wpAny (model prog w) A (subscripted slice false o i) (λr s₃=>wpAny (model prog w) A (letTemporaryGo value o r >>= λ_=>pure r) Q E s₃) E s₂:=by
  rw[hs o i]
  exact wpAny_operating (Œ h₂ (λr s₃ h₃=>Æ (wpAny_letTemporaryGo (Ö h₃))) λ_ _ x=>x)
 first
  |exact Ö (Æ fin)
  |exact Æ (Ö (Æ fin))
  |exact Æ fin
def zR{X:Cx}{pins:List (Addr×Obj)}{σ:St}{H:Hp}{s:Shared}{a:Addr}{y:V}{o:Option V}(I:Inv X pins σ H s)(g:xH H a y o):s.TypeIs (.ref a) "dict":=by
 rcases g with ⟨kvs,k,e,_,_⟩|⟨kvs,k,b,e,_,_,_⟩
 ·obtain⟨_,_,vs,_,dd⟩:=FQ I.hok e
  exact dd.typeIs
 ·obtain⟨_,_,xs,_,dd⟩:=FN I.hok e
  exact dd.typeIs
def Ug(td ty:TE):TE:=λσ H Q=>td σ H λx H1=>ty σ H1 λy H2=>∃a v,x=.ref a/\xH H2 a y (some v)/\Q v H2
def Dy(ty td:TE):TE:=λσ H Q=>ty σ H λy H1=>td σ H1 λx H2=>∃a o,x=.ref a/\xH H2 a y o/\Q (.bl (!o.isSome)) H2
def PK(td ty tv:TE):TS:=λD σ H=>tv σ H λv H1=>td σ H1 λx H2=>ty σ H2 λy H3=>∃a H4,x=.ref a/\LR H3 a y v H4/\D.nx σ H4
section
variable {X:Cx}{o i e value:Expr}{pos pos' tpos:Pos}{td ty tv:TE}
def Nh(hu:X.A.units+1<cLine)(ho:PE X o td)(hi:PE X i ty)(hs:Ph i):PE X (.Subscript o i pos) (Ug td ty):=by
 intro pins s σ H Q I h
 refine Ms PySem.F.slot_dict_getitem.lookup hs (thn (ho pins s σ H _ I h) λu s1 ⟨x,H1,I1,rx,q1⟩=>thn (hi pins s1 σ H1 _ I1 q1) λiv s2 ⟨y,H2,I2,ry,a,v,ex,g,q2⟩=>?_)
 subst ex
 obtain rfl:u=Ģ a:=rx
 exact⟨zR I2 g,Ho hu I2 g ry λw' s3 I3 rw'=>⟨v,H2,I3,rw',q2⟩⟩
def GD(hu:X.A.units+1<cLine)(hi:PE X i ty)(ho:PE X o td):PC X .NotIn i o (Dy ty td):=by
 intro pins s σ H Q I h
 refine thn (hi pins s σ H _ I h) λiv s1 ⟨y,H1,I1,ry,q1⟩=>thn (ho pins s1 σ H1 _ I1 q1) λu s2 ⟨x,H2,I2,rx,a,ov,ex,g,q2⟩=>?_
 subst ex
 obtain rfl:u=Ģ a:=rx
 exact O5 hu I2 g ry λs3 I3=>⟨.bl (!ov.isSome),H2,I3,rfl,q2⟩
def MP(hu:X.A.units+1<cLine)(ho:PE X o td)(hi:PE X i ty)(hv:PE X value tv)(hs:swapsWith value (some (.Subscript o i pos')) pos.line X.env=pure false) :
  PS X (.Assign [.Subscript o i pos'] value pos) (PK td ty tv):=by
 intro pins s σ H D I h
 refine wpAny_Assign_Subscript (thn (hv pins s σ H _ I h) λr s1 ⟨v,H1,I1,rv,q1⟩=>thn (ho pins s1 σ H1 _ I1 q1) λu s2 ⟨x,H2,I2,rx,q2⟩=>thn (hi pins s2 σ H2 _ I2 q2) λiv s3 ⟨y,H3,I3,ry,a,H4,ex,g,q3⟩=>?_) hs
 subst ex
 obtain rfl:u=Ģ a:=rx
 exact Hl hu I3 g ry rv λs4 I4=>⟨σ,H4,I4,q3⟩
end
def zO{P:Program}{w:World}{H:Hp}(h:Heap)(hb:sysModules<h.objs.size):bf P w H (h.push { cls:=.type "dict",data:=.dict #[] }) h.objs.size (.dK []) :=
 ⟨ü _,beq_eq_false_iff_ne.mpr (ġ (ä hb)),[],.nil,Heap.DictOf.new h⟩
def Q0:TE:=λ_ H Q=>∀p,H p=none->Q (.ref p) (upd H p (.dK []))
section
variable {X:Cx}{pos:Pos}
def JD:PE X (.Dict [] [] pos) Q0:=λpins s σ H Q I h =>
 wpAny_Dict_empty ⟨.ref s.heap.objs.size,_,I.laid (a:=s.heap.objs.size) (o:=.dK []) (t':=s.toks) (λ_ _ q=>Î _ q) (Ô _) (zO s.heap I.big),rfl,h _ (I.hok.fresh (Ô _))⟩
end
def Ao:List (TE×TE)->St->Hp->(List (V×V)->Hp->Prop)->Prop
 |[],_,H,Q=>Q [] H
 |(tk,tv)::r,σ,H,Q=>tk σ H λx H1=>tv σ H1 λy H2=>Ao r σ H2 λps H3=>Q ((x,y)::ps) H3
abbrev VV:List (V×V)->List (Value×Value)->Prop:=Paired λp q=>RelV p.1 q.1/\RelV p.2 q.2
def PPs(X:Cx)(pos:Pos)(keys:List (Option Expr))(values:List Expr)(trs:List (TE×TE)):Prop :=
 ∀(pins:List (Addr×Obj)) (s:Shared) (σ:St) (H:Hp) (Q:List (V×V)->Hp->Prop),Inv X pins σ H s->Ao trs σ H Q ->
  wpAny (model X.prog X.w) X.A (evalPairs (pairTrees keys values X.env pos)) (λvs s'=>∃ps H',Inv X pins σ H' s'/\VV ps vs/\Q ps H') X.xe s
def M4{X:Cx}{pos:Pos}:PPs X pos [] [] []:=λpins s σ H Q I h=>pairTrees_nil_walk ⟨[],H,I,.nil,h⟩
def Jv{X:Cx}{pos:Pos}{k v:Expr}{ks:List (Option Expr)}{vs:List Expr}{tk tv:TE}{trs:List (TE×TE)}(hk:PE X k tk)(hv:PE X v tv)(hr:PPs X pos ks vs trs) :
  PPs X pos (some k::ks) (v::vs) ((tk,tv)::trs):=λpins s σ H Q I h =>
 pairTrees_cons_walk (thn (hk pins s σ H _ I h) λu s1 ⟨x,H1,I1,rx,q1⟩=>thn (hv pins s1 σ H1 _ I1 q1) λw2 s2 ⟨y,H2,I2,ry,q2⟩ =>
  thn (hr pins s2 σ H2 _ I2 q2) λws s3 ⟨ps,H3,I3,rel,q3⟩=>⟨(x,y)::ps,H3,I3,.cons ⟨rx,ry⟩ rel,q3⟩)
def rW(kvs more:List (Key×V)):List (Key×V):=more.foldl (λacc kv=>putK acc kv.1 kv.2) kvs
def KV.merge:∀{more:List (Key×V)}{rs:List (Key×Value)}{kvs:List (Key×V)}{vs:List (Key×Value)},KV more rs->KV kvs vs->KV (rW kvs more) (merged vs rs):=by
 intro more rs kvs vs r
 unfold KV at r
 induction r generalizing kvs vs with
 |nil=>intro q;exact q
 |@cons p q ps qs h t ih =>
  intro r0
  have e:KV (putK kvs p.1 p.2) (stored vs q.1 q.2):=by
   have:=r0.put p.1 h.2
   rw[←h.1];exact this
  exact ih e
theorem jR:∀(more kvs:List (Key×V)),(rW kvs more).length<=kvs.length+more.length
 |[],kvs=>by show kvs.length<=kvs.length+0;omega
 |p::r,kvs=>by
  have h1:=jR r (putK kvs p.1 p.2)
  have h2:=iV kvs p.1 p.2
  show(rW (putK kvs p.1 p.2) r).length<=_
  rw[ï];omega
theorem tH{P:Program}{w:World}:∀{kvs:List (Key×V)}{ws:List (Value×Value)},VV (kvs.map λkv=>(kV kv.1,kv.2)) ws->∃rs,Carries (aW P w) ws rs/\KV kvs rs
 |[],_,r=>by rw[List.map_nil] at r;cases r;exact⟨[],ų,.nil⟩
 |p::kvs,_,r=>by
  rw[ò] at r
  cases r with
  |@cons a b as bs h t =>
   obtain⟨rs,c,q⟩:=tH (P:=P) (w:=w) t
   obtain⟨b1,b2⟩:=b
   exact⟨(p.1,b2)::rs,⟨yW h.1,rfl,c⟩,.cons ⟨rfl,h.2⟩ q⟩
def Ue(trs:List (TE×TE)):TE:=λσ H Q=>∀p,H p=none->Ao trs σ (upd H p (.dK [])) λps H2=>H2 p=some (.dK [])/\∃kvs:List (Key×V),ps=kvs.map (λkv=>(kV kv.1,kv.2))/\kvs.length<=15/\Q (.ref p) (upd H2 p (.dK (rW [] kvs)))
def Ng{X:Cx}{pos:Pos}{keys:List (Option Expr)}{values:List Expr}{trs:List (TE×TE)}(h:PPs X pos keys values trs)(hall:keys.all (·.isSome)=true)(hl:keys.length=values.length)(h0:keys≠[])(h15:keys.length<=15):PE X (.Dict keys values pos) (Ue trs):=by
 intro pins s σ H Q I q
 have hn:=I.hok.fresh (Ô s.heap.objs.size)
 have I1:=I.laid (a:=s.heap.objs.size) (o:=.dK []) (h':=s.heap.push { cls:=.type "dict",data:=.dict #[] }) (t':=s.toks) (λ_ _ q=>Î _ q) (Ô _) (zO s.heap I.big)
 refine wpAny_Dict_walk (knd:=aW X.prog X.w) hall hl h0 h15 (thn (h pins _ σ _ _ I1 (q _ hn)) λws s2 ⟨ps,H2,I2,rel,e,kvs,ep,lk,q2⟩=>?_)
 subst ep
 obtain⟨rs,c,rk⟩:=tH (P:=X.prog) (w:=X.w) rel
 obtain⟨z,hd,vs0,r0,dd⟩:=FT I2.hok e
 cases r0
 refine⟨rs,c,dd,λh' dd' hs=>⟨.ref s.heap.objs.size,_,?_,rfl,q2⟩⟩
 have hz:(rW [] kvs).length<=sizeLine:=by
  have h1:=jR kvs []
  rw[List.length_nil] at h1
  rw[ą];omega
 have he:∃q,h'.get? s.heap.objs.size=some q:=let ⟨q,_,_,hq,_⟩:=dd';⟨q,hq⟩
 exact wQ I2 (by rw[e];exact ų) hs he (Ld hz hd (rk.merge .nil) dd')
structure M1(X:Cx)(o:Expr)(m:Str)(apos:Pos)(e:Expr)(cpos:Pos):Prop where
 base:attributeBase o m X.env (eval o X.env)=eval o X.env
 few:((backTo cpos (starEach [e] X.env)).all (λx=>!x.1)&&(backToKw cpos (keywordEach [] X.env)).all (λx=>x.1.isSome)
 &&decide (([e]:List Expr).length+([]:List Keyword).length+(if ([]:List Keyword).isEmpty then 0 else 1)<30))=true
 line:(apos.endLine == cpos.line)=true
 trees:backTo cpos (starEach [e] X.env)=[(false,eval e X.env)]
structure M2(X:Cx)(o:Expr)(m:Str)(apos:Pos)(e f:Expr)(cpos:Pos):Prop where
 base:attributeBase o m X.env (eval o X.env)=eval o X.env
 few:((backTo cpos (starEach [e,f] X.env)).all (λx=>!x.1)&&(backToKw cpos (keywordEach [] X.env)).all (λx=>x.1.isSome)
 &&decide (([e,f]:List Expr).length+([]:List Keyword).length+(if ([]:List Keyword).isEmpty then 0 else 1)<30))=true
 line:(apos.endLine == cpos.line)=true
 trees:backTo cpos (starEach [e,f] X.env)=[(false,eval e X.env),(false,eval f X.env)]
section
variable {X:Cx}{pins:List (Addr×Obj)}{σ:St}{H:Hp}{s:Shared}{a:Addr}{y d:V}{u r:Value}{o:Option V}{A:Around}{E:Value->Shared->Prop}
end
section
variable {X:Cx}{o e f:Expr}{apos cpos:Pos}{td ty tx:TE}
end
section
variable {X:Cx}{pins:List (Addr×Obj)}{σ:St}{H:Hp}{s:Shared}{a:Addr}{kvs:List (Key×V)}{A:Around}{E:Value->Shared->Prop}
end
section
variable {X:Cx}{pins:List (Addr×Obj)}{σ:St}{H:Hp}{s:Shared}{a:Addr}{y:V}{u:Value}{A:Around}{E:Value->Shared->Prop}
end
section
variable {prog:Program}{w:World}{A:Around}{E:Value->Shared->Prop}{s:Shared}
def zX{T:String}{r d:Addr}{n:Nat}{P:Nat->Value->Prop}{OK:Heap->Prop}{R:List Value->Shared->Prop}(K:W.KdlSrc prog w T r d n P OK)(hh:A.handled=none)(hok:OK s.heap)(hn:n<=sizeLine)(h:∀(h':Heap) (tk:Nat) (acc:Array Value),s.heap.objs.size<h'.objs.size->(∀b o,s.heap.get? b=some o->h'.get? b=some o)->ItemsOf P acc n->R acc.toList { s with heap:=h',toks:=tk }) :
  wpAny (model prog w) A (collect (.ref r)) R E s:=by
 have hlt:=K.there _ hok
 unfold collect
 refine Æ (wpAny_runValue (codeAny_builtin entry_proto_collect' ?_))
 rw[Around.under_plainId PySem.F.plain_proto_collect _]
 show wpAny _ A.in1 (newList [] >>= λl=>again (.builtin "list.__iadd__" ⟨[l,.ref r],[]⟩)) _ _ s
 refine Æ (ř ?_)
 refine Ö ⟨plainId_quiet PySem.F.plain_list_iadd _,codeAny_builtin entry_list_iadd' ?_⟩
 rw[Around.under_plainId PySem.F.plain_list_iadd _]
 have hS₁:(s.heap.push { cls:=.type "list",data:=.seq ([]:List Value).toArray }).get? s.heap.objs.size=some { cls:=.type "list",data:=.seq #[] }:=Þ _ rfl
 show wpAny _ A.in1 (ĥ (.ref s.heap.objs.size) (.ref r) (.ref s.heap.objs.size)) _ _ _
 have key:=W.kdl_extend (A:=A) (s:={ s with heap:=s.heap.push { cls:=.type "list",data:=.seq ([]:List Value).toArray } }) K
  (R:=λ(q:Result) (s':Shared)=>∃(h':Heap) (tk:Nat) (acc':Array Value) (c':Nat),q=.ok (.ret (.ref s.heap.objs.size))/\s'={ s with heap:=h',toks:=tk } /\
   (∀b o,s.heap.get? b=some o->h'.get? b=some o)/\h'.get? s.heap.objs.size=some { cls:=.type "list",dict:=none,data:=.seq acc' c',slots:=#[] }/\ItemsOf P acc' n)
  hh (K.keep _ _ hok λb _ o e=>Î _ e) s.heap.objs.size (Ļ hlt.1) (Ļ hlt.2) (.ref s.heap.objs.size) 0 hS₁
  (λh' tk acc' c' hk hS' hacc=>⟨h',tk,acc',c',rfl,rfl,λb o e=>hk b o (ä (Ï e)) (Î _ e),hS',hacc⟩) hn
 refine Œ key (λfin s' x=>?_) λe s' x=>?_
 ·cases fin with
  |done f =>
   obtain⟨h',tk,acc',c',e,rfl,hk,hS',hacc⟩:=x
   cases e
   show wpAny _ A (load s.heap.objs.size >>= _) _ _ _
   refine Æ (wpAny_load hS' ?_)
   exact Ö (h h' tk acc' (Ï hS') hk hacc)
  |again c₁ =>
   refine⟨x.1,codeAny_mono x.2 λq s₂ y=>?_⟩
   obtain⟨h',tk,acc',c',rfl,rfl,hk,hS',hacc⟩:=y
   show wpAny _ A (load s.heap.objs.size >>= _) _ _ _
   refine Æ (wpAny_load hS' ?_)
   exact Ö (h h' tk acc' (Ï hS') hk hacc)
 ·obtain⟨_,_,_,_,e',_⟩:=x
  cases e'
def Ay{T:String}{r d:Addr}{n:Nat}{P:Nat->Value->Prop}{OK:Heap->Prop}{Q:Value->Shared->Prop}{ns:List Int}(K:W.KdlSrc prog w T r d n P OK)(hh:A.handled=none)(hok:OK s.heap)(hn:n<64)(hP:∀us:List Value,us.length=n->(∀j v,us[j]?=some v->P j v)->IntsAre us ns)(h:∀(h':Heap) (tk:Nat) (D:Addr) (e:Nat) (out:Array Value) (ns':List Int),s.heap.objs.size<=D->(∀b o,s.heap.get? b=some o->h'.get? b=some o)->h'.get? D=some { cls:=.type "list",data:=.seq out e }->IntsAre out.toList ns'->ns'.Perm ns->ns'.Pairwise (·<=·)->Q (.ref D) { s with heap:=h',toks:=tk }) :
  wpAny (model prog w) A (call (.builtin "sorted") [.ref r]) Q E s:=by
 have h24:=ą
 refine Calls.call_function_entry kind_sorted plain_sorted entry_sorted (args_sorted1 _) ?_
 unfold Builtin.«sorted»
 refine Æ (m:=checkCount "sorted" 1 1 _) (Ö ?_)
 refine Æ (zX (A:=A.in1) K hh hok (by omega) λh1 tk acc hsz hk hacc=>?_)
 have hlen:acc.toList.length=n:=by rw[Ę];exact hacc.1
 have hI:IntsAre acc.toList ns:=hP acc.toList hlen λj v e=>hacc.2 j v (by rw[←Array.getElem?_toList];exact e)
 have hz:s.heap.objs.size<=h1.objs.size:=Nat.le_of_lt hsz
 refine Æ (wpAny_newList ?_ (by omega))
 have hoL:(h1.push (seqObj "list" acc.toList.toArray 0)).get? h1.objs.size=some (seqObj "list" acc.toList.toArray 0):=Þ _ rfl
 refine Æ (Ě (ĵ slot_list_sort ⟨_,hoL,rfl⟩ entry_list_sort (list_sort_tree hoL hI (by omega) λout ns' a1 a2 a3=>⟨_,rfl,?_⟩) (args_list_sort _)))
 obtain⟨e,he⟩:=sortedHeap_at (out:=out) hoL
 refine Ö ⟨_,rfl,h _ tk h1.objs.size e out ns' hz (λb o q=>?_) he a1 a2 a3⟩
 have q1:=hk b o q
 have hlt:b<h1.objs.size:=Ï q1
 rw[sortedHeap_old (ä hlt) (by rw[size_push'];exact ď hlt)]
 exact Î _ q1
end
section
variable {X:Cx}
def wX:aP X (.builtin "sorted") (λxs H Q=>∃(p:Addr) (ns:List Int),xs=[.ref p]/\SqL X.K H p (ns.map V.int)/\ns.length<64 /\
  ∀(l:Addr) (out:List Int),H l=none->out.Perm ns->out.Pairwise (·<=·)->Q (.ref l) (upd H l (.lst (out.map V.int)))):=by
 intro pins s σ H xs us Q I r h
 obtain⟨p,ns,rfl,hp,h64,q⟩:=h
 obtain⟨u,rfl,rx⟩:=vals1 r
 cases rx
 obtain⟨its,rv,pl,hz⟩:=I.list hp
 have hI:IntsAre its ns:=intsAre_of rv
 have hl:=rv.length
 rw[Ä] at hl
 refine sorted_ints (vs:=its) (ns:=ns) pl.isList hI (by omega) λout ns' a1 a2 a3=>?_
 obtain⟨e,he⟩:=sortedAll_at s.heap its out
 have hv:=jm a1
 have hlo:=hv.length
 rw[Ä] at hlo
 have hpl:=a2.length_eq
 have h24:=ą
 refine⟨.ref (s.heap.objs.size+1),upd H (s.heap.objs.size+1) (.lst (ns'.map V.int)),I.laid (t':=s.toks) (λb o eb=>sortedAll_old eb) (Ň _) ⟨?_,out.toList,e,hv,by simpa using he⟩,rfl,q _ _ (I.hok.fresh (Ň _)) a2 a3⟩
 rw[Ä]
 omega
def G5{P:Program}{w:World}{vs:List (Key×Value)}{ks:List Int}(hk:vs.map (·.1)=ks.map û):∀us:List Value,us.length=vs.length->(∀(j:Nat) (v:Value),us[j]?=some v->∃k x,vs[j]?=some (k,x)/\(aW P w).is k v=true)->IntsAre us ks:=by
 intro us
 induction us generalizing vs ks with
 |nil =>
  intro hl _
  have e:vs=[]:=List.eq_nil_of_length_eq_zero (by simpa using hl.symm)
  subst e
  cases ks with
  |nil=>exact .nil
  |cons k ks=>simp at hk
 |cons u us ih =>
  intro hl h
  cases vs with
  |nil=>simp at hl
  |cons v vs =>
   cases ks with
   |nil=>simp at hk
   |cons k ks =>
    rw[ò,ò] at hk
    injection hk with hk1 hk2
    obtain⟨k',x,e,is⟩:=h 0 u (by simp)
    simp at e
    subst e
    simp only at hk1
    subst hk1
    have is':o8 (û k) u=true:=is
    rcases aO is' with ⟨i,t,e1,e2⟩|⟨y,t,e1,e2⟩
    ·injection e1 with e1
     subst e1 e2
     exact .cons _ t (ih hk2 (by simpa using hl) λj v hj=>by simpa using h (j+1) v (by simpa using hj))
    ·cases e1
def wY(hc:X.calm=true):aP X (.builtin "sorted") (λxs H Q=>∃(d:Addr) (kvs:List (Key×V)) (ks:List Int),xs=[.ref d]/\H d=some (.dK kvs)/\kvs.map (·.1)=ks.map û/\ks.length<64 /\
  ∀(l:Addr) (out:List Int),H l=none->out.Perm ks->out.Pairwise (·<=·)->Q (.ref l) (upd H l (.lst (out.map V.int)))):=by
 intro pins s σ H xs us Q I r h
 obtain⟨d,kvs,ks,rfl,hd,hks,h64,q⟩:=h
 obtain⟨u,rfl,rx⟩:=vals1 r
 cases rx
 obtain⟨hz,lo,vs,kv,o,es,ep,ho,hx,hda,hk1,hk2,hk3⟩:=FT I.hok hd
 have hm:s.heap.DictAt (aW X.prog X.w) d vs ep:=⟨o,es,ho,hx,hda,hk1,hk2,hk3⟩
 have hkeys:vs.map (·.1)=ks.map û:=by rw[←KV.keys kv];exact hks
 have hlv:vs.length=ks.length:=by have:=congrArg List.length hkeys;simpa using this
 refine Ay (ns:=ks) (W.kdl_dict (ep:=ep) lo) (I.ok.hd hc) hm (by omega) (λus hl h=>G5 hkeys us hl h) λh' tk D e out ns' hD hk he a1 a2 a3=>?_
 have hv:=jm a1
 have hpl:=a2.length_eq
 have h24:=ą
 refine⟨.ref D,upd H D (.lst (ns'.map V.int)),I.laid (λb o eb=>hk b o eb) hD ⟨?_,out.toList,e,hv,by simpa using he⟩,rfl,q _ _ (I.hok.fresh hD) a2 a3⟩
 rw[Ä]
 omega
end
section
variable {X:Cx}
def iD(l:List Int):PyData:=.list (l.map Â)
theorem Kf:∀l:List Int,Ĉ (l.map Â)=true
 |[]=>rfl
 |t::ts=>by
  show(PyData.canLay0 (Â t)&&Ĉ (ts.map Â))=true
  rw[Kf ts]
  rfl
theorem zT:∀l:List Int,ē (l.map Â)=0
 |[]=>rfl
 |t::ts=>by
  show max (PyData.depth (Â t)) (ē (ts.map Â))=0
  rw[zT ts]
  rfl
inductive DatL(K:Ý)(H:Hp):V->PyData->Prop
 |flt {a:Addr}{l:List Int}:SqL K H a (l.map V.int)->DatL K H (.ref a) (iD l)
 |lists {a:Addr}{as:List Addr}{ls:List (List Int)}:SqL K H a (as.map V.ref)->Paired (λ(a:Addr) (l:List Int)=>SqL K H a (l.map V.int)) as ls->DatL K H (.ref a) (.list (ls.map iD))
end
end L2
namespace PySem
open PyProof.Rows
def Ww(h:Heap)(e:Addr):Prop:=∃oe vs,h.get? e=some oe/\oe.data=.fields vs/\vs[2]?=some .none
section
variable {M:Model}{A:Around}{E:Value->Shared->Prop}{s:Shared}{base:Heap}{env:Env}{outer:List Env}{L e:Addr}{Q:Unit->Shared->Prop}
end
end PySem
namespace L2
open PySem PySem.Spec PyProof.Rows
def Wx(base:Heap)(l:List Env)(e:Addr)(cls a0:Value)(h:Heap):Prop:=base.StaysIn h/\base.get? e=none/\h.FunFrames base l/\h.TracedW base e cls a0/\Ww h e
def CX1(P:Program)(w:World):CXT:=λouter H s E e s'=>∃(a:Addr) (cls a0:Value) (H1:Hp) (hb:Heap),e=.ref a/\s'.os=s.os/\AllBare s'.gens/\Un (frs outer) [] H H1 s.heap s'.heap/\HOk P w H1 hb/\Wx hb outer a cls a0 s'.heap /\
 (∀b o,s.heap.get? b=some o->H b=none->b∉frs outer->hb.get? b=some o)/\(∀b o,s.heap.get? b=some o->b∉frs outer->∃o',hb.get? b=some o')/\E cls none H1
structure Lets(X:Cx)(E:XK):Prop where
 xe:∀e s',wpAny (model X.prog X.w) X.A (leaving X.env e) (λ_ s''=>CX1 X.prog X.w X.outer X.H₀ X.s₀ E e s'') (λe' s''=>CX1 X.prog X.w X.outer X.H₀ X.s₀ E e' s'') s'->X.xe e s'
 stk:X.stack=X.env::X.outer
 fr:X.env.frame=some X.env.locals
 ex:X.ex=[]
section
variable {X:Cx}{pins:List (Addr×Obj)}{σ:St}{H H1:Hp}{s:Shared}{E:XK}
end
structure ExcCls(K:Ý)(C:Addr)(newId:String)(bmB:List Value):Prop where
 ex:∃(nm q:Str) (N:Addr) (bs bm:List Value) (hdct:Bool) (sn:List Str) (sub:List Value) (ab:Bool) (col:Option Bool) (dd:Option Addr) (k0 k1 k2 k3 k5:Option Value),
  K.lookup C=some (excClassObj nm q C N bs bm hdct sn sub ab col dd k0 k1 k2 k3 k5 newId)/\W.tailIn K bmB bm=true/\W.nsOkIn K N=true/\W.nsIn K N "__init__"=some none/\bm.contains (.type "BaseException")=true
section
variable {X:Cx}{E:XK}{x:Str}{C:Addr}{newId Bn initId:String}{bmB:List Value}{e:Expr}{es:List Expr}{t:TA}{np cpos pos:Pos}
end
section
variable {X:Cx}{pins:List (Addr×Obj)}{σ:St}{H:Hp}{s:Shared}{ev:Value}
def Inv.track{a:Addr}{o:HO}(I:Inv X pins σ H s)(hn:H a=none)(h0:∀ob,X.s₀.heap.get? a≠some ob)(hL:a≠X.env.locals)(hC:∀x c,X.env.cells.lookup x=some c->c≠a)(hp:∀p∈X.pn++pins,p.1≠a)(new:bf X.prog X.w (upd H a o) s.heap a o):Inv X pins σ (upd H a o) s:=by
 refine⟨I.ok,I.os,I.bare,⟨I.base.keep,I.base.slot,λb ob e n hx=>?_,I.base.there,λb xs e=>?_,λb ob u e=>?_,λb ps e=>?_⟩,I.loc,I.cell,?_,λx c e=>?_,λp q=>?_,I.hok.track hn new,I.len⟩
 ·rw[aj (show b≠a from λz=>h0 ob (by rw[←z];exact e))]
  exact I.base.free b ob e n hx
 ·have q:=I.base.tups b xs e
  rw[aj (ao q hn)]
  exact q
 ·have q:=I.base.frzs b ob u e
  rw[aj (ao q hn)]
  exact q
 ·obtain⟨m,q⟩:=I.base.tbls b ps e
  exact⟨m,by rw[aj (ao q hn)];exact q⟩
 ·rw[aj (ġ hL)]
  exact I.free
 ·rw[aj (hC x c e)]
  exact I.freeC x c e
 ·obtain⟨q1,q2,q3⟩:=I.pin p q
  exact⟨q1,by rw[aj (hp p q)];exact q2,q3⟩
end
section
variable {X:Cx}{k:Nat}{f CF:Addr}{fd:FuncData}{ps:List Str}{sp:Sp}{E:XK}{x hx n:Str}{p np cpos epos hpos pos:Pos}{e:Expr}{es:List Expr}{t:TA}{b₀:Stmt}{suite:List Stmt}{ts:TS}{j:Nat}
end
end L2
namespace L2
open PySem PySem.W PySem.Spec PyProof.Rows
structure ExcK(K:Ý)(C:Addr):Prop where
 ex:∃(nm q:Str) (N AF:Addr) (bs bmB:List Value) (hdct:Bool) (sn:List Str) (sub:List Value) (ab:Bool) (col:Option Bool) (dd ddF:Option Addr) (k0 k1 k2 k3 k5:Option Value) (newId B:String) (c0:Value) (cd:ClassData) (slF:Array (Option Value)),
  K.lookup C=some (excClassObj nm q C N bs (.ref AF::bmB) hdct sn sub ab col dd k0 k1 k2 k3 k5 newId)/\K.lookup AF=some ⟨c0,ddF,.cls cd,slF⟩/\nsOkIn K cd.ns=true/\(∀n∈quietNames,nsIn K cd.ns n=some none)/\ExcAttrBase B bmB
 ga:findIn K (.ref C) "__getattribute__"=some (some (.builtin "BaseException.__getattribute__"))
 hook:findIn K (.ref C) "__getattr__"=some none
 cls:findIn K (.ref C) "__class__"=some (some (.builtin "object.__class__"))
 mro:mroIn K C (.type "object")=some true
section
variable {prog:Program}{w:World}{K:Ý}{a C:Addr}{A:Around}{E:Value->Shared->Prop}{s:Shared}
end
section
variable {X:Cx}
def Qa:R2:=λx y H Q=>∃a b xs ys,x=.ref a/\y=.ref b/\H a=some (.tup xs)/\H b=some (.tup ys)/\xs.length+ys.length<=sizeLine/\∀c H',(∀d u,H d=some u->H' d=some u)->H' c=some (.tup (xs++ys))->Q (.ref c) H'
def Nu:OpR X (binaryOp .Add) Qa:=by
 intro pins s σ H x y v u Q I rx ry h
 obtain⟨a,b,xs,ys,rfl,rfl,ha,hb,hz,q⟩:=h
 cases rx
 cases ry
 obtain⟨its,r1,p1,_⟩:=I.tuple (SqT.of ha)
 obtain⟨its2,r2,p2,_⟩:=I.tuple (SqT.of hb)
 by_cases hx:xs=[]
 ·subst hx
  cases r1
  obtain⟨m,F⟩:=I.fr
  refine add_tuples (vs:=[]) F J0 p1 p2 (λ_=>⟨.ref b,H,I,rfl,q b H (λ_ _ z=>z) (by simpa using hb)⟩) (λz=>absurd rfl z) (λz=>absurd rfl z) (by rw[←r2.length];simpa using hz)
 ·refine Nt pins s σ H (.ref a) (.ref b) (.ref a) (.ref b) Q I rfl rfl ⟨a,b,xs,ys,rfl,rfl,SqT.of ha,SqT.of hb,hx,hz,λe=>?_,λ_ p hp=>?_⟩
  ·subst e
   exact q a H (λ_ _ z=>z) (by rw[Ŗ];exact ha)
  ·exact q p _ (λd u z=>by rw[aj (ao z hp)];exact z) aq
end
section
variable {K:Ý}{C c:Addr}{dd:Option Addr}{cd:ClassData}{sl:Array (Option Value)}
end
end L2
namespace Dl
open PySem L2 PyProof.Rows
abbrev D:=PyData
def kD:Key->D
 |.inl i=>.int i
 |.inr x=>.str x
mutual
inductive Rp(ok:Addr->Prop)(H:Hp):V->D->Prop
 |non:Rp ok H .non .none
 |bl (b:Bool):Rp ok H (.bl b) (.bool b)
 |int (i:Int):Rp ok H (.int i) (.int i)
 |str (x:Str):Rp ok H (.str x) (.str x)
 |lst {a:Addr}{vs:List V}{ds:List D} (o:ok a) (h:H a=some (.lst vs)) (r:Rps ok H vs ds):Rp ok H (.ref a) (.list ds)
 |tup {a:Addr}{vs:List V}{ds:List D} (h:H a=some (.tup vs)) (r:Rps ok H vs ds):Rp ok H (.ref a) (.tuple ds)
 |dct {a:Addr}{kvs:List (Key×V)}{ds:List (D×D)} (o:ok a) (h:H a=some (.dK kvs)) (r:Rkv ok H kvs ds):Rp ok H (.ref a) (.dict ds)
inductive Rps(ok:Addr->Prop)(H:Hp):List V->List D->Prop
 |nil:Rps ok H [] []
 |cons {v:V}{d:D}{vs:List V}{ds:List D} (h:Rp ok H v d) (t:Rps ok H vs ds):Rps ok H (v::vs) (d::ds)
inductive Rkv(ok:Addr->Prop)(H:Hp):List (Key×V)->List (D×D)->Prop
 |nil:Rkv ok H [] []
 |cons {k:Key}{v:V}{d:D}{vs:List (Key×V)}{ds:List (D×D)} (h:Rp ok H v d) (t:Rkv ok H vs ds):Rkv ok H ((k,v)::vs) ((kD k,d)::ds)
end
section
variable {ok ok':Addr->Prop}{H H':Hp}
mutual
theorem Rp.mono(f:∀a,ok a->ok' a)(g:∀a o,ok a->H a=some o->H' a=some o)(t:∀a xs,H a=some (.tup xs)->H' a=some (.tup xs)):∀{v:V}{d:D},Rp ok H v d->Rp ok' H' v d
 |_,_,.non=>.non
 |_,_,.bl b=>.bl b
 |_,_,.int i=>.int i
 |_,_,.str x=>.str x
 |_,_,.lst o h r=>.lst (f _ o) (g _ _ o h) (Rps.mono f g t r)
 |_,_,.tup h r=>.tup (t _ _ h) (Rps.mono f g t r)
 |_,_,.dct o h r=>.dct (f _ o) (g _ _ o h) (Rkv.mono f g t r)
theorem Rps.mono(f:∀a,ok a->ok' a)(g:∀a o,ok a->H a=some o->H' a=some o)(t:∀a xs,H a=some (.tup xs)->H' a=some (.tup xs)):∀{v:List V}{d:List D},Rps ok H v d->Rps ok' H' v d
 |_,_,.nil=>.nil
 |_,_,.cons h r=>.cons (Rp.mono f g t h) (Rps.mono f g t r)
theorem Rkv.mono(f:∀a,ok a->ok' a)(g:∀a o,ok a->H a=some o->H' a=some o)(t:∀a xs,H a=some (.tup xs)->H' a=some (.tup xs)):∀{v:List (Key×V)}{d:List (D×D)},Rkv ok H v d->Rkv ok' H' v d
 |_,_,.nil=>.nil
 |_,_,.cons h r=>.cons (Rp.mono f g t h) (Rkv.mono f g t r)
end
theorem Rps.length:∀{vs:List V}{ds:List D},Rps ok H vs ds->vs.length=ds.length
 |_,_,.nil=>rfl
 |_,_,.cons _ t=>by rw[ï,ï,Rps.length t]
theorem Rps.getD:∀{vs:List V}{ds:List D}{i:Nat}{d:D},Rps ok H vs ds->ds[i]?=some d->∃v,vs[i]?=some v/\Rp ok H v d
 |_,_,i,v,.nil,e=>by simp at e
 |_,_,0,v,.cons h t,e=>by simp at e;subst e;exact⟨_,rfl,h⟩
 |_,_,i+1,v,.cons h t,e=>by
  obtain⟨d,a,b⟩:=Rps.getD (i:=i) (d:=v) t (by simpa using e)
  exact⟨d,by simpa using a,b⟩
theorem Rps.app:∀{vs ws:List V}{ds es:List D},Rps ok H vs ds->Rps ok H ws es->Rps ok H (vs++ws) (ds++es)
 |_,_,_,_,.nil,s=>s
 |_,_,_,_,.cons h t,s=>.cons h (Rps.app t s)
def Rps.snoc{vs:List V}{ds:List D}{v:V}{d:D}(h:Rps ok H vs ds)(r:Rp ok H v d):Rps ok H (vs++[v]) (ds++[d]):=h.app (.cons r .nil)
theorem Rps.set{v:V}{d:D}(r:Rp ok H v d):∀{vs:List V}{ds:List D} (i:Nat),Rps ok H vs ds->Rps ok H (vs.set i v) (ds.set i d)
 |_,_,_,.nil=>.nil
 |_,_,0,.cons _ t=>.cons r t
 |_,_,i+1,.cons q t=>.cons q (Rps.set r i t)
theorem Rps.take:∀{vs:List V}{ds:List D} (n:Nat),Rps ok H vs ds->Rps ok H (vs.take n) (ds.take n)
 |_,_,0,_=>by simp;exact .nil
 |_,_,_+1,.nil=>by simp;exact .nil
 |_,_,n+1,.cons r t=>.cons r (Rps.take n t)
theorem Rps.drop:∀{vs:List V}{ds:List D} (n:Nat),Rps ok H vs ds->Rps ok H (vs.drop n) (ds.drop n)
 |_,_,0,r=>r
 |_,_,_+1,.nil=>by simp;exact .nil
 |_,_,n+1,.cons _ t=>Rps.drop n t
theorem Rps.ofMap{α:Type}{f:α->V}{g:α->D}(h:∀x,Rp ok H (f x) (g x)):∀l:List α,Rps ok H (l.map f) (l.map g)
 |[]=>.nil
 |x::l=>.cons (h x) (Rps.ofMap h l)
def Rp.int'{v:V}{i:Int}(r:Rp ok H v (.int i)):v=.int i:=by cases r;rfl
def Rp.bl'{v:V}{i:Bool}(r:Rp ok H v (.bool i)):v=.bl i:=by cases r;rfl
def Rp.str'{v:V}{i:Str}(r:Rp ok H v (.str i)):v=.str i:=by cases r;rfl
def Rp.aX{v:V}{ds:List D}(r:Rp ok H v (.list ds)):∃a vs,v=.ref a/\ok a/\H a=some (.lst vs)/\Rps ok H vs ds:=by
 cases r with
 |lst o h r=>exact⟨_,_,rfl,o,h,r⟩
def Rp.dG{v:V}{ds:List D}(r:Rp ok H v (.tuple ds)):∃a vs,v=.ref a/\H a=some (.tup vs)/\Rps ok H vs ds:=by
 cases r with
 |tup h r=>exact⟨_,_,rfl,h,r⟩
theorem Rps.ints:∀{vs:List V}{ns:List Int},Rps ok H vs (ns.map Â)->vs=ns.map V.int
 |[],[],_=>rfl
 |_,n::ns,.cons h t=>by
  have e:=h.int'
  subst e
  rw[Rps.ints t]
  rfl
def Rps.two{vs:List V}{d e:D}(r:Rps ok H vs [d,e]):∃v w,vs=[v,w]/\Rp ok H v d/\Rp ok H w e:=by
 cases r with
 |cons h t =>
  cases t with
  |cons h2 t2 =>
   cases t2
   exact⟨_,_,rfl,h,h2⟩
end
mutual
def cL:D->Bool
 |.none=>true
 |.bool _=>true
 |.int _=>true
 |.str _=>true
 |.list _=>false
 |.tuple ds=>cu ds
 |.dict _=>false
def cu:List D->Bool
 |[]=>true
 |d::ds=>cL d&&cu ds
end
section
variable {ok:Addr->Prop}{H:Hp}
mutual
theorem Rp.imm:∀{v:V}{d:D},Rp ok H v d->cL d=true->Rp (λ_=>False) H v d
 |_,_,.non,_=>.non
 |_,_,.bl b,_=>.bl b
 |_,_,.int i,_=>.int i
 |_,_,.str x,_=>.str x
 |_,_,.tup h r,e=>.tup h (Rps.imm r e)
theorem Rps.imm:∀{v:List V}{d:List D},Rps ok H v d->cu d=true->Rps (λ_=>False) H v d
 |_,_,.nil,_=>.nil
 |_,_,.cons h r,e=>.cons (Rp.imm h (by simp only[cu,Õ] at e;exact e.1)) (Rps.imm r (by simp only[cu,Õ] at e;exact e.2))
end
end
def Fxd(o:HO):Prop:=∃x φ,o=.frz x (.ext φ)
structure Pn where
 fp:Addr->Prop
 PI:Hp->Prop
 pv:V
 mono:∀H H',PI H->(∀b o,(fp b\/Fxd o)->H b=some o->H' b=some o)->PI H'
 is:∀H b,PI H->fp b->∃o,H b=some o/\(∀xs,o≠.tup xs)/\¬Fxd o
class Gr where
 G:Pn->Hp->Prop
instance (priority:=low) grT:Gr:=⟨λ_ _=>True⟩
def oY:Pn:=⟨λ_=>False,λ_=>True,.non,λ_ _ _ _=>trivial,λ_ _ _ h=>h.elim⟩
def Kp(p:Pn)(H H':Hp):Prop:=∀b o,H b=some o->¬p.fp b->H' b=some o
def Kp.refl{p:Pn}{H:Hp}:Kp p H H:=λ_ _ h _=>h
def Kp.trans{p:Pn}{H H1 H2:Hp}(a:Kp p H H1)(b:Kp p H1 H2):Kp p H H2:=λc o h n=>b c o (a c o h n) n
def Kp.of{p:Pn}{H H':Hp}(s:Same H H'):Kp p H H':=λb o h _=>s b o h
inductive Sl where
 |any
 |im (d:D)
 |sh (d:D)
 |sn (d:D)
 |dw (r:Nat) (d:D)
 |pen (C:Pn->Prop)
 |rw (r:Nat) (L:List (List D))
 |tw (r:Nat) (L:List (List D))
 |scr (v:V) (b:Bool)
 |sp (r:Nat) (b:Bool) (ds:List D)
inductive Kd where
 |imm|new|reg (r:Nat)|n0|snw|shr|wk
 deriving DecidableEq
def Kd.le:Kd->Kd->Bool
 |.imm,_=>true
 |.new,.new=>true
 |.new,.n0=>true
 |.new,.snw=>true
 |.new,.shr=>true
 |.new,.wk=>true
 |.reg r,.reg q=>r == q
 |.reg _,.n0=>true
 |.reg _,.wk=>true
 |.snw,.snw=>true
 |.snw,.n0=>true
 |.snw,.shr=>true
 |.snw,.wk=>true
 |.n0,.n0=>true
 |.n0,.wk=>true
 |.shr,.shr=>true
 |.shr,.wk=>true
 |.wk,.wk=>true
 |_,_=>false
def Kd.join(a b:Kd):Kd:=if a.le b then b else if b.le a then a else if a.le .n0&&b.le .n0 then .n0 else if a.le .shr&&b.le .shr then .shr else .wk
def norm(k:Kd)(d:D):Kd:=match k with
 |.imm=>.imm
 |k=>if cL d then .imm else k
def aU{k:Kd}{d:D}(h:cL d=true):norm k d=.imm:=by
 cases k <;> first
  |rfl
  |exact if_pos h
def bN{k:Kd}{d:D}(h:¬cL d=true):norm k d=k:=by
 cases k <;> first
  |rfl
  |exact if_neg h
def okK(p:Pn)(H0:Hp)(own:Addr->Option Nat)(Hb:Hp):Kd->Addr->Prop
 |.imm=>λ_=>False
 |.new=>λa=>Hb a=none
 |.reg r=>λa=>own a=some r
 |.n0=>λa=>H0 a=none/\¬p.fp a
 |.snw=>λa=>H0 a=none/\¬p.fp a/\own a=none
 |.shr=>λa=>¬p.fp a/\own a=none
 |.wk=>λa=>¬p.fp a
structure At(p:Pn)(H0:Hp)(own:Addr->Option Nat)(Hb H:Hp):Prop where
 k0:∀b o,H0 b=some o->¬p.fp b->Hb b=some o
 kp:Kp p Hb H
 penb:p.PI Hb
 pen:p.PI H
 ow:∀a r,own a=some r->H0 a=none/\¬p.fp a/\Hb a≠none
section
variable {p:Pn}{H0 Hb H H':Hp}{own:Addr->Option Nat}
def At.nfp(A:At p H0 own Hb H){a:Addr}(h:H a=none):¬p.fp a:=λz=>by
 obtain⟨o,e,_⟩:=p.is H a A.pen z
 rw[h] at e
 cases e
def At.free(A:At p H0 own Hb H){a:Addr}(h:H a=none):Hb a=none:=by
 have hn:=A.nfp h
 cases e:Hb a with
 |none=>rfl
 |some o=>rw[A.kp a o e hn] at h;cases h
def At.nfb(A:At p H0 own Hb H){a:Addr}(h:Hb a=none):¬p.fp a:=λz=>by
 obtain⟨o,e,_⟩:=p.is Hb a A.penb z
 rw[h] at e
 cases e
def At.Nq(A:At p H0 own Hb H){a:Addr}(h:Hb a=none):own a=none:=by
 cases e:own a with
 |none=>rfl
 |some r=>exact absurd h (A.ow a r e).2.2
def At.h0(A:At p H0 own Hb H){a:Addr}(h:Hb a=none):H0 a=none:=by
 cases e:H0 a with
 |none=>rfl
 |some o=>rw[A.k0 a o e (A.nfb h)] at h;cases h
def cC(A:At p H0 own Hb H){j k:Kd}(h:j.le k=true){a:Addr}(o:okK p H0 own Hb j a):okK p H0 own Hb k a:=by
 cases j with
 |imm=>exact Ũ o
 |new =>
  cases k with
  |imm=>cases h
  |new=>exact o
  |reg r=>cases h
  |n0=>exact⟨A.h0 o,A.nfb o⟩
  |snw=>exact⟨A.h0 o,A.nfb o,A.Nq o⟩
  |shr=>exact⟨A.nfb o,A.Nq o⟩
  |wk=>exact A.nfb o
 |reg r =>
  cases k with
  |reg q =>
   have e:r=q:=by simpa[Kd.le] using h
   subst e
   exact o
  |n0=>exact⟨(A.ow a r o).1,(A.ow a r o).2.1⟩
  |wk=>exact(A.ow a r o).2.1
  |_=>cases h
 |n0 =>
  cases k with
  |n0=>exact o
  |wk=>exact o.2
  |_=>cases h
 |snw =>
  cases k with
  |snw=>exact o
  |n0=>exact⟨o.1,o.2.1⟩
  |shr=>exact o.2
  |wk=>exact o.2.1
  |_=>cases h
 |shr =>
  cases k with
  |shr=>exact o
  |wk=>exact o.1
  |_=>cases h
 |wk =>
  cases k with
  |wk=>exact o
  |_=>cases h
def fY(A:At p H0 own Hb H){k:Kd}{a:Addr}(o:okK p H0 own Hb k a):¬p.fp a:=by
 have:k.le .wk=true:=by cases k <;> rfl
 exact cC A this o
def gK(A:At p H0 own Hb H){j k:Kd}(h:j.le k=true){v:V}{d:D}{H2:Hp}(r:Rp (okK p H0 own Hb j) H2 v d):Rp (okK p H0 own Hb k) H2 v d :=
 r.mono (λa o=>cC A h o) (λ_ _ _ e=>e) λ_ _ e=>e
def dh(a b:Kd):a.le (a.join b)=true/\b.le (a.join b)=true:=by
 unfold Kd.join
 by_cases h:a.le b=true
 ·rw[if_pos h];exact⟨h,by cases b <;> simp[Kd.le]⟩
 ·rw[if_neg h]
  by_cases h2:b.le a=true
  ·rw[if_pos h2];exact⟨by cases a <;> simp[Kd.le],h2⟩
  ·rw[if_neg h2]
   by_cases h3:(a.le .n0&&b.le .n0)=true
   ·rw[if_pos h3];exact Õ _ _ ▸ h3
   ·rw[if_neg h3]
    by_cases h4:(a.le .shr&&b.le .shr)=true
    ·rw[if_pos h4];exact Õ _ _ ▸ h4
    ·rw[if_neg h4];exact⟨by cases a <;> rfl,by cases b <;> rfl⟩
def bx{k:Kd}{v:V}{d:D}{H2:Hp}(r:Rp (okK p H0 own Hb k) H2 v d):Rp (okK p H0 own Hb (norm k d)) H2 v d:=by
 by_cases h:cL d=true
 ·rw[aU h];exact r.imm h
 ·rw[bN h];exact r
def iW(A:At p H0 own Hb H)(k:Kp p H H'):∀a xs,H a=some (.tup xs)->H' a=some (.tup xs):=λa xs h=>k a _ h λz=>by
 obtain⟨o,e,n⟩:=p.is H a A.pen z
 rw[h] at e
 exact n.1 xs (Ø e).symm
def gM(A:At p H0 own Hb H)(k:Kp p H H'){j:Kd}{v:V}{d:D}(r:Rp (okK p H0 own Hb j) H v d):Rp (okK p H0 own Hb j) H' v d :=
 r.mono (λ_ o=>o) (λa o h e=>k a o e (fY A h)) (iW A k)
def bR(A:At p H0 own Hb H)(k:Kp p H H'){j:Kd}{v:List V}{d:List D}(r:Rps (okK p H0 own Hb j) H v d):Rps (okK p H0 own Hb j) H' v d :=
 r.mono (λ_ o=>o) (λa o h e=>k a o e (fY A h)) (iW A k)
def At.go(A:At p H0 own Hb H)(k:Kp p H H')(i:p.PI H'):At p H0 own Hb H':=⟨A.k0,A.kp.trans k,A.penb,i,A.ow⟩
def At.base{H1:Hp}(A:At p H0 own Hb H)(B:At p H0 own H H1):At p H0 own Hb H1:=⟨A.k0,A.kp.trans B.kp,A.penb,B.pen,A.ow⟩
def JX(A:At p H0 own Hb H){k:Kd}{a:Addr}(o:okK p H0 own H k a):okK p H0 own Hb k a:=by
 cases k <;> first
  |exact o
  |exact A.free o
def kZ(A:At p H0 own Hb H){k:Kd}{v:V}{d:D}{H2:Hp}(r:Rp (okK p H0 own H k) H2 v d):Rp (okK p H0 own Hb k) H2 v d :=
 r.mono (λa o=>JX A o) (λ_ _ _ e=>e) λ_ _ e=>e
def At.new(A:At p H0 own Hb H){a:Addr}(h:H a=none)(o:HO):Kp p H (upd H a o)/\p.PI (upd H a o)/\okK p H0 own Hb .new a :=
 have s:Same H (upd H a o):=λb u q=>by rw[aj (ao q h)];exact q
 ⟨Kp.of s,p.mono H _ A.pen λb u _ q=>s b u q,A.free h⟩
end
structure RowsH(own:Addr->Option Nat)(r:Nat)(H:Hp)(st:Addr)(as:List Addr)(L:List (List D)):Prop where
 top:H st=some (.lst (as.map V.ref))
 nd:(st::as).Nodup
 ow:∀a∈st::as,own a=some r
 len:as.length=L.length
 row:∀(j:Nat) (a:Addr) (ds:List D),as[j]?=some a->L[j]?=some ds->∃vs,H a=some (.lst vs)/\Rps (λ_=>False) H vs ds
def RowsH.mono{own own':Addr->Option Nat}{r:Nat}{H H':Hp}{st:Addr}{as:List Addr}{L:List (List D)}(h:RowsH own r H st as L)(g:∀a o,own a=some r->H a=some o->own' a=some r/\H' a=some o)(t:∀a xs,H a=some (.tup xs)->H' a=some (.tup xs)):RowsH own' r H' st as L:=by
 have live:∀a∈st::as,∃o,H a=some o:=λa ha=>by
  rcases Ü.mp ha with rfl|ha
  ·exact⟨_,h.top⟩
  ·obtain⟨j,hj⟩:=ő ha
   have hl:=(Ç.mp hj).1
   obtain⟨vs,e,_⟩:=h.row j a _ hj (É (by rw[←h.len];exact hl))
   exact⟨_,e⟩
 refine⟨(g st _ (h.ow st Ñ) h.top).2,h.nd,λa ha=>?_,h.len,λj a ds e1 e2=>?_⟩
 ·obtain⟨o,e⟩:=live a ha
  exact(g a o (h.ow a ha) e).1
 ·obtain⟨vs,e,r'⟩:=h.row j a ds e1 e2
  exact⟨vs,(g a _ (h.ow a (Ê _ (Ð e1))) e).2,r'.mono (λ_ o=>o) (λ_ _ o=>o.elim) t⟩
theorem nq{ok:Addr->Prop}{H:Hp}:∀(as:List Addr) (L:List (List D)),as.length=L.length->(∀a∈as,ok a)->(∀(j:Nat) (a:Addr) (ds:List D),as[j]?=some a->L[j]?=some ds->∃vs,H a=some (.lst vs)/\Rps (λ_=>False) H vs ds)->Rps ok H (as.map V.ref) (L.map Ć)
 |[],[],_,_,_=>.nil
 |a::as,d::L,hl,h,r=>by
  obtain⟨vs,e,rs⟩:=r 0 a d rfl rfl
  exact .cons (.lst (h a Ñ) e (rs.mono (λ_ o=>o.elim) (λ_ _ o=>o.elim) λ_ _ e=>e)) (nq as L (by simpa using hl) (λb hb=>h b (Ê _ hb)) λj b ds e1 e2=>r (j+1) b ds e1 e2)
 |[],_::_,hl,_,_=>by cases hl
 |_::_,[],hl,_,_=>by cases hl
def RowsH.rp{own:Addr->Option Nat}{r:Nat}{H:Hp}{st:Addr}{as:List Addr}{L:List (List D)}(h:RowsH own r H st as L):Rp (λa=>own a=some r) H (.ref st) (.list (L.map Ć)) :=
 .lst (h.ow st Ñ) h.top (nq as L h.len (λa ha=>h.ow a (Ê _ ha)) h.row)
structure RowsT(own:Addr->Option Nat)(r:Nat)(H:Hp)(st:Addr)(as:List Addr)(L:List (List D)):Prop where
 top:H st=some (.tup (as.map V.ref))
 nd:as.Nodup
 ow:∀a∈as,own a=some r
 len:as.length=L.length
 row:∀(j:Nat) (a:Addr) (ds:List D),as[j]?=some a->L[j]?=some ds->∃vs,H a=some (.lst vs)/\Rps (λ_=>False) H vs ds
def RowsT.mono{own own':Addr->Option Nat}{r:Nat}{H H':Hp}{st:Addr}{as:List Addr}{L:List (List D)}(h:RowsT own r H st as L)(g:∀a o,own a=some r->H a=some o->own' a=some r/\H' a=some o)(t:∀a xs,H a=some (.tup xs)->H' a=some (.tup xs)):RowsT own' r H' st as L:=by
 refine⟨t st _ h.top,h.nd,λa ha=>?_,h.len,λj a ds e1 e2=>?_⟩
 ·obtain⟨j,hj⟩:=ő ha
  have hl:=(Ç.mp hj).1
  obtain⟨vs,e,_⟩:=h.row j a _ hj (É (by rw[←h.len];exact hl))
  exact(g a _ (h.ow a ha) e).1
 ·obtain⟨vs,e,r'⟩:=h.row j a ds e1 e2
  exact⟨vs,(g a _ (h.ow a (Ð e1)) e).2,r'.mono (λ_ o=>o) (λ_ _ o=>o.elim) t⟩
def RowsT.rp{own:Addr->Option Nat}{r:Nat}{H:Hp}{st:Addr}{as:List Addr}{L:List (List D)}(h:RowsT own r H st as L):Rp (λa=>own a=some r) H (.ref st) (.tuple (L.map Ć)) :=
 .tup h.top (nq as L h.len h.ow h.row)
def okS(p:Pn)(H0:Hp)(own:Addr->Option Nat)(b:Bool)(a:Addr):Prop:=(b=true->H0 a=none)/\¬p.fp a/\own a=none
def gD(p:Pn)(H0:Hp)(own:Addr->Option Nat)(σ:L2.St)(H:Hp)(i:Nat):Sl->Prop
 |.any=>True
 |.im d=>∃v,σ[i]?=some (some v)/\Rp (λ_=>False) H v d
 |.sh d=>∃v,σ[i]?=some (some v)/\Rp (λa=>¬p.fp a/\own a=none) H v d
 |.sn d=>∃v,σ[i]?=some (some v)/\Rp (λa=>H0 a=none/\¬p.fp a/\own a=none) H v d
 |.dw r d=>∃v,σ[i]?=some (some v)/\Rp (λa=>own a=some r) H v d
 |.pen C=>σ[i]?=some (some p.pv)/\C p
 |.rw r L=>∃st as,σ[i]?=some (some (.ref st))/\RowsH own r H st as L
 |.tw r L=>∃st as,σ[i]?=some (some (.ref st))/\RowsT own r H st as L
 |.scr v b=>σ[i]?=some (some v)/\(b=true->p=oY)
 |.sp r b ds=>∃l vs,σ[i]?=some (some (.ref l))/\own l=some r/\H l=some (.lst vs)/\Rps (okS p H0 own b) H vs ds
structure EnvD[Gr](p:Pn)(H0:Hp)(own:Addr->Option Nat)(σ:L2.St)(H:Hp)(ρ:List Sl):Prop where
 k0:∀b o,H0 b=some o->¬p.fp b->H b=some o
 pen:p.PI H
 ow:∀a r,own a=some r->H0 a=none/\¬p.fp a/\H a≠none
 slot:∀i s,ρ[i]?=some s->gD p H0 own σ H i s
 len:ρ.length=σ.length
 gr:Gr.G p H0
variable [Gr]
section
variable {p:Pn}{H0 H H':Hp}{own:Addr->Option Nat}{σ:L2.St}{ρ:List Sl}
def EnvD.at(E:EnvD p H0 own σ H ρ):At p H0 own H H:=⟨E.k0,Kp.refl,E.pen,E.pen,E.ow⟩
def EnvD.go(E:EnvD p H0 own σ H ρ)(k:Kp p H H')(i:p.PI H'):EnvD p H0 own σ H' ρ:=by
 have A:=E.at
 have tp:=iW A k
 refine⟨λb o e n=>k b o (E.k0 b o e n) n,i,λa r e=>?_,λj s e=>?_,E.len,E.gr⟩
 ·obtain⟨h1,h2,h3⟩:=E.ow a r e
  refine⟨h1,h2,λz=>?_⟩
  cases q:H a with
  |none=>exact h3 q
  |some o=>rw[k a o q h2] at z;cases z
 ·have q:=E.slot j s e
  cases s with
  |any=>trivial
  |im d=>exact let ⟨v,a,b⟩:=q;⟨v,a,b.mono (λ_ o=>o) (λ_ _ o=>o.elim) tp⟩
  |sh d=>exact let ⟨v,a,b⟩:=q;⟨v,a,b.mono (λ_ o=>o) (λc u o e=>k c u e o.1) tp⟩
  |sn d=>exact let ⟨v,a,b⟩:=q;⟨v,a,b.mono (λ_ o=>o) (λc u o e=>k c u e o.2.1) tp⟩
  |dw r d=>exact let ⟨v,a,b⟩:=q;⟨v,a,b.mono (λ_ o=>o) (λc u o e=>k c u e (E.ow c r o).2.1) tp⟩
  |pen C=>exact q
  |rw r L=>exact let ⟨st,as,a,b⟩:=q;⟨st,as,a,b.mono (λc u o e=>⟨o,k c u e (E.ow c r o).2.1⟩) tp⟩
  |tw r L=>exact let ⟨st,as,a,b⟩:=q;⟨st,as,a,b.mono (λc u o e=>⟨o,k c u e (E.ow c r o).2.1⟩) tp⟩
  |scr v b=>exact q
  |sp r b ds=>exact let ⟨l,vs,a,o,h,z⟩:=q;⟨l,vs,a,o,k l _ h (E.ow l r o).2.1,z.mono (λ_ o=>o) (λc u o e=>k c u e o.2.1) tp⟩
end
abbrev DK:=Kd->D->Prop
abbrev DE:=List Sl->DK->Prop
def aV(t:DE):TE:=λσ H Q=>∃p H0 own ρ P,EnvD p H0 own σ H ρ/\t ρ P/\∀k d v H',P k d->At p H0 own H H'->Rp (okK p H0 own H k) H' v d->Q v H'
abbrev PD(X:Cx)(e:Expr)(t:DE):Prop:=PE X e (aV t)
abbrev DA:=List Sl->(List (Kd×D)->Prop)->Prop
inductive RpK(p:Pn)(H0:Hp)(own:Addr->Option Nat)(Hb H:Hp):List V->List (Kd×D)->Prop
 |nil:RpK p H0 own Hb H [] []
 |cons {v:V}{kd:Kd×D}{vs:List V}{ks:List (Kd×D)} (h:Rp (okK p H0 own Hb kd.1) H v kd.2) (t:RpK p H0 own Hb H vs ks):RpK p H0 own Hb H (v::vs) (kd::ks)
def lZ(t:DA):TA:=λσ H Q=>∃p H0 own ρ P,EnvD p H0 own σ H ρ/\t ρ P/\∀ks vs H',P ks->At p H0 own H H'->RpK p H0 own H H' vs ks->Q vs H'
abbrev PDA(X:Cx)(es:List Expr)(t:DA):Prop:=PA X es (lZ t)
abbrev DT:=List Sl->(Bool->Prop)->Prop
def liftT(t:DT):TT:=λσ H Q=>∃p H0 own ρ P,EnvD p H0 own σ H ρ/\t ρ P/\∀b H',P b->At p H0 own H H'->Q b H'
abbrev PDT(X:Cx)(e:Expr)(t:DT):Prop:=PT X e (liftT t)
def PE.wk{X:Cx}{e:Expr}{t t':TE}(h:PE X e t)(w:∀σ H Q,t' σ H Q->t σ H Q):PE X e t':=λpins s σ H Q I q=>h pins s σ H Q I (w σ H Q q)
def PT.wk{X:Cx}{e:Expr}{t t':TT}(h:PT X e t)(w:∀σ H Q,t' σ H Q->t σ H Q):PT X e t':=λpins s σ H Q I q=>h pins s σ H Q I (w σ H Q q)
def PA.wk{X:Cx}{e:List Expr}{t t':TA}(h:PA X e t)(w:∀σ H Q,t' σ H Q->t σ H Q):PA X e t':=λpos pins s σ H Q I q=>h pos pins s σ H Q I (w σ H Q q)
section
variable {X:Cx}{pos:Pos}{a b:Expr}{ta tb:DE}
theorem RpK.go{p:Pn}{H0 Hb H H':Hp}{own:Addr->Option Nat}(A:At p H0 own Hb H)(k:Kp p H H'):∀{vs:List V}{ks:List (Kd×D)},RpK p H0 own Hb H vs ks->RpK p H0 own Hb H' vs ks
 |_,_,.nil=>.nil
 |_,_,.cons h t=>.cons (gM A k h) (RpK.go A k t)
theorem RpK.base{p:Pn}{H0 Hb H H':Hp}{own:Addr->Option Nat}(A:At p H0 own Hb H):∀{vs:List V}{ks:List (Kd×D)},RpK p H0 own H H' vs ks->RpK p H0 own Hb H' vs ks
 |_,_,.nil=>.nil
 |_,_,.cons h t=>.cons (kZ A h) (RpK.base A t)
def tV(i:Nat):DE:=λρ P=>match ρ[i]? with
 |some (.im d)=>P .imm d
 |some (.sh d)=>P .shr d
 |some (.sn d)=>P .snw d
 |some (.dw r d)=>P (.reg r) d
 |some (.rw r L)=>P (.reg r) (.list (L.map Ć))
 |some (.tw r L)=>P (.reg r) (.tuple (L.map Ć))
 |some (.sp r b ds)=>P (if b=true then .n0 else .wk) (.list ds)
 |_=>False
def RM{i:Nat}{x:Str}{ps:Pos}(h:PE X (.Name x ps) (j9 i)):PD X (.Name x ps) (tV i):=PE.wk h (by
 rintro σ H Q ⟨p,H0,own,ρ,P,E,t,q⟩
 unfold tV at t
 split at t
 ·rename_i d e;obtain⟨v,e1,r⟩:=E.slot i _ e;exact⟨v,e1,q _ _ _ _ t E.at r⟩
 ·rename_i d e;obtain⟨v,e1,r⟩:=E.slot i _ e;exact⟨v,e1,q _ _ _ _ t E.at r⟩
 ·rename_i d e;obtain⟨v,e1,r⟩:=E.slot i _ e;exact⟨v,e1,q _ _ _ _ t E.at r⟩
 ·rename_i d e;obtain⟨v,e1,r⟩:=E.slot i _ e;exact⟨v,e1,q _ _ _ _ t E.at r⟩
 ·rename_i r L e;obtain⟨st,as,e1,h⟩:=E.slot i _ e;exact⟨_,e1,q _ _ _ _ t E.at h.rp⟩
 ·rename_i r L e;obtain⟨st,as,e1,h⟩:=E.slot i _ e;exact⟨_,e1,q _ _ _ _ t E.at h.rp⟩
 ·rename_i r b ds e
  obtain⟨l,vs,e1,o,h,z⟩:=E.slot i _ e
  refine⟨_,e1,q _ _ _ _ t E.at ?_⟩
  cases b with
  |true=>exact .lst ⟨(E.ow l r o).1,(E.ow l r o).2.1⟩ h (z.mono (λc n=>⟨n.1 rfl,n.2.1⟩) (λ_ _ _ e=>e) λ_ _ e=>e)
  |false=>exact .lst (E.ow l r o).2.1 h (z.mono (λc n=>n.2.1) (λ_ _ _ e=>e) λ_ _ e=>e)
 ·exact t.elim)
def tK(d:D):DE:=λ_ P=>P .imm d
def lK{e:Expr}{v:V}{d:D}(h:PE X e (tC v))(r:∀H,Rp (λ_=>False) H v d):PD X e (tK d):=PE.wk h (by
 rintro σ H Q ⟨p,H0,own,ρ,P,E,t,q⟩
 exact q _ _ _ _ t E.at (r H))
def iH{i:Int}{j:Nat}:PD X (.Constant (.int i) j pos) (tK (.int i)):=lK JC λ_=>.int i
def Eu{i:Bool}{j:Nat}:PD X (.Constant (.bool i) j pos) (tK (.bool i)):=lK Uz λ_=>.bl i
def vO{j:Nat}:PD X (.Constant .none j pos) (tK .none):=lK RG λ_=>.non
def vL{x:Str}{j:Nat}:PD X (.Constant (.str x) j pos) (tK (.str x)):=lK Rz λ_=>.str x
abbrev G2:=Kd->D->Kd->D->DK->Prop
def t2(g:G2)(ta tb:DE):DE:=λρ P=>ta ρ λk1 d1=>tb ρ λk2 d2=>g k1 d1 k2 d2 P
def Ok2(g:G2)(r:R2):Prop:=∀p H0 own Hb H x y k1 d1 k2 d2 P Q,At p H0 own Hb H->Rp (okK p H0 own Hb k1) H x d1->Rp (okK p H0 own Hb k2) H y d2->g k1 d1 k2 d2 P ->
 (∀k d v H',P k d->Kp p H H'->p.PI H'->Rp (okK p H0 own Hb k) H' v d->Q v H')->r x y H Q
def Fg{g:G2}{r:R2}(ok:Ok2 g r):∀σ H Q,aV (t2 g ta tb) σ H Q->tOp r (aV ta) (aV tb) σ H Q:=by
 rintro σ H Q ⟨p,H0,own,ρ,P,E,t,q⟩
 refine⟨p,H0,own,ρ,_,E,t,λk1 d1 v1 H1 t1 A1 r1=>?_⟩
 have E1:=E.go A1.kp A1.pen
 refine⟨p,H0,own,ρ,_,E1,t1,λk2 d2 v2 H2 t2 A2 r2=>?_⟩
 have A:At p H0 own H H2:=A1.base A2
 exact ok p H0 own H H2 v1 v2 k1 d1 k2 d2 P Q A (gM A1 A2.kp r1) (kZ A1 r2) t2 λk d v H' h k3 i3 r3=>q k d v H' h (A.go k3 i3) r3
def uF{op:Operator}{r:R2}{g:G2}(ho:OpR X (binaryOp op) r)(ok:Ok2 g r)(ha:PD X a ta)(hb:PD X b tb):PD X (.BinOp a op b pos) (t2 g ta tb):=PE.wk (bG ho ha hb) (Fg ok)
def vV{op:CmpOp}{r:R2}{g:G2}(ho:OpR X (compareOp op) r)(ok:Ok2 g r)(ha:PD X a ta)(hb:PD X b tb)(hm:behindInMarks op b=false):PD X (.Compare a [op] [b] pos) (t2 g ta tb):=PE.wk (Ni ho ha hb hm) (Fg ok)
def cJ(t:DE):DT:=λρ P=>t ρ λ_ d=>match d with
 |.bool b=>P b
 |_=>False
def su{t:DE}:∀σ H Q,liftT (cJ t) σ H Q->(aV t) σ H (λx H'=>∃k,x=.bl k/\Q k H'):=by
 rintro σ H Q ⟨p,H0,own,ρ,P,E,t,q⟩
 refine⟨p,H0,own,ρ,_,E,t,λk d v H' h A r=>?_⟩
 cases d with
 |bool b=>exact⟨b,r.bl',q b H' h A⟩
 |_=>exact h.elim
def dg{op:CmpOp}{r:R2}{g:G2}(ho:OpR X (compareOp op) r)(ok:Ok2 g r)(ha:PD X a ta)(hb:PD X b tb)(hm:behindInMarks op b=false):PDT X (.Compare a [op] [b] pos) (cJ (t2 g ta tb)) :=
 PT.wk (lB ho ha hb hm) λσ H Q h=>Fg ok σ H _ (su σ H Q h)
def vD{e:Expr}{t:DE}(h:PD X e t)(he:∀whole,isTrue e X.env whole=(do let v ←whole;standAt e.pos;holding [v] (truthy v)):=by intro _;rfl):PDT X e (cJ t) :=
 PT.wk (Rh h he) λσ H Q q=>su σ H Q q
def Vw(t:DT):DT:=λρ P=>t ρ λb=>P (!b)
def vG{t:DT}(ha:PDT X a t):PDT X (.UnaryOp .Not a pos) (Vw t):=PT.wk (Ri ha) (by
 rintro σ H Q ⟨p,H0,own,ρ,P,E,t,q⟩
 exact⟨p,H0,own,ρ,_,E,t,λb H' h A=>q _ H' h A⟩)
abbrev PDW(X:Cx)(e:Expr)(t:DT):Prop:=PW X e (liftT t)
def PW.wk{X:Cx}{e:Expr}{t t':TT}(h:PW X e t)(w:∀σ H Q,t' σ H Q->t σ H Q):PW X e t':=λwh pins s σ H Q I q=>h wh pins s σ H Q I (w σ H Q q)
def O7(t u:DT):DT:=λρ P=>t ρ λb=>if b=true then u ρ P else P false
def dOr(t u:DT):DT:=λρ P=>t ρ λb=>if b=true then P true else u ρ P
section
variable {rest:List Expr}{t u:DT}
def qZ(ha:PDT X a t):PDW X (.BoolOp .And [a] pos) t:=Ep ha
def vB(ha:PDT X a t):PDW X (.BoolOp .Or [a] pos) t:=Rg ha
def J7:∀σ H Q,liftT (O7 t u) σ H Q->Uj (liftT t) (liftT u) σ H Q:=by
 rintro σ H Q ⟨p,H0,own,ρ,P,E,t,q⟩
 refine⟨p,H0,own,ρ,_,E,t,λb H' h A=>?_⟩
 cases b with
 |true=>exact aA ⟨p,H0,own,ρ,P,E.go A.kp A.pen,by simpa using h,λc H2 h2 A2=>q c H2 h2 (A.base A2)⟩
 |false=>exact aC (q false H' (by simpa using h) A)
def N6:∀σ H Q,liftT (dOr t u) σ H Q->tOr (liftT t) (liftT u) σ H Q:=by
 rintro σ H Q ⟨p,H0,own,ρ,P,E,t,q⟩
 refine⟨p,H0,own,ρ,_,E,t,λb H' h A=>?_⟩
 cases b with
 |true=>exact aA (q true H' (by simpa using h) A)
 |false=>exact aC ⟨p,H0,own,ρ,P,E.go A.kp A.pen,by simpa using h,λc H2 h2 A2=>q c H2 h2 (A.base A2)⟩
def vC(ha:PDT X a t)(hb:PDW X (.BoolOp .And (b::rest) pos) u):PDW X (.BoolOp .And (a::b::rest) pos) (O7 t u):=PW.wk (Jq ha hb) J7
def Bl(ha:PDT X a t)(hb:PDW X (.BoolOp .Or (b::rest) pos) u):PDW X (.BoolOp .Or (a::b::rest) pos) (dOr t u):=PW.wk (Uu ha hb) N6
def PDW.pt{e:Expr}{t:DT}(h:PDW X e t):PDT X e t:=PW.pt h
end
end
variable [Gr]
section
variable {X:Cx}{pos:Pos}{a b e:Expr}{es:List Expr}{ta tb te:DE}{t:DA}
def gC:DA:=λ_ P=>P []
def bO(te:DE)(t:DA):DA:=λρ P=>te ρ λk d=>t ρ λks=>P ((k,d)::ks)
def jx:PDA X [] gC:=PA.wk dZ (by
 rintro σ H Q ⟨p,H0,own,ρ,P,E,t,q⟩
 exact q [] [] H t E.at .nil)
def dD(ha:PD X e te)(hr:PDA X es t)(hs:zS X e es:=by rfl):PDA X (e::es) (bO te t):=PA.wk (bJ ha hr hs) (by
 rintro σ H Q ⟨p,H0,own,ρ,P,E,t,q⟩
 refine⟨p,H0,own,ρ,_,E,t,λk d v H1 h A r=>?_⟩
 refine⟨p,H0,own,ρ,_,E.go A.kp A.pen,h,λks vs H2 h2 A2 r2=>?_⟩
 exact q _ _ H2 h2 (A.base A2) (.cons (gM A A2.kp r) (RpK.base A r2)))
def joins:List (Kd×D)->Kd
 |[]=>.imm
 |kd::ks=>kd.1.join (joins ks)
theorem RpK.all{p:Pn}{H0 Hb H H2:Hp}{own:Addr->Option Nat}(A:At p H0 own Hb H):∀{vs:List V}{ks:List (Kd×D)}{k:Kd},(joins ks).le k=true->RpK p H0 own Hb H2 vs ks->Rps (okK p H0 own Hb (joins ks)) H2 vs (ks.map (·.2))
 |_,_,_,_,.nil=>.nil
 |_,kd::ks,k,e,.cons h t=>by
  have j:=dh kd.1 (joins ks)
  exact .cons (gK A j.1 h) ((RpK.all A (k:=joins ks) (by cases joins ks <;> simp[Kd.le]) t).mono (λa o=>cC A j.2 o) (λ_ _ _ e=>e) λ_ _ e=>e)
def Kd.le_refl(k:Kd):k.le k=true:=by cases k <;> simp[Kd.le]
theorem RpK.length{p:Pn}{H0 Hb H2:Hp}{own:Addr->Option Nat}:∀{vs:List V}{ks:List (Kd×D)},RpK p H0 own Hb H2 vs ks->vs.length=ks.length
 |_,_,.nil=>rfl
 |_,_,.cons _ t=>by rw[ï,ï,RpK.length t]
def PB(t:DA):DE:=λρ P=>t ρ λks=>ks.length<=1000/\P ((joins ks).join .new) (.list (ks.map (·.2)))
def qz(t:DA):DE:=λρ P=>t ρ λks=>ks.length<=1000/\P (norm (joins ks) (.tuple (ks.map (·.2)))) (.tuple (ks.map (·.2)))
def p8(h:PDA X es t):PD X (.List es pos) (PB t):=PE.wk (Bh h) (by
 rintro σ H Q ⟨p,H0,own,ρ,P,E,t,q⟩
 refine⟨p,H0,own,ρ,_,E,t,λks vs H1 h A r=>?_⟩
 have h24:=ą
 have hl:=r.length
 refine⟨by have:=h.1;omega,λl hl=>?_⟩
 obtain⟨k2,i2,nw⟩:=A.new hl (.lst vs)
 have j:=dh (joins ks) .new
 refine q _ _ _ _ h.2 (A.go k2 i2) (.lst (cC A j.2 nw) aq ?_)
 exact(bR A k2 (RpK.all A (Kd.le_refl _) r)).mono (λa o=>cC A j.1 o) (λ_ _ _ e=>e) λ_ _ e=>e)
def lF{x1}(h:PDA X es t):PD X (.Tuple es x1 pos) (qz t):=PE.wk (Ry h) (by
 rintro σ H Q ⟨p,H0,own,ρ,P,E,t,q⟩
 refine⟨p,H0,own,ρ,_,E,t,λks vs H1 h A r=>?_⟩
 have h24:=ą
 have hl:=r.length
 refine⟨by have:=h.1;omega,λl hl=>?_⟩
 obtain⟨k2,i2,nw⟩:=A.new hl (.tup vs)
 exact q _ _ _ _ h.2 (A.go k2 i2) (bx (.tup aq (bR A k2 (RpK.all A (Kd.le_refl _) r)))))
abbrev GC:=List (Kd×D)->DK->Prop
def tCl(g:GC)(t:DA):DE:=λρ P=>t ρ λks=>g ks P
def OkC(g:GC)(r:List V->Hp->VK->Prop):Prop:=∀p H0 own Hb H vs ks P Q,At p H0 own Hb H->RpK p H0 own Hb H vs ks->g ks P ->
 (∀k d v H',P k d->Kp p H H'->p.PI H'->Rp (okK p H0 own Hb k) H' v d->Q v H')->r vs H Q
def Ql{g:GC}{r:List V->Hp->VK->Prop}(ok:OkC g r):∀σ H Q,aV (tCl g t) σ H Q->tCB r (lZ t) σ H Q:=by
 rintro σ H Q ⟨p,H0,own,ρ,P,E,t,q⟩
 refine⟨p,H0,own,ρ,_,E,t,λks vs H1 h A r=>?_⟩
 exact ok p H0 own H H1 vs ks P Q A r h λk d v H' h2 k2 i2 r2=>q k d v H' h2 (A.go k2 i2) r2
def bT{r:List V->Hp->VK->Prop}{id:String}{x:Str}{ps:Pos}{g:GC}(hc:aP X (.builtin id) r)(ok:OkC g r)(hg:Gl X x)(hm:X.mg x=none)(hv:bootBuiltins x=some (.builtin id))(ha:PDA X (e::es) t)(hn:x≠"__name__":=by decide)(hdb:zB x:=by decide)(he:zS X e es:=by rfl)(hpl:zP X pos es:=by rfl):PD X (.Call (.Name x ps) (e::es) [] pos) (tCl g t):=PE.wk (cO hc hg hm hv ha hn hdb he hpl) (Ql ok)
def iI{r:List V->Hp->VK->Prop}{id:String}{x:Str}{ps:Pos}{g:GC}(hc:aP X (.type id) r)(ok:OkC g r)(hg:Gl X x)(hm:X.mg x=none)(hv:bootBuiltins x=some (.type id))(ha:PDA X (e::es) t)(hn:x≠"__name__":=by decide)(hdb:zB x:=by decide)(he:zS X e es:=by rfl)(hpl:zP X pos es:=by rfl):PD X (.Call (.Name x ps) (e::es) [] pos) (tCl g t):=PE.wk (uE hc hg hm hv ha hn hdb he hpl) (Ql ok)
def spD(t:List D->(D->Prop)->Prop):Sp:=λvs H Q _=>∃ds P,Rps (λ_=>True) H vs ds/\t ds P/\∀d v H',P d->Same H H'->Rp (λa=>H a=none) H' v d->Q v H'
def spP(C:Pn->Prop)(t:List D->(D->Prop)->Prop):Sp:=λvs H Q _=>∃p vs' ds P,C p/\vs=p.pv::vs'/\p.PI H/\Rps (λa=>¬p.fp a) H vs' ds/\t ds P/\∀d v H',P d->Kp p H H'->p.PI H'->Rp (λa=>H a=none) H' v d->Q v H'
def tFn(f:List D->(D->Prop)->Prop)(t:DA):DE:=λρ P=>t ρ λks=>f (ks.map (·.2)) λd=>P (norm .new d) d
theorem RpK.rps{p:Pn}{H0 Hb H H2:Hp}{own:Addr->Option Nat}(A:At p H0 own Hb H):∀{vs:List V}{ks:List (Kd×D)},RpK p H0 own Hb H2 vs ks->Rps (λa=>¬p.fp a) H2 vs (ks.map (·.2))
 |_,_,.nil=>.nil
 |_,_,.cons h t=>.cons (h.mono (λa o=>fY A o) (λ_ _ _ e=>e) λ_ _ e=>e) (RpK.rps A t)
def N7{f:List D->(D->Prop)->Prop}:∀σ H Q,aV (tFn f t) σ H Q->Dz (spD f) [] E0 (lZ t) σ H Q:=by
 rintro σ H Q ⟨p,H0,own,ρ,P,E,t,q⟩
 refine⟨p,H0,own,ρ,_,E,t,λks vs H1 h A r=>?_⟩
 show spD f (vs++[]) H1 Q E0
 rw[Ŗ]
 refine⟨ks.map (·.2),_,(RpK.rps A r).mono (λ_ _=>trivial) (λ_ _ _ e=>e) λ_ _ e=>e,h,λd v H' h2 s r2=>?_⟩
 have k2:Kp p H1 H':=Kp.of s
 refine q _ d v H' h2 (A.go k2 (p.mono H1 H' A.pen λb o _ e=>s b o e)) (bx ?_)
 exact r2.mono (λa o=>A.free o) (λ_ _ _ e=>e) λ_ _ e=>e
def Gm(C:Pn->Prop)(f:List D->(D->Prop)->Prop)(i:Nat)(t:DA):DE:=λρ P=>ρ[i]?=some (.pen C)/\tFn f t ρ P
def J6{C:Pn->Prop}{f:List D->(D->Prop)->Prop}{i:Nat}:∀σ H Q,aV (Gm C f i t) σ H Q->Dz (spP C f) [] E0 (xU (j9 i) (lZ t)) σ H Q:=by
 rintro σ H Q ⟨p,H0,own,ρ,P,E,⟨hp,t⟩,q⟩
 obtain⟨hs,c⟩:=E.slot i _ hp
 refine⟨p.pv,hs,p,H0,own,ρ,_,E,t,λks vs H1 h A r=>?_⟩
 show spP C f ((p.pv::vs)++[]) H1 Q E0
 rw[Ŗ]
 refine⟨p,vs,ks.map (·.2),_,c,rfl,A.pen,RpK.rps A r,h,λd v H' h2 k2 i2 r2=>?_⟩
 exact q _ d v H' h2 (A.go k2 i2) (bx (r2.mono (λa o=>A.free o) (λ_ _ _ e=>e) λ_ _ e=>e))
def gI(C:Int->Int->Prop)(f:Int->Int->D):G2:=λ_ d1 _ d2 P=>match d1,d2 with
 |.int i,.int j=>C i j/\P .imm (f i j)
 |_,_=>False
def gI0(f:Int->Int->D):G2:=λ_ d1 _ d2 P=>match d1,d2 with
 |.int i,.int j=>P .imm (f i j)
 |_,_=>False
def okI{C:Int->Int->Prop}{f:Int->Int->D}{g:Int->Int->V}(h:∀i j H,Rp (λ_=>False) H (g i j) (f i j)):Ok2 (gI C f) (rI C g):=by
 intro p H0 own Hb H x y k1 d1 k2 d2 P Q A r1 r2 t q
 unfold gI at t
 split at t
 ·rename_i i j
  exact⟨i,j,r1.int',r2.int',t.1,q _ _ _ _ t.2 Kp.refl A.pen (h i j H)⟩
 ·exact t.elim
def GQ{f:Int->Int->D}{g:Int->Int->V}(h:∀i j H,Rp (λ_=>False) H (g i j) (f i j)):Ok2 (gI0 f) (rI0 g):=by
 intro p H0 own Hb H x y k1 d1 k2 d2 P Q A r1 r2 t q
 unfold gI0 at t
 split at t
 ·rename_i i j
  exact⟨i,j,r1.int',r2.int',q _ _ _ _ t Kp.refl A.pen (h i j H)⟩
 ·exact t.elim
def dI(ha:PD X a ta)(hb:PD X b tb):PD X (.BinOp a .Sub b pos) (t2 (gI0 λi j=>.int (i - j)) ta tb):=uF RP (GQ λi j _=>.int _) ha hb
def vU(ha:PD X a ta)(hb:PD X b tb):PD X (.BinOp a .FloorDiv b pos) (t2 (gI TJ λi j=>.int (i / j)) ta tb):=uF qd (okI λi j _=>.int _) ha hb
def rB(ha:PD X a ta)(hb:PD X b tb):PD X (.BinOp a .Mod b pos) (t2 (gI (λ_ j=>0<j) λi j=>.int (i % j)) ta tb):=uF fX (okI λi j _=>.int _) ha hb
def Et(ha:PD X a ta)(hb:PD X b tb):PD X (.Compare a [.Gt] [b] pos) (t2 (gI0 λi j=>.bool (decide (j<i))) ta tb):=vV Ew (GQ λi j _=>.bl _) ha hb (cP _)
def jV(ha:PD X a ta)(hb:PD X b tb):PDT X (.Compare a [.Lt] [b] pos) (cJ (t2 (gI0 λi j=>.bool (decide (i<j))) ta tb)):=dg yC (GQ λi j _=>.bl _) ha hb (cP _)
def Bm(ha:PD X a ta)(hb:PD X b tb):PDT X (.Compare a [.Gt] [b] pos) (cJ (t2 (gI0 λi j=>.bool (decide (j<i))) ta tb)):=dg Ew (GQ λi j _=>.bl _) ha hb (cP _)
def Bo(ha:PD X a ta)(hb:PD X b tb):PDT X (.Compare a [.GtE] [b] pos) (cJ (t2 (gI0 λi j=>.bool (decide (j<=i))) ta tb)):=dg Qd (GQ λi j _=>.bl _) ha hb (cP _)
def scD:D->D->Option Bool
 |.int i,.int j=>some (decide (i=j))
 |.bool i,.bool j=>some (decide (i=j))
 |.str i,.str j=>some (decide (i=j))
 |_,_=>none
def gEq(neg:Bool):G2:=λ_ d1 _ d2 P=>match scD d1 d2 with
 |some b=>P .imm (.bool (if neg then !b else b))
 |none=>False
def Wf:Ok2 (gEq false) rEq:=by
 intro p H0 own Hb H x y k1 d1 k2 d2 P Q A r1 r2 t q
 unfold gEq scD at t
 split at t
 ·rename_i b e
  split at e <;> first|cases e|skip
  ·rw[r1.int',r2.int']
   refine⟨rfl,?_⟩
   have e2:∀i j:Int,decide (V.int i=V.int j)=decide (i=j):=λi j=>by simp
   rw[e2];exact q _ _ _ _ t Kp.refl A.pen (.bl _)
  ·rw[r1.bl',r2.bl']
   refine⟨rfl,?_⟩
   have e2:∀i j:Bool,decide (V.bl i=V.bl j)=decide (i=j):=λi j=>by simp
   rw[e2];exact q _ _ _ _ t Kp.refl A.pen (.bl _)
  ·rw[r1.str',r2.str']
   refine⟨rfl,?_⟩
   have e2:∀i j:Str,decide (V.str i=V.str j)=decide (i=j):=λi j=>by simp
   rw[e2];exact q _ _ _ _ t Kp.refl A.pen (.bl _)
 ·exact t.elim
def Wd:Ok2 (gEq true) rNe:=by
 intro p H0 own Hb H x y k1 d1 k2 d2 P Q A r1 r2 t q
 unfold gEq scD at t
 split at t
 ·rename_i b e
  split at e <;> first|cases e|skip
  ·rw[r1.int',r2.int']
   refine⟨rfl,?_⟩
   have e2:∀i j:Int,decide (V.int i=V.int j)=decide (i=j):=λi j=>by simp
   rw[e2];exact q _ _ _ _ t Kp.refl A.pen (.bl _)
  ·rw[r1.bl',r2.bl']
   refine⟨rfl,?_⟩
   have e2:∀i j:Bool,decide (V.bl i=V.bl j)=decide (i=j):=λi j=>by simp
   rw[e2];exact q _ _ _ _ t Kp.refl A.pen (.bl _)
  ·rw[r1.str',r2.str']
   refine⟨rfl,?_⟩
   have e2:∀i j:Str,decide (V.str i=V.str j)=decide (i=j):=λi j=>by simp
   rw[e2];exact q _ _ _ _ t Kp.refl A.pen (.bl _)
 ·exact t.elim
def gIx:G2:=λk1 d1 _ d2 P=>match d1,d2 with
 |.list ds,.int i=>∃d,atI ds i=some d/\P (norm k1 d) d
 |.tuple ds,.int i=>∃d,atI ds i=some d/\P (norm k1 d) d
 |_,_=>False
def Rps.atI{ok:Addr->Prop}{H:Hp}{vs:List V}{ds:List D}{i:Int}{d:D}(r:Rps ok H vs ds)(h:L2.atI ds i=some d):∃v,L2.atI vs i=some v/\Rp ok H v d:=by
 unfold L2.atI at h ⊢
 rw[r.length]
 cases e:ixN ds.length i with
 |none=>rw[e] at h;cases h
 |some j =>
  rw[e] at h
  obtain⟨v,h1,h2⟩:=r.getD (i:=j) (d:=d) h
  exact⟨v,h1,h2⟩
def cj{p:Pn}{H0 Hb H:Hp}{own:Addr->Option Nat}{vs:List V}{kd:Kd×D}(r:RpK p H0 own Hb H vs [kd]):∃v,vs=[v]/\Rp (okK p H0 own Hb kd.1) H v kd.2:=by
 cases r with
 |cons h t=>cases t;exact⟨_,rfl,h⟩
def Jh{p:Pn}{H0 Hb H:Hp}{own:Addr->Option Nat}{vs:List V}{kd ke:Kd×D}(r:RpK p H0 own Hb H vs [kd,ke]):∃v w,vs=[v,w]/\Rp (okK p H0 own Hb kd.1) H v kd.2/\Rp (okK p H0 own Hb ke.1) H w ke.2:=by
 cases r with
 |cons h t =>
  cases t with
  |cons h2 t2=>cases t2;exact⟨_,_,rfl,h,h2⟩
def Ot:GC:=λks P=>match ks with
 |[(_,.list ds)]=>P .imm (.int ds.length)
 |[(_,.tuple ds)]=>P .imm (.int ds.length)
 |_=>False
def U0{K:Ý}:OkC Ot (λxs H Q=>∃p ys,xs=[.ref p]/\(SqL K H p ys\/SqT K H p ys)/\Q (.int ys.length) H):=by
 intro p H0 own Hb H vs ks P Q A r t q
 unfold Ot at t
 split at t
 ·obtain⟨v,rfl,r'⟩:=cj r
  obtain⟨c,vs,rfl,o,hc,rs⟩:=r'.aX
  exact⟨c,vs,rfl,.inl (SqL.of hc),by rw[rs.length];exact q _ _ _ _ t Kp.refl A.pen (.int _)⟩
 ·obtain⟨v,rfl,r'⟩:=cj r
  obtain⟨c,vs,rfl,hc,rs⟩:=r'.dG
  exact⟨c,vs,rfl,.inr (SqT.of hc),by rw[rs.length];exact q _ _ _ _ t Kp.refl A.pen (.int _)⟩
 ·exact t.elim
def Bq{ps:Pos}(hm:X.mg "len"=none)(ha:PDA X [a] t)(hg:Gl X "len":=by rfl)(he:zS X a []:=by rfl)(hpl:zP X pos []:=by rfl):PD X (.Call (.Name "len" ps) [a] [] pos) (tCl Ot t) :=
 bT dU U0 hg hm PySem.boot_len ha (by decide) (by decide) he hpl
def S6:GC:=λks P=>match ks with
 |[(_,.int i)]=>P .imm (.int i)
 |[(_,.bool b)]=>P .imm (.int (if b then 1 else 0))
 |_=>False
def lJ{ps:Pos}(hm:X.mg "int"=none)(hv:bootBuiltins "int"=some (.type "int"))(ha:PDA X [a] t)(hg:Gl X "int":=by rfl)(he:zS X a []:=by rfl)(hpl:zP X pos []:=by rfl):PD X (.Call (.Name "int" ps) [a] [] pos) (tCl S6 t) :=
 iI HB (by
  intro p H0 own Hb H vs ks P Q A r t q
  unfold S6 at t
  split at t
  ·rename_i k i
   obtain⟨v,rfl,r'⟩:=cj r
   rw[r'.int']
   exact .inl ⟨i,rfl,q _ _ _ _ t Kp.refl A.pen (.int _)⟩
  ·rename_i k i
   obtain⟨v,rfl,r'⟩:=cj r
   rw[r'.bl']
   exact .inr ⟨i,rfl,q _ _ _ _ t Kp.refl A.pen (.int _)⟩
  ·exact t.elim) hg hm hv ha (by decide) (by decide) he hpl
end
variable [Gr]
section
variable {ok ok':Addr->Prop}{H H':Hp}
mutual
theorem Rp.bQ(f:∀a o,ok a->H a=some o->ok' a/\H' a=some o)(t:∀a xs,H a=some (.tup xs)->H' a=some (.tup xs)):∀{v:V}{d:D},Rp ok H v d->Rp ok' H' v d
 |_,_,.non=>.non
 |_,_,.bl b=>.bl b
 |_,_,.int i=>.int i
 |_,_,.str x=>.str x
 |_,_,.lst o h r=>.lst (f _ _ o h).1 (f _ _ o h).2 (Rps.bQ f t r)
 |_,_,.tup h r=>.tup (t _ _ h) (Rps.bQ f t r)
 |_,_,.dct o h r=>.dct (f _ _ o h).1 (f _ _ o h).2 (Rkv.bQ f t r)
theorem Rps.bQ(f:∀a o,ok a->H a=some o->ok' a/\H' a=some o)(t:∀a xs,H a=some (.tup xs)->H' a=some (.tup xs)):∀{v:List V}{d:List D},Rps ok H v d->Rps ok' H' v d
 |_,_,.nil=>.nil
 |_,_,.cons h r=>.cons (Rp.bQ f t h) (Rps.bQ f t r)
theorem Rkv.bQ(f:∀a o,ok a->H a=some o->ok' a/\H' a=some o)(t:∀a xs,H a=some (.tup xs)->H' a=some (.tup xs)):∀{v:List (Key×V)}{d:List (D×D)},Rkv ok H v d->Rkv ok' H' v d
 |_,_,.nil=>.nil
 |_,_,.cons h r=>.cons (Rp.bQ f t h) (Rkv.bQ f t r)
end
end
structure DEnds where
 nx:List Sl->Prop
 rt:D->Prop
 bk:List Sl->Prop:=λ_=>False
 ct:List Sl->Prop:=λ_=>False
abbrev DS:=DEnds->List Sl->Prop
structure FrS(p:Pn)(own:Addr->Option Nat)(H:Hp)(own':Addr->Option Nat)(H':Hp):Prop where
 keep:∀b o,H b=some o->¬p.fp b->own b=none->H' b=some o/\own' b=none
 tup:∀a xs,H a=some (.tup xs)->H' a=some (.tup xs)
def FrS.trans{p:Pn}{o1 o2 o3:Addr->Option Nat}{H1 H2 H3:Hp}(a:FrS p o1 H1 o2 H2)(b:FrS p o2 H2 o3 H3):FrS p o1 H1 o3 H3:=⟨λc o h n e=>let ⟨x,y⟩:=a.keep c o h n e;b.keep c o x n y,λc xs e=>b.tup c xs (a.tup c xs e)⟩
def FrS.refl{p:Pn}{o1:Addr->Option Nat}{H1:Hp}:FrS p o1 H1 o1 H1:=⟨λ_ _ h _ e=>⟨h,e⟩,λ_ _ e=>e⟩
def At.tups{p:Pn}{H0 H H':Hp}{own:Addr->Option Nat}(A:At p H0 own H H'):∀a xs,H a=some (.tup xs)->H' a=some (.tup xs):=iW (⟨A.k0,Kp.refl,A.penb,A.penb,A.ow⟩:At p H0 own H H) A.kp
structure RPost(p:Pn)(H0 H':Hp)(v:V)(d:D):Prop where
 k0:∀b o,H0 b=some o->¬p.fp b->H' b=some o
 pen:p.PI H'
 rp:Rp (λa=>H0 a=none/\¬p.fp a) H' v d
structure Wish(p:Pn)(H0:Hp)(own:Addr->Option Nat)(H:Hp)(P:DEnds)(Q:Ends):Prop where
 nx:∀own' σ' H' ρ',EnvD p H0 own' σ' H' ρ'->FrS p own H own' H'->P.nx ρ'->Q.nx σ' H'
 rt:∀d v H',P.rt d->RPost p H0 H' v d->Q.rt v H'
 bk:∀own' σ' H' ρ',EnvD p H0 own' σ' H' ρ'->FrS p own H own' H'->P.bk ρ'->Q.bk σ' H'
 ct:∀own' σ' H' ρ',EnvD p H0 own' σ' H' ρ'->FrS p own H own' H'->P.ct ρ'->Q.ct σ' H'
def Wish.go{p:Pn}{H0 H H':Hp}{own own':Addr->Option Nat}{P:DEnds}{Q:Ends}(w:Wish p H0 own H P Q)(f:FrS p own H own' H'):Wish p H0 own' H' P Q :=
 ⟨λo s h r e g n=>w.nx o s h r e (f.trans g) n,w.rt,λo s h r e g n=>w.bk o s h r e (f.trans g) n,λo s h r e g n=>w.ct o s h r e (f.trans g) n⟩
def lY(t:DS):TS:=λQ σ H=>∃p H0 own ρ P,EnvD p H0 own σ H ρ/\t P ρ/\Wish p H0 own H P Q
abbrev PDS(X:Cx)(st:Stmt)(t:DS):Prop:=PS X st (lY t)
abbrev j6(X:Cx)(st:List Stmt)(t:DS):Prop:=PSs X st (lY t)
def PSs.wk'{X:Cx}{ss:List Stmt}{t t':TS}(h:PSs X ss t)(w:∀D σ H,t' D σ H->t D σ H):PSs X ss t':=λpins s σ H D I q=>h pins s σ H D I (w D σ H q)
def PS.wk'{X:Cx}{ss:Stmt}{t t':TS}(h:PS X ss t)(w:∀D σ H,t' D σ H->t D σ H):PS X ss t':=λpins s σ H D I q=>h pins s σ H D I (w D σ H q)
def At.frs{p:Pn}{H0 H H':Hp}{own:Addr->Option Nat}(A:At p H0 own H H'):FrS p own H own H':=⟨λb o h n e=>⟨A.kp b o h n,e⟩,A.tups⟩
section
variable {X:Cx}{pos:Pos}{st:Stmt}{rest:List Stmt}{e:Expr}{te:DE}{t u:DS}
def Gd:DS:=λP ρ=>P.nx ρ
def wR(t u:DS):DS:=λP ρ=>t { P with nx:=u P } ρ
def CK:j6 X [] Gd:=PSs.wk' lC (by
 rintro Q σ H ⟨p,H0,own,ρ,P,E,t,w⟩
 exact w.nx own σ H ρ E FrS.refl t)
def wM(h1:PDS X st t)(h2:j6 X rest u):j6 X (st::rest) (wR t u):=PSs.wk' (aN h1 h2) (by
 rintro Q σ H ⟨p,H0,own,ρ,P,E,t,w⟩
 exact⟨p,H0,own,ρ,_,E,t,⟨λo s h r e g n=>⟨p,H0,o,r,P,e,n,w.go g⟩,w.rt,w.bk,w.ct⟩⟩)
def oh(h1:PDS X st t):j6 X [st] t:=jt h1
def mK:PDS X st (λ_ _=>False):=PS.wk' Ju (by
 rintro Q σ H ⟨p,H0,own,ρ,P,E,t,w⟩
 exact t)
def Dd(te:DE):DS:=λP ρ=>te ρ λk d=>k.le .n0=true/\P.rt d
def n8(he:PD X e te):PDS X (.Return (some e) pos) (Dd te):=PS.wk' (qW he) (by
 rintro Q σ H ⟨p,H0,own,ρ,P,E,t,w⟩
 refine⟨p,H0,own,ρ,_,E,t,λk d v H' h A r=>w.rt d v H' h.2 ⟨λb o e n=>A.kp b o (A.k0 b o e n) n,A.pen,?_⟩⟩
 exact gK A h.1 r)
def dIf(c:DT)(t u:DS):DS:=λP ρ=>c ρ λb=>if b=true then t P ρ else u P ρ
theorem Lb{c:Expr}{a b:List Stmt}{tc:DT}(hc:PDT X c tc)(ha:j6 X a t)(hb:j6 X b u):PDS X (.If c a b pos) (dIf tc t u):=PS.wk' (yt hc ha hb) (by
 rintro Q σ H ⟨p,H0,own,ρ,P,E,t,w⟩
 refine⟨p,H0,own,ρ,_,E,t,λb H' h A=>?_⟩
 cases b with
 |true=>exact aA ⟨p,H0,own,ρ,P,E.go A.kp A.pen,by simpa using h,w.go A.frs⟩
 |false=>exact aC ⟨p,H0,own,ρ,P,E.go A.kp A.pen,by simpa using h,w.go A.frs⟩)
def QD(te:DE):DS:=λP ρ=>te ρ λ_ _=>P.nx ρ
def dB(he:PD X e te)(hs:swapsWith e none pos.line X.env=pure false:=by rfl):PDS X (.Expr e pos) (QD te):=PS.wk' (ju he hs) (by
 rintro Q σ H ⟨p,H0,own,ρ,P,E,t,w⟩
 exact⟨p,H0,own,ρ,_,E,t,λk d v H' h A r=>w.nx own σ H' ρ (E.go A.kp A.pen) A.frs h⟩)
def Sl.region:Sl->Option Nat
 |.dw r _=>some r
 |.rw r _=>some r
 |.tw r _=>some r
 |.sp r _ _=>some r
 |_=>none
def sS(r:Nat)(ρ:List Sl)(i:Nat):Bool:=(ρ.set i .any).all λs=>s.region != some r
def stK(rg:Option Nat)(ρ:List Sl)(i:Nat)(k:Kd)(d:D):Option Sl:=match k with
 |.imm=>some (.im d)
 |.new=>match rg with
  |some r=>if sS r ρ i=true then some (.dw r d) else none
  |none=>some (.sn d)
 |.reg r=>some (.dw r d)
 |.snw=>some (.sn d)
 |.shr=>some (.sh d)
 |_=>none
def Dc(i:Nat)(rg:Option Nat)(te:DE):DS:=λP ρ=>te ρ λk d=>match stK rg ρ i (norm k d) d with
 |some s=>P.nx (ρ.set i s)
 |none=>False
section
variable {p:Pn}{H0 H H1:Hp}{own:Addr->Option Nat}{σ:L2.St}{ρ:List Sl}{i:Nat}
def EnvD.set{v:V}{s:Sl}(E:EnvD p H0 own σ H ρ)(hs:i<σ.length->gD p H0 own (σ.set i (some v)) H i s):EnvD p H0 own (σ.set i (some v)) H (ρ.set i s):=by
 refine⟨E.k0,E.pen,E.ow,λj s' e=>?_,by simpa using E.len,E.gr⟩
 by_cases hj:j=i
 ·subst hj
  have hl:j<ρ.length:=by
   have:=(Ç.mp e).1
   simpa using this
  rw[Ē hl] at e
  cases e
  exact hs (by rw[←E.len];exact hl)
 ·rw[ľ (ġ hj)] at e
  have q:=E.slot j s' e
  have eq:(σ.set i (some v))[j]?=σ[j]?:=ľ (ġ hj)
  cases s' <;> simp only[gD,eq] at q ⊢ <;> exact q
def cD(r:Nat)(H H1:Hp)(own:Addr->Option Nat):Addr->Option Nat:=λa=>match H a,H1 a with
 |none,some _=>some r
 |_,_=>own a
def bF{r:Nat}{a:Addr}{o:HO}(h:H a=some o):cD r H H1 own a=own a:=by unfold cD;rw[h]
def jG{r:Nat}{a:Addr}{o:HO}(h:H a=none)(h1:H1 a=some o):cD r H H1 own a=some r:=by unfold cD;rw[h,h1]
def EnvD.adopt(r:Nat)(E:EnvD p H0 own σ H ρ)(A:At p H0 own H H1):EnvD p H0 (cD r H H1 own) σ H1 ρ:=by
 have tp:=iW E.at A.kp
 refine⟨λb o e n=>A.kp b o (E.k0 b o e n) n,A.pen,λa q e=>?_,λj s e=>?_,E.len,E.gr⟩
 ·cases h:H a with
  |some o =>
   rw[bF h] at e
   obtain⟨x,y,z⟩:=E.ow a q e
   refine⟨x,y,by rw[A.kp a o h y];exact λz=>nomatch z⟩
  |none =>
   cases h1:H1 a with
   |none =>
    have e':own a=some q:=by rw[←e];unfold cD;rw[h,h1]
    exact absurd h (E.ow a q e').2.2
   |some o=>exact⟨E.at.h0 h,E.at.nfb h,λz=>nomatch z⟩
 ·have q:=E.slot j s e
  cases s with
  |any=>trivial
  |im d=>exact let ⟨v,a,b⟩:=q;⟨v,a,b.mono (λ_ o=>o) (λ_ _ o=>o.elim) tp⟩
  |sh d=>exact let ⟨v,a,b⟩:=q;⟨v,a,b.bQ (λc o n h=>⟨⟨n.1,by rw[bF h];exact n.2⟩,A.kp c o h n.1⟩) tp⟩
  |sn d=>exact let ⟨v,a,b⟩:=q;⟨v,a,b.bQ (λc o n h=>⟨⟨n.1,n.2.1,by rw[bF h];exact n.2.2⟩,A.kp c o h n.2.1⟩) tp⟩
  |dw r' d=>exact let ⟨v,a,b⟩:=q;⟨v,a,b.bQ (λc o n h=>⟨by rw[bF h];exact n,A.kp c o h (E.ow c r' n).2.1⟩) tp⟩
  |pen C=>exact q
  |rw r' L=>exact let ⟨st,as,a,b⟩:=q;⟨st,as,a,b.mono (λc o n h=>⟨by rw[bF h];exact n,A.kp c o h (E.ow c r' n).2.1⟩) tp⟩
  |tw r' L=>exact let ⟨st,as,a,b⟩:=q;⟨st,as,a,b.mono (λc o n h=>⟨by rw[bF h];exact n,A.kp c o h (E.ow c r' n).2.1⟩) tp⟩
  |scr v b=>exact q
  |sp r' b ds=>exact let ⟨l,vs,a,o,h,z⟩:=q;⟨l,vs,a,by rw[bF h];exact o,A.kp l _ h (E.ow l r' o).2.1,z.bQ (λc u n e=>⟨⟨n.1,n.2.1,by rw[bF e];exact n.2.2⟩,A.kp c u e n.2.1⟩) tp⟩
def LC{r:Nat}{k:Kd}{v:V}{d:D}(h:k.le .new=true)(A:At p H0 own H H1)(x:Rp (okK p H0 own H k) H1 v d):Rp (λa=>cD r H H1 own a=some r) H1 v d :=
 (gK A h x).bQ (λa o n e=>⟨jG n e,e⟩) λ_ _ e=>e
def oM{r:Nat}(A:At p H0 own H H1):FrS p own H (cD r H H1 own) H1:=⟨λb o h n e=>⟨A.kp b o h n,by rw[bF h];exact e⟩,A.tups⟩
def EnvD.drop(E:EnvD p H0 own σ H ρ):EnvD p H0 own σ H (ρ.set i .any):=by
 refine⟨E.k0,E.pen,E.ow,λj s' e=>?_,by simpa using E.len,E.gr⟩
 by_cases hj:j=i
 ·subst hj
  have hl:j<ρ.length:=by
   have:=(Ç.mp e).1
   simpa using this
  rw[Ē hl] at e
  cases e
  trivial
 ·rw[ľ (ġ hj)] at e
  exact E.slot j s' e
def aQ(r:Nat)(own:Addr->Option Nat):Addr->Option Nat:=λa=>if own a=some r then none else own a
def EnvD.clear{r:Nat}(E:EnvD p H0 own σ H ρ)(h:ρ.all (λs=>s.region != some r)=true):EnvD p H0 (aQ r own) σ H ρ:=by
 refine⟨E.k0,E.pen,λa q e=>?_,λj s e=>?_,E.len,E.gr⟩
 ·unfold aQ at e
  split at e
  ·cases e
  ·exact E.ow a q e
 ·have q:=E.slot j s e
  have z:=Ĕ.mp h s (Ð e)
  have c0:∀a,own a=none->aQ r own a=none:=λa n=>by unfold aQ;rw[n];simp
  cases s with
  |any=>trivial
  |im d=>exact q
  |sh d=>exact let ⟨v,a,b⟩:=q;⟨v,a,b.mono (λc n=>⟨n.1,c0 c n.2⟩) (λ_ _ _ e=>e) λ_ _ e=>e⟩
  |sn d=>exact let ⟨v,a,b⟩:=q;⟨v,a,b.mono (λc n=>⟨n.1,n.2.1,c0 c n.2.2⟩) (λ_ _ _ e=>e) λ_ _ e=>e⟩
  |dw r' d =>
   have hne:r'≠r:=by simpa[Sl.region] using z
   exact let ⟨v,a,b⟩:=q;⟨v,a,b.mono (λc n=>by unfold aQ;rw[n,if_neg (by simpa using hne)]) (λ_ _ _ e=>e) λ_ _ e=>e⟩
  |pen C=>exact q
  |rw r' L =>
   have hne:r'≠r:=by simpa[Sl.region] using z
   exact let ⟨st,as,a,b⟩:=q;⟨st,as,a,b.mono (λc o n e=>⟨by unfold aQ;rw[n,if_neg (by simpa using hne)],e⟩) λ_ _ e=>e⟩
  |tw r' L =>
   have hne:r'≠r:=by simpa[Sl.region] using z
   exact let ⟨st,as,a,b⟩:=q;⟨st,as,a,b.mono (λc o n e=>⟨by unfold aQ;rw[n,if_neg (by simpa using hne)],e⟩) λ_ _ e=>e⟩
  |scr v b=>exact q
  |sp r' b ds =>
   have hne:r'≠r:=by simpa[Sl.region] using z
   exact let ⟨l,vs,a,o,h,y⟩:=q;⟨l,vs,a,by unfold aQ;rw[o,if_neg (by simpa using hne)],h,y.mono (λc n=>⟨n.1,n.2.1,c0 c n.2.2⟩) (λ_ _ _ e=>e) λ_ _ e=>e⟩
def fO{r:Nat}:FrS p own H (aQ r own) H:=⟨λb o h n e=>⟨h,by unfold aQ;rw[e];simp⟩,λ_ _ e=>e⟩
end
def wJ{i:Nat}(rg:Option Nat)(h:PS X st (qD (aV te) (iY i))):PDS X st (Dc i rg te):=PS.wk' h (by
 rintro Q σ H ⟨p,H0,own,ρ,P,E,t,w⟩
 refine⟨p,H0,own,ρ,_,E,t,λk d v H1 h A r=>?_⟩
 have r:=bx r
 generalize norm k d=k' at h r
 show Q.nx (σ.set i (some v)) H1
 have E1:=E.go A.kp A.pen
 have fin:∀s,gD p H0 own (σ.set i (some v)) H1 i s\/¬i<σ.length->P.nx (ρ.set i s)->Q.nx (σ.set i (some v)) H1:=λs hs hn =>
  w.nx own _ H1 _ (E1.set λhl=>hs.elim id λz=>absurd hl z) A.frs hn
 have here:i<σ.length->(σ.set i (some v))[i]?=some (some v):=λhl=>Ē hl
 by_cases hl:i<σ.length
 ·cases k' with
  |imm=>exact fin (.im d) (.inl ⟨v,here hl,r⟩) h
  |new =>
   cases rg with
   |none=>exact fin (.sn d) (.inl ⟨v,here hl,gK A (k:=.snw) rfl r⟩) h
   |some q =>
    simp only[stK] at h
    by_cases hf:sS q ρ i=true
    ·rw[if_pos hf] at h
     have E2:EnvD p H0 (aQ q own) σ H (ρ.set i .any):=(E.drop (i:=i)).clear hf
     have A2:At p H0 (aQ q own) H H1:=⟨A.k0,A.kp,A.penb,A.pen,E2.ow⟩
     have E3:=E2.adopt q A2
     have r2:Rp (okK p H0 (aQ q own) H .new) H1 v d:=r
     have E4:EnvD p H0 (cD q H H1 (aQ q own)) (σ.set i (some v)) H1 ((ρ.set i .any).set i (.dw q d)):=E3.set λ_=>⟨v,here hl,LC (k:=.new) rfl A2 r2⟩
     rw[List.set_set] at E4
     exact w.nx _ _ H1 _ E4 (fO.trans (oM A2)) h
    ·rw[if_neg hf] at h
     exact h.elim
  |reg q=>exact fin (.dw q d) (.inl ⟨v,here hl,r⟩) h
  |n0=>exact h.elim
  |snw=>exact fin (.sn d) (.inl ⟨v,here hl,r⟩) h
  |shr=>exact fin (.sh d) (.inl ⟨v,here hl,r⟩) h
  |wk=>exact h.elim
 ·cases hs:stK rg ρ i k' d with
  |none=>rw[hs] at h;exact h.elim
  |some s=>rw[hs] at h;exact fin s (.inr hl) h)
end
variable [Gr]
section
variable {ok ok':Addr->Prop}{H:Hp}
mutual
theorem Rp.inj:∀{v:V}{d d':D},Rp ok H v d->Rp ok' H v d'->d=d'
 |_,_,_,.non,.non=>rfl
 |_,_,_,.bl b,.bl _=>rfl
 |_,_,_,.int i,.int _=>rfl
 |_,_,_,.str x,.str _=>rfl
 |_,_,_,.lst o h r,.lst o' h' r'=>by
  rw[h] at h';cases h'
  rw[Rps.inj r r']
 |_,_,_,.lst o h r,.tup h' r'=>by rw[h] at h';cases h'
 |_,_,_,.lst o h r,.dct o' h' r'=>by rw[h] at h';cases h'
 |_,_,_,.tup h r,.lst o' h' r'=>by rw[h] at h';cases h'
 |_,_,_,.tup h r,.tup h' r'=>by
  rw[h] at h';cases h'
  rw[Rps.inj r r']
 |_,_,_,.tup h r,.dct o' h' r'=>by rw[h] at h';cases h'
 |_,_,_,.dct o h r,.lst o' h' r'=>by rw[h] at h';cases h'
 |_,_,_,.dct o h r,.tup h' r'=>by rw[h] at h';cases h'
 |_,_,_,.dct o h r,.dct o' h' r'=>by
  rw[h] at h';cases h'
  rw[Rkv.inj r r']
theorem Rps.inj:∀{v:List V}{d d':List D},Rps ok H v d->Rps ok' H v d'->d=d'
 |_,_,_,.nil,.nil=>rfl
 |_,_,_,.cons h t,.cons h' t'=>by rw[Rp.inj h h',Rps.inj t t']
theorem Rkv.inj:∀{v:List (Key×V)}{d d':List (D×D)},Rkv ok H v d->Rkv ok' H v d'->d=d'
 |_,_,_,.nil,.nil=>rfl
 |_,_,_,.cons h t,.cons h' t'=>by rw[Rp.inj h h',Rkv.inj t t']
end
variable {l:Addr}{T:D}
mutual
theorem Rp.avoid(h0:Rp ok' H (.ref l) T):∀{v:V}{d:D},Rp ok H v d->sizeOf d<sizeOf T->Rp (λa=>ok a/\a≠l) H v d
 |_,_,.non,_=>.non
 |_,_,.bl b,_=>.bl b
 |_,_,.int i,_=>.int i
 |_,_,.str x,_=>.str x
 |_,_,.lst (ds:=ds) o h r,s=>.lst ⟨o,λz=>by
   subst z
   have e:=Rp.inj (Rp.lst o h r) h0
   rw[e] at s
   exact absurd s (ċ _)⟩ h (Rps.avoid h0 r (by simp only[PyData.list.sizeOf_spec] at s;omega))
 |_,_,.tup (ds:=ds) h r,s=>.tup h (Rps.avoid h0 r (by simp only[PyData.tuple.sizeOf_spec] at s;omega))
 |_,_,.dct (ds:=ds) o h r,s=>.dct ⟨o,λz=>by
   subst z
   have e:=Rp.inj (Rp.dct o h r) h0
   rw[e] at s
   exact absurd s (ċ _)⟩ h (Rkv.avoid h0 r (by simp only[PyData.dict.sizeOf_spec] at s;omega))
theorem Rps.avoid(h0:Rp ok' H (.ref l) T):∀{v:List V}{d:List D},Rps ok H v d->sizeOf d<sizeOf T->Rps (λa=>ok a/\a≠l) H v d
 |_,_,.nil,_=>.nil
 |_,_,.cons h t,s=>.cons (Rp.avoid h0 h (by simp only[List.cons.sizeOf_spec] at s;omega)) (Rps.avoid h0 t (by simp only[List.cons.sizeOf_spec] at s;omega))
theorem Rkv.avoid(h0:Rp ok' H (.ref l) T):∀{v:List (Key×V)}{d:List (D×D)},Rkv ok H v d->sizeOf d<sizeOf T->Rkv (λa=>ok a/\a≠l) H v d
 |_,_,.nil,_=>.nil
 |_,_,.cons h t,s=>.cons (Rp.avoid h0 h (by simp only[List.cons.sizeOf_spec,Prod.mk.sizeOf_spec] at s;omega)) (Rkv.avoid h0 t (by simp only[List.cons.sizeOf_spec] at s;omega))
end
end
def forget(r:Nat)(ρ:List Sl):List Sl:=ρ.map λs=>if s.region=some r then .any else s
section
variable {p:Pn}{H0 H H1:Hp}{own:Addr->Option Nat}{σ:L2.St}{ρ:List Sl}{i:Nat}
def EnvD.write{r:Nat}{l:Addr}{u o':HO}(E:EnvD p H0 own σ H ρ)(hl:own l=some r)(ho:H l=some u)(hu:∀xs,u≠.tup xs)(hc:¬Fxd u:=by rintro⟨_,_,z⟩;cases z):EnvD p H0 own σ (upd H l o') (forget r ρ):=by
 have h0:=E.ow l r hl
 have tp:∀a xs,H a=some (.tup xs)->upd H l o' a=some (.tup xs):=λa xs e=>by
  rw[aj];exact e
  intro z;subst z;rw[ho] at e;exact hu xs (Ø e)
 refine⟨λb o e n=>?_,p.mono H _ E.pen λb o f e=>?_,λa q e=>?_,λj s e=>?_,by unfold forget;rw[Ä];exact E.len,E.gr⟩
 ·rw[aj];exact E.k0 b o e n
  intro z;subst z;rw[h0.1] at e;cases e
 ·rw[aj];exact e
  intro z;subst z;exact f.elim h0.2.1 λc=>hc (by rw[ho] at e;cases e;exact c)
 ·obtain⟨x,y,z⟩:=E.ow a q e
  refine⟨x,y,?_⟩
  by_cases hh:a=l
  ·subst hh;rw[aq];exact λz=>nomatch z
  ·rw[aj hh];exact z
 ·unfold forget at e
  rw[Û] at e
  cases hr:ρ[j]? with
  |none=>rw[hr] at e;cases e
  |some s0 =>
   rw[hr] at e
   have e:=Ø e
   have q:=E.slot j s0 hr
   have ne:∀c,own c≠some r->c≠l:=λc n z=>by subst z;exact n hl
   cases s0 with
   |any=>simp only[Sl.region] at e;subst e;trivial
   |im d =>
    have e:Sl.im d=s:=e
    subst e
    exact let ⟨v,a,b⟩:=q;⟨v,a,b.mono (λ_ o=>o) (λ_ _ o=>o.elim) tp⟩
   |sh d =>
    have e:Sl.sh d=s:=e
    subst e
    exact let ⟨v,a,b⟩:=q;⟨v,a,b.mono (λ_ o=>o) (λc o n e=>by rw[aj (ne c (by rw[n.2];exact λz=>nomatch z))];exact e) tp⟩
   |sn d =>
    have e:Sl.sn d=s:=e
    subst e
    exact let ⟨v,a,b⟩:=q;⟨v,a,b.mono (λ_ o=>o) (λc o n e=>by rw[aj (ne c (by rw[n.2.2];exact λz=>nomatch z))];exact e) tp⟩
   |dw r' d =>
    by_cases hrr:r'=r
    ·subst hrr
     have e:(if (some r':Option Nat)=some r' then Sl.any else Sl.dw r' d)=s:=e
     rw[if_pos rfl] at e
     subst e
     trivial
    ·have e:(if (some r':Option Nat)=some r then Sl.any else Sl.dw r' d)=s:=e
     rw[if_neg (by simpa using hrr)] at e
     subst e
     exact let ⟨v,a,b⟩:=q;⟨v,a,b.mono (λ_ o=>o) (λc o n e=>by rw[aj (ne c (by rw[n];simpa using hrr))];exact e) tp⟩
   |pen C =>
    have e:Sl.pen C=s:=e
    subst e
    exact q
   |scr v b =>
    have e:Sl.scr v b=s:=e
    subst e
    exact q
   |sp r' b ds =>
    by_cases hrr:r'=r
    ·subst hrr
     have e:(if (some r':Option Nat)=some r' then Sl.any else Sl.sp r' b ds)=s:=e
     rw[if_pos rfl] at e
     subst e
     trivial
    ·have e:(if (some r':Option Nat)=some r then Sl.any else Sl.sp r' b ds)=s:=e
     rw[if_neg (by simpa using hrr)] at e
     subst e
     exact let ⟨l',vs,a,o,h,y⟩:=q;⟨l',vs,a,o,by rw[aj (ne l' (by rw[o];simpa using hrr))];exact h,y.mono (λ_ o=>o) (λc o n e=>by rw[aj (ne c (by rw[n.2.2];exact λz=>nomatch z))];exact e) tp⟩
   |rw r' L =>
    by_cases hrr:r'=r
    ·subst hrr
     have e:(if (some r':Option Nat)=some r' then Sl.any else Sl.rw r' L)=s:=e
     rw[if_pos rfl] at e
     subst e
     trivial
    ·have e:(if (some r':Option Nat)=some r then Sl.any else Sl.rw r' L)=s:=e
     rw[if_neg (by simpa using hrr)] at e
     subst e
     exact let ⟨st,as,a,b⟩:=q;⟨st,as,a,b.mono (λc o n e=>⟨n,by rw[aj (ne c (by rw[n];simpa using hrr))];exact e⟩) tp⟩
   |tw r' L =>
    by_cases hrr:r'=r
    ·subst hrr
     have e:(if (some r':Option Nat)=some r' then Sl.any else Sl.tw r' L)=s:=e
     rw[if_pos rfl] at e
     subst e
     trivial
    ·have e:(if (some r':Option Nat)=some r then Sl.any else Sl.tw r' L)=s:=e
     rw[if_neg (by simpa using hrr)] at e
     subst e
     exact let ⟨st,as,a,b⟩:=q;⟨st,as,a,b.mono (λc o n e=>⟨n,by rw[aj (ne c (by rw[n];simpa using hrr))];exact e⟩) tp⟩
def jl{r:Nat}{l:Addr}{u o':HO}(hl:own l=some r)(ho:H l=some u)(hu:∀xs,u≠.tup xs):FrS p own H own (upd H l o'):=by
 refine⟨λb o h n e=>⟨?_,e⟩,λa xs e=>?_⟩
 ·rw[aj];exact h
  intro z;subst z;rw[hl] at e;cases e
 ·rw[aj];exact e
  intro z;subst z;rw[ho] at e;exact hu xs (Ø e)
def EnvD.put{v:V}{s:Sl}(E:EnvD p H0 own σ H ρ)(hs:gD p H0 own σ H i s):EnvD p H0 own σ H (ρ.set i s):=by
 refine⟨E.k0,E.pen,E.ow,λj s' e=>?_,by simpa using E.len,E.gr⟩
 by_cases hj:j=i
 ·subst hj
  have hl:j<ρ.length:=by
   have:=(Ç.mp e).1
   simpa using this
  rw[Ē hl] at e
  cases e
  exact hs
 ·rw[ľ (ġ hj)] at e
  exact E.slot j s' e
def EnvD.qR{r:Nat}{l:Addr}{vs vs':List V}{ds ds':List D}(E:EnvD p H0 own σ H ρ)(A:At p H0 own H H1)(hv:σ[i]?=some (some (.ref l)))(hl:own l=some r)(ho:H l=some (.lst vs))(rs:Rps (λa=>own a=some r) H vs ds)(hs:∀H2,(∀{w:V}{d:D},Rp (λa=>own a=some r) H w d->sizeOf d<sizeOf (Ć ds)->Rp (λa=>cD r H H1 own a=some r) H2 w d)->(∀{w:V}{d:D},Rp (okK p H0 own H .new) H1 w d->Rp (λa=>cD r H H1 own a=some r) H2 w d)->Rps (λa=>cD r H H1 own a=some r) H2 vs' ds') :
  EnvD p H0 (cD r H H1 own) σ (upd H1 l (.lst vs')) ((forget r ρ).set i (.dw r (.list ds')))/\FrS p own H (cD r H H1 own) (upd H1 l (.lst vs')):=by
 have h1:H1 l=some (.lst vs):=A.kp l _ ho (E.ow l r hl).2.1
 have hl':cD r H H1 own l=some r:=by rw[bF ho];exact hl
 have E1:=(E.adopt r A).write (o':=.lst vs') hl' h1 (λxs z=>nomatch z)
 have tp:∀a xs,H1 a=some (.tup xs)->upd H1 l (.lst vs') a=some (.tup xs):=λa xs e=>by
  rw[aj];exact e
  intro z;subst z;rw[h1] at e;cases e
 refine⟨E1.put (v:=.ref l) ⟨.ref l,hv,.lst hl' aq (hs _ ?_ ?_)⟩,(oM A).trans (jl hl' h1 λxs z=>nomatch z)⟩
 ·intro w d x sz
  have x1:=Rp.avoid (Rp.lst (ok:=λa=>own a=some r) hl ho rs) x sz
  exact x1.bQ (λa o n e=>⟨by rw[bF e];exact n.1,by rw[aj n.2];exact A.kp a o e (E.ow a r n.1).2.1⟩) λa xs e=>tp a xs (iW E.at A.kp a xs e)
 ·intro w d x
  exact x.bQ (λa o n e=>⟨jG n e,by rw[aj (λz=>by subst z;rw[ho] at n;cases n)];exact e⟩) tp
end
section
variable {X:Cx}{pos:Pos}{st:Stmt}{e:Expr}{te:DE}{i:Nat}{ta:DA}
def eZ{d:D}{ds:List D}(h:d∈ds):sizeOf d<sizeOf (Ć ds):=by
 have:=List.sizeOf_lt_of_mem h
 simp only[PyData.list.sizeOf_spec]
 omega
theorem jq{ok ok':Addr->Prop}{H H2:Hp}{T:D}(f:∀{w:V}{d:D},Rp ok H w d->sizeOf d<sizeOf T->Rp ok' H2 w d):∀{vs:List V}{ds:List D},Rps ok H vs ds->(∀d∈ds,sizeOf d<sizeOf T)->Rps ok' H2 vs ds
 |_,_,.nil,_=>.nil
 |_,_,.cons h t,s=>.cons (f h (s _ Ñ)) (jq f t λd hd=>s d (Ê _ hd))
def Tp(i:Nat)(te:DE):DS:=λP ρ=>match ρ[i]? with
 |some (.dw r (.list ds))=>te ρ λk d=>(norm k d).le .new=true/\ds.length<1000/\P.nx ((forget r ρ).set i (.dw r (.list (ds++[d]))))
 |_=>False
def oA(h:PS X st (uo (tBM X.K "list" vm (j9 i) (lZ (bO te gC))))):PDS X st (Tp i te):=PS.wk' h (by
 rintro Q σ H ⟨p,H0,own,ρ,P,E,t,w⟩
 unfold Tp at t
 split at t
 ·rename_i r ds hr
  obtain⟨v,hv,x⟩:=E.slot i _ hr
  obtain⟨l,vs,rfl,hl,ho,rs⟩:=x.aX
  refine⟨.ref l,hv,.inl ⟨rfl,vs,SqL.of ho⟩,p,H0,own,ρ,λks=>∃k d,ks=[(k,d)]/\(norm k d).le .new=true/\ds.length<1000/\P.nx ((forget r ρ).set i (.dw r (.list (ds++[d])))),E,?_,?_⟩
  ·show te ρ λk d=>∃k' d',[(k,d)]=[(k',d')]/\_
   have e:(λk d=>∃k' d',[((k,d):Kd×D)]=[(k',d')]/\(norm k' d').le .new=true/\ds.length<1000/\P.nx ((forget r ρ).set i (.dw r (.list (ds++[d'])))))=λk d=>(norm k d).le .new=true/\ds.length<1000/\P.nx ((forget r ρ).set i (.dw r (.list (ds++[d])))):=by
    funext k d
    apply propext
    constructor
    ·rintro⟨k',d',e,h⟩
     cases e
     exact h
    ·exact λh=>⟨k,d,rfl,h⟩
   rw[e]
   exact t
  ·rintro ks ws H1 ⟨k,d,rfl,hk,hlen,hn⟩ A rk
   obtain⟨y,rfl,ry⟩:=cj rk
   have ry:=gK A hk (bx ry)
   have h1:H1 l=some (.lst vs):=A.kp l _ ho (E.ow l r hl).2.1
   have h24:=ą
   have hln:=rs.length
   refine⟨l,vs,y,rfl,rfl,h1,by omega,?_⟩
   obtain⟨E2,F2⟩:=E.qR (vs':=vs++[y]) (ds':=ds++[d]) A hv hl ho rs λH2 f g=>(jq f rs λd hd=>eZ hd).snoc (g ry)
   exact w.nx _ σ _ _ E2 F2 hn
 ·exact t.elim)
end
variable [Gr]
abbrev DG:=Kd->D->List Sl->(List Sl->Prop)->Prop
abbrev DGs:=Kd->List D->List Sl->(List Sl->Prop)->Prop
def Ea(k:Kd)(d:D):Sl:=match k with
 |.imm=>.im d
 |.new=>.sn d
 |.reg r=>.dw r d
 |.snw=>.sn d
 |.shr=>.sh d
 |_=>.any
def okB(p:Pn)(H0:Hp)(own:Addr->Option Nat):Kd->Addr->Prop
 |.imm=>λ_=>False
 |.new=>λa=>H0 a=none/\¬p.fp a/\own a=none
 |.reg r=>λa=>own a=some r
 |.snw=>λa=>H0 a=none/\¬p.fp a/\own a=none
 |.shr=>λa=>¬p.fp a/\own a=none
 |.n0=>λ_=>True
 |.wk=>λ_=>True
def Fe(g:DG):TG:=λv σ H Q=>∃p H0 own ρ k d P,EnvD p H0 own σ H ρ/\Rp (okB p H0 own k) H v d/\g k d ρ P/\∀σ' ρ',EnvD p H0 own σ' H ρ'->P ρ'->Q σ' H
def nU(g:DGs):TGs:=λvs σ H Q=>∃p H0 own ρ k ds P,EnvD p H0 own σ H ρ/\Rps (okB p H0 own k) H vs ds/\g k ds ρ P/\∀σ' ρ',EnvD p H0 own σ' H ρ'->P ρ'->Q σ' H
abbrev PDG(X:Cx)(e:Expr)(g:DG):Prop:=PG X e (Fe g)
def PG.wk{X:Cx}{e:Expr}{t t':TG}(h:PG X e t)(w:∀v σ H Q,t' v σ H Q->t v σ H Q):PG X e t':=λpins s σ H v u Q I r q=>h pins s σ H v u Q I r (w v σ H Q q)
def PGs.wk{X:Cx}{e:List Expr}{t t':TGs}(h:PGs X e t)(w:∀v σ H Q,t' v σ H Q->t v σ H Q):PGs X e t':=λpins s σ H v u Q I r q=>h pins s σ H v u Q I r (w v σ H Q q)
def fC{p:Pn}{H0 H:Hp}{own:Addr->Option Nat}{k:Kd}{v:V}{d:D}(r:Rp (okB p H0 own k) H v d):Rp (okB p H0 own (norm k d)) H v d:=by
 by_cases h:cL d=true
 ·rw[aU h];exact r.imm h
 ·rw[bN h];exact r
section
variable {X:Cx}{pos:Pos}{e:Expr}{es:List Expr}
def gNm(i:Nat):DG:=λk d ρ P=>P (ρ.set i (Ea (norm k d) d))
def I9{p:Pn}{H0 H:Hp}{own:Addr->Option Nat}{σ:L2.St}{i:Nat}{k:Kd}{v:V}{d:D}(r:Rp (okB p H0 own k) H v d)(h:σ[i]?=some (some v)):gD p H0 own σ H i (Ea k d):=by
 cases k with
 |imm=>exact⟨v,h,r⟩
 |new=>exact⟨v,h,r⟩
 |reg q=>exact⟨v,h,r⟩
 |n0=>trivial
 |snw=>exact⟨v,h,r⟩
 |shr=>exact⟨v,h,r⟩
 |wk=>trivial
def wO{i:Nat}{x:Str}(h:PG X (.Name x pos) (iY i)):PDG X (.Name x pos) (gNm i):=PG.wk h (by
 rintro v σ H Q ⟨p,H0,own,ρ,k,d,P,E,r,t,q⟩
 exact q _ _ (E.set λhl=>I9 (fC r) (Ē hl)) t)
def Qo:DGs:=λ_ ds ρ P=>match ds with
 |[]=>P ρ
 |_=>False
def Ks(g:DG)(gs:DGs):DGs:=λk ds ρ P=>match ds with
 |d::r=>g (norm k d) d ρ λρ'=>gs k r ρ' P
 |[]=>False
theorem wN:PGs X [] (nU Qo):=PGs.wk M8 (by
 rintro v σ H Q ⟨p,H0,own,ρ,k,ds,P,E,r,t,q⟩
 cases ds with
 |nil=>cases r;exact⟨rfl,q _ _ E t⟩
 |cons d ds=>exact t.elim)
def sY{g:DG}{gs:DGs}(h1:PDG X e g)(h2:PGs X es (nU gs))(hs:(assignEach (e::es) X.env).map (·.2)=assign e X.env::(assignEach es X.env).map (·.2):=by rfl):PGs X (e::es) (nU (Ks g gs)):=PGs.wk (Jz h1 h2 hs) (by
 rintro v σ H Q ⟨p,H0,own,ρ,k,ds,P,E,r,t,q⟩
 cases r with
 |nil=>exact t.elim
 |cons r rs =>
  exact⟨_,_,rfl,p,H0,own,ρ,_,_,_,E,fC r,t,λσ' ρ' E' t'=>⟨p,H0,own,ρ',k,_,P,E',rs,t',q⟩⟩)
def gTp(n:Nat)(gs:DGs):DG:=λk d ρ P=>match d with
 |.tuple ds=>ds.length=n/\gs k ds ρ P
 |_=>False
def cZ{gs:DGs}{k n:Nat}(hc:X.calm=true)(h:PGs X es (nU gs))(hn:(assignEach es X.env).length=n:=by rfl)(hst:(assignEach es X.env).findIdx? (·.1)=none:=by rfl):PDG X (.Tuple es k pos) (gTp n gs):=PG.wk (Ru hc h hn hst) (by
 rintro v σ H Q ⟨p,H0,own,ρ,k,d,P,E,r,t,q⟩
 cases d with
 |tuple ds =>
  obtain⟨a,vs,rfl,ha,rs⟩:=r.dG
  exact⟨a,vs,rfl,SqT.of ha,by rw[rs.length];exact t.1,p,H0,own,ρ,k,ds,P,E,rs,t.2,q⟩
 |_=>exact t.elim)
end
structure Wlk(Ok:Hp->Prop)(J:It)(ds:List D)(ok:Addr->Prop):Prop where
 go:∀i H,Ok H->i<ds.length->J.go i H
 stop:∀H,Ok H->J.stop ds.length H
 yld:∀i H x H',Ok H->J.yld i H x H'->Same H H'/\∀d,ds[i]?=some d->Rp ok H' x d
 stab:∀H H',Ok H->(∀b o,ok b->H b=some o->H' b=some o)->(∀a xs,H a=some (.tup xs)->H' a=some (.tup xs))->Ok H'
abbrev DI:=List Sl->(Kd->List D->Prop)->Prop
def okA(p:Pn)(H0:Hp)(own:Addr->Option Nat)(Hb:Hp)(k:Kd)(H:Hp)(a:Addr):Prop:=okK p H0 own Hb k a/\∃o,H a=some o
def Ka(t:DI):TI:=λσ H R=>∃p H0 own ρ P,EnvD p H0 own σ H ρ/\t ρ P/\∀k ds J H1 Ok,P k ds->At p H0 own H H1->Wlk Ok J ds (okA p H0 own H k H1)->Ok H1->R J H1
abbrev PDI(X:Cx)(tg e:Expr)(t:DI):Prop:=PI X tg e (Ka t)
def PI.wk{X:Cx}{tg e:Expr}{t t':TI}(h:PI X tg e t)(w:∀σ H R,t' σ H R->t σ H R):PI X tg e t':=λpins s σ H R I q=>h pins s σ H R I (w σ H R q)
section
variable {X:Cx}{tg l:Expr}{tl:DE}{pos:Pos}{ta:DA}
def Il{K:Ý}{ok:Addr->Prop}{a:Addr}{ds:List D}:Wlk (λH=>Rp ok H (.ref a) (.list ds)) (Itl K a) ds ok where
 go:=λi H r hi=>by
  obtain⟨b,vs,e,o,h,rs⟩:=r.aX
  cases e
  have:i<vs.length:=by rw[rs.length];exact hi
  exact⟨vs,vs[i],SqL.of h,by simp[this]⟩
 stop:=λH r=>by
  obtain⟨b,vs,e,o,h,rs⟩:=r.aX
  cases e
  exact⟨vs,SqL.of h,by rw[rs.length];exact Ô _⟩
 yld:=λi H x H' r y=>by
  obtain⟨rfl,y⟩:=y
  obtain⟨b,vs,e,o,h,rs⟩:=r.aX
  cases e
  refine⟨Same.refl _,λd hd=>?_⟩
  obtain⟨v,hv,rv⟩:=rs.getD hd
  have:=y vs (SqL.of h)
  rw[hv] at this
  cases this
  exact rv
 stab:=λH H' r f t=>r.bQ (λa o n e=>⟨n,f a o n e⟩) t
def Ij{K:Ý}{ok:Addr->Prop}{a:Addr}{ds:List D}:Wlk (λH=>Rp ok H (.ref a) (.tuple ds)) (Itt K a) ds ok where
 go:=λi H r hi=>by
  obtain⟨b,vs,e,h,rs⟩:=r.dG
  cases e
  have:i<vs.length:=by rw[rs.length];exact hi
  exact⟨vs,vs[i],SqT.of h,by simp[this]⟩
 stop:=λH r=>by
  obtain⟨b,vs,e,h,rs⟩:=r.dG
  cases e
  exact⟨vs,SqT.of h,by rw[rs.length];exact Ô _⟩
 yld:=λi H x H' r y=>by
  obtain⟨rfl,y⟩:=y
  obtain⟨b,vs,e,h,rs⟩:=r.dG
  cases e
  refine⟨Same.refl _,λd hd=>?_⟩
  obtain⟨v,hv,rv⟩:=rs.getD hd
  have:=y vs (SqT.of h)
  rw[hv] at this
  cases this
  exact rv
 stab:=λH H' r f t=>r.bQ (λa o n e=>⟨n,f a o n e⟩) t
def xO{ok:Addr->Prop}{lo:Int}{n:Nat}:Wlk (λ_=>True) (Itr lo n) ((ê n).map λi=>Â (lo+((i:Nat):Int))) ok where
 go:=λi H r hi=>by
  have h:i<n:=by simpa using hi
  exact h
 stop:=λH r=>by show n<=_;simp
 yld:=λi H x H' r y=>by
  obtain⟨rfl,rfl⟩:=y
  refine⟨Same.refl _,λd hd=>?_⟩
  rw[Û] at hd
  cases h:(ê n)[i]? with
  |none=>rw[h] at hd;cases hd
  |some j =>
   rw[h] at hd
   have e:=Ø hd
   have hj:j=i:=by
    have:=Ç.mp h
    obtain⟨h1,h2⟩:=this
    simpa using h2.symm
   subst e hj
   exact .int _
 stab:=λ_ _ _ _ _=>trivial
def rpA{p:Pn}{H0 Hb H:Hp}{own:Addr->Option Nat}{k:Kd}{v:V}{d:D}(r:Rp (okK p H0 own Hb k) H v d):Rp (okA p H0 own Hb k H) H v d:=r.bQ (λa o n e=>⟨⟨n,o,e⟩,e⟩) λ_ _ e=>e
def iSq(tl:DE):DI:=λρ P=>tl ρ λk d=>match d with
 |.list ds=>P k ds
 |.tuple ds=>P k ds
 |_=>False
theorem CW(hl:PD X l tl):PDI X tg l (iSq tl):=PI.wk (Rr hl) (by
 rintro σ H R ⟨p,H0,own,ρ,P,E,t,q⟩
 refine⟨p,H0,own,ρ,_,E,t,λk d v H1 h A r=>?_⟩
 cases d with
 |list ds =>
  obtain⟨a,vs,rfl,o,ha,rs⟩:=r.aX
  exact⟨a,rfl,.inl ⟨⟨vs,SqL.of ha⟩,q k ds _ H1 _ h A Il (rpA r)⟩⟩
 |tuple ds =>
  obtain⟨a,vs,rfl,ha,rs⟩:=r.dG
  exact⟨a,rfl,.inr ⟨⟨vs,SqT.of ha⟩,q k ds _ H1 _ h A Ij (rpA r)⟩⟩
 |_=>exact h.elim)
def uP(lo:Int)(n:Nat):List D:=(ê n).map λi=>Â (lo+((i:Nat):Int))
def iR1(ta:DA):DI:=λρ P=>ta ρ λks=>match ks with
 |[(_,.int j)]=>(-(2 ^ 62)<=j/\j<2 ^ 62)/\P .imm (uP 0 j.toNat)
 |_=>False
def oF{a:Expr}{ps:Pos}(hm:X.mg "range"=none)(ha:PDA X [a] ta)(hg:Gl X "range":=by rfl)(hs:starEach [a] X.env=[(false,eval a X.env)]:=by rfl):PDI X tg (.Call (.Name "range" ps) [a] [] pos) (iR1 ta):=PI.wk (Gz hg hm ha hs) (by
 rintro σ H R ⟨p,H0,own,ρ,P,E,t,q⟩
 refine⟨p,H0,own,ρ,_,E,t,λks vs H1 h A r=>?_⟩
 split at h
 ·rename_i k j
  obtain⟨v,rfl,r'⟩:=cj r
  exact⟨j,by rw[r'.int'],h.1.1,h.1.2,q _ _ _ H1 _ h.2 A xO trivial⟩
 ·exact h.elim)
def iR2(ta:DA):DI:=λρ P=>ta ρ λks=>match ks with
 |[(_,.int i),(_,.int j)]=>(-(2 ^ 62)<=i/\i<2 ^ 62/\-(2 ^ 62)<=j/\j<2 ^ 62)/\P .imm (uP i (j - i).toNat)
 |_=>False
def oE{a b:Expr}{ps:Pos}(hm:X.mg "range"=none)(ha:PDA X [a,b] ta)(hg:Gl X "range":=by rfl)(hs:starEach [a,b] X.env=[(false,eval a X.env),(false,eval b X.env)]:=by rfl)(hs2:starEach [b] X.env=[(false,eval b X.env)]:=by rfl):PDI X tg (.Call (.Name "range" ps) [a,b] [] pos) (iR2 ta):=PI.wk (Gy hg hm ha hs hs2) (by
 rintro σ H R ⟨p,H0,own,ρ,P,E,t,q⟩
 refine⟨p,H0,own,ρ,_,E,t,λks vs H1 h A r=>?_⟩
 split at h
 ·rename_i k i k' j
  obtain⟨v,w,rfl,r',r2⟩:=Jh r
  exact⟨i,j,by rw[r'.int',r2.int'],h.1,q _ _ _ H1 _ h.2 A xO trivial⟩
 ·exact h.elim)
def mJ(ds:List D):List D:=ds.zipIdx.map λx=>ŋ [.int ((x.2:Nat):Int),x.1]
def cX{ds:List D}{i:Nat}:(mJ ds)[i]?=(ds[i]?).map λd=>ŋ [.int ((i:Nat):Int),d]:=by
 unfold mJ
 rw[Û,List.getElem?_zipIdx]
 cases ds[i]? with
 |none=>rfl
 |some d=>simp
def cI{ds:List D}:(mJ ds).length=ds.length:=by unfold mJ;simp
def Gi{K:Ý}{ok:Addr->Prop}{a:Addr}{ds:List D}:Wlk (λH=>Rp ok H (.ref a) (.tuple ds)) (Ite K a) (mJ ds) ok where
 go:=λi H r hi=>by
  obtain⟨b,vs,e,h,rs⟩:=r.dG
  cases e
  have:i<vs.length:=by rw[rs.length];rw[cI] at hi;exact hi
  exact⟨vs,vs[i],SqT.of h,by simp[this]⟩
 stop:=λH r=>by
  obtain⟨b,vs,e,h,rs⟩:=r.dG
  cases e
  exact⟨vs,SqT.of h,by rw[rs.length,cI];exact Ô _⟩
 yld:=λi H x H' r y=>by
  obtain⟨t,v,rfl,ht,rfl,y⟩:=y
  have sm:Same H (upd H t (.tup [.int i,v])):=λb u q=>by rw[aj (ao q ht)];exact q
  refine⟨sm,λd hd=>?_⟩
  obtain⟨b,vs,e,h,rs⟩:=r.dG
  cases e
  rw[cX] at hd
  cases he:ds[i]? with
  |none=>rw[he] at hd;cases hd
  |some d0 =>
   rw[he] at hd
   have e:=Ø hd
   subst e
   obtain⟨v',hv,rv⟩:=rs.getD he
   have:=y vs (SqT.of h)
   rw[hv] at this
   cases this
   exact .tup aq (.cons (.int _) (.cons (rv.mono (λ_ o=>o) (λa o _ e=>sm a o e) λa xs e=>sm a _ e) .nil))
 stab:=λH H' r f t=>r.bQ (λa o n e=>⟨n,f a o n e⟩) t
def iEn(ta:DA):DI:=λρ P=>ta ρ λks=>match ks with
 |[(k,.tuple ds)]=>P k (mJ ds)
 |_=>False
def mO{elts:List Expr}{kk:Nat}{tpos:Pos}{a:Expr}{ps:Pos}(hm:X.mg "enumerate"=none)(ha:PDA X [a] ta)(hg:Gl X "enumerate":=by rfl)(hs:starEach [a] X.env=[(false,eval a X.env)]:=by rfl):PDI X (.Tuple elts kk tpos) (.Call (.Name "enumerate" ps) [a] [] pos) (iEn ta):=PI.wk (M7 hg hm ha hs) (by
 rintro σ H R ⟨p,H0,own,ρ,P,E,t,q⟩
 refine⟨p,H0,own,ρ,_,E,t,λks vs H1 h A r=>?_⟩
 split at h
 ·rename_i k ds
  obtain⟨v,rfl,r'⟩:=cj r
  obtain⟨a,vs,e,ha,rs⟩:=Rp.dG r'
  subst e
  exact⟨a,rfl,⟨vs,SqT.of ha⟩,q k _ _ H1 _ h A Gi (rpA r')⟩
 ·exact h.elim)
end
variable [Gr]
def elK:Kd->Kd
 |.new=>.snw
 |k=>k
section
variable {X:Cx}{tg iter:Expr}{pos:Pos}{body:List Stmt}{ti:DI}{g:DG}{tb:DS}
def Vx(ti:DI)(g:DG)(tb:DS):DS:=λP ρ=>ti ρ λk ds=>k.le .shr=true/\∃Iv:Nat->List Sl->Prop,Iv 0 ρ /\
 (∀i d ρ',ds[i]?=some d->Iv i ρ'->g (norm (elK k) d) d ρ' λρ2=>tb { nx:=Iv (i+1),ct:=Iv (i+1),bk:=P.nx,rt:=P.rt } ρ2)/\∀ρ',Iv ds.length ρ'->P.nx ρ'
def U6{p:Pn}{H0 Hb H1 H':Hp}{own own':Addr->Option Nat}{k:Kd}(hk:k.le .shr=true)(A:At p H0 own Hb H1)(F:FrS p own H1 own' H'){v:V}{d:D}{H2:Hp}(r:Rp (okA p H0 own Hb k H1) H2 v d):Rp (okB p H0 own' (elK k)) H2 v d:=by
 refine r.mono (λa n=>?_) (λ_ _ _ e=>e) λ_ _ e=>e
 obtain⟨o,u,hu⟩:=n
 have o2:¬p.fp a/\own a=none:=cC A (k:=.shr) hk o
 have f:=(F.keep a u hu o2.1 o2.2).2
 cases k with
 |imm=>exact o
 |new=>exact⟨A.h0 o,o2.1,f⟩
 |reg q=>cases hk
 |n0=>cases hk
 |snw=>exact⟨o.1,o2.1,f⟩
 |shr=>exact⟨o2.1,f⟩
 |wk=>cases hk
def CT(hp:PassesOwn (model X.prog X.w) X.A X.env X.xe)(hc:X.calm=true)(hi:PDI X tg iter ti)(hg:PDG X tg g)(hb:j6 X body tb)(hs:zF X iter:=by intro _;rfl):PDS X (.For tg iter body [] pos) (Vx ti g tb):=PS.wk' (Ro hp hc hi hg hb hs) (by
 rintro Q σ H ⟨p,H0,own,ρ,P,E,t,w⟩
 refine⟨p,H0,own,ρ,_,E,t,λk ds J H1 Ok h A W o1=>?_⟩
 obtain⟨hk,Iv,i0,step,done⟩:=h
 have w1:=w.go A.frs
 have okS:∀own' H',FrS p own H1 own' H'->Ok H':=λown' H' F=>W.stab H1 H' o1 (λb o n e=>by
  have o2:¬p.fp b/\own b=none:=cC A (k:=.shr) hk n.1
  exact(F.keep b o e o2.1 o2.2).1) F.tup
 refine⟨λi m σ' H'=>m=ds.length - i/\i<=ds.length/\∃own' ρ',EnvD p H0 own' σ' H' ρ'/\FrS p own H1 own' H'/\Iv i ρ',⟨_,rfl,ü _,own,ρ,E.go A.kp A.pen,FrS.refl,i0⟩,?_⟩
 rintro i m σ' H' ⟨rfl,hi,own',ρ',E',F',iv⟩
 have oH:=okS own' H' F'
 by_cases hlt:i<ds.length
 ·refine .inr ⟨W.go i H' oH hlt,λσ2 H2=>∃own' ρ',EnvD p H0 own' σ2 H2 ρ'/\FrS p own H1 own' H2/\Iv (i+1) ρ',λσ2 H2 h=>⟨_,by omega,rfl,hlt,h⟩,λx H2 y=>?_⟩
  obtain⟨sm,rx⟩:=W.yld i H' x H2 oH y
  have rx:=rx ds[i] (É hlt)
  have E2:EnvD p H0 own' σ' H2 ρ':=E'.go (Kp.of sm) (p.mono H' H2 E'.pen λb o _ e=>sm b o e)
  have F2:FrS p own H1 own' H2:=⟨λb o e n z=>let ⟨x,y⟩:=F'.keep b o e n z;⟨sm b o x,y⟩,λa xs e=>sm a _ (F'.tup a xs e)⟩
  refine⟨p,H0,own',ρ',_,_,_,E2,fC (U6 hk A F2 rx),step i ds[i] ρ' (É hlt) iv,λσ3 ρ3 E3 t3=>?_⟩
  have nxt:∀own4 σ4 H4 ρ4,EnvD p H0 own4 σ4 H4 ρ4->FrS p own' H2 own4 H4->Iv (i+1) ρ4->∃own' ρ',EnvD p H0 own' σ4 H4 ρ'/\FrS p own H1 own' H4/\Iv (i+1) ρ':=λown4 σ4 H4 ρ4 E4 F4 v4=>⟨own4,ρ4,E4,F2.trans F4,v4⟩
  exact⟨p,H0,own',ρ3,_,E3,t3,⟨nxt,w.rt,λo s h r e f n=>w1.nx o s h r e (F2.trans f) n,nxt⟩⟩
 ·have e:i=ds.length:=by omega
  subst e
  exact .inl ⟨W.stop H' oH,w1.nx own' σ' H' ρ' E' F' (done ρ' iv)⟩)
def Lf(tc:DT)(tb:DS):DS:=λP ρ=>∃Iv:Nat->List Sl->Prop,(∃m,Iv m ρ)/\∀m ρ',Iv m ρ'->tc ρ' λb =>
 if b=true then tb { nx:=λρ2=>∃m',m'<m/\Iv m' ρ2,ct:=λρ2=>∃m',m'<m/\Iv m' ρ2,bk:=P.nx,rt:=P.rt } ρ' else P.nx ρ'
theorem jc{c:Expr}{tc:DT}(hp:PassesOwn (model X.prog X.w) X.A X.env X.xe)(hc:PDT X c tc)(hb:j6 X body tb):PDS X (.While c body [] pos) (Lf tc tb):=PS.wk' (Jt hp hc hb) (by
 rintro Q σ H ⟨p,H0,own,ρ,P,E,⟨Iv,⟨m,i0⟩,step⟩,w⟩
 refine⟨λm σ' H'=>∃own' ρ',EnvD p H0 own' σ' H' ρ'/\FrS p own H own' H'/\Iv m ρ',⟨m,own,ρ,E,FrS.refl,i0⟩,?_⟩
 rintro m σ1 H1 ⟨own1,ρ1,E1,F1,iv⟩
 refine⟨p,H0,own1,ρ1,_,E1,step m ρ1 iv,λb H2 h A=>?_⟩
 have F2:=F1.trans A.frs
 cases b with
 |true =>
  refine aA ⟨λσ' H'=>∃m',m'<m/\∃own' ρ',EnvD p H0 own' σ' H' ρ'/\FrS p own H own' H'/\Iv m' ρ',λσ' H' h=>h,?_⟩
  have nxt:∀own4 σ4 H4 ρ4,EnvD p H0 own4 σ4 H4 ρ4->FrS p own1 H2 own4 H4->(∃m',m'<m/\Iv m' ρ4)->∃m',m'<m/\∃own' ρ',EnvD p H0 own' σ4 H4 ρ'/\FrS p own H own' H4/\Iv m' ρ':=λown4 σ4 H4 ρ4 E4 F4 ⟨m',hm,v4⟩=>⟨m',hm,own4,ρ4,E4,F2.trans F4,v4⟩
  exact⟨p,H0,own1,ρ1,{ nx:=λρ2=>∃m',m'<m/\Iv m' ρ2,ct:=λρ2=>∃m',m'<m/\Iv m' ρ2,bk:=P.nx,rt:=P.rt },E1.go A.kp A.pen,by simpa using h,⟨nxt,w.rt,λo s h r e f n=>w.nx o s h r e (F2.trans f) n,nxt⟩⟩
 |false=>exact aC (w.nx own1 σ1 H2 ρ1 (E1.go A.kp A.pen) F2 (by simpa using h)))
end
def EnvD.comp{p:Pn}{H0 H:Hp}{own:Addr->Option Nat}{σ:L2.St}{ρ:List Sl}(n:Nat)(E:EnvD p H0 own σ H ρ):EnvD p H0 own (Ú n none++σ) H (Ú n .any++ρ):=by
 refine⟨E.k0,E.pen,E.ow,λj s e=>?_,by simp[E.len],E.gr⟩
 by_cases hj:j<n
 ·rw[ù (by simpa using hj)] at e
  have:s=.any:=by
   rw[Ű] at e
   rw[if_pos hj] at e
   exact(Ø e).symm
  subst this
  trivial
 ·have e1:(Ú n Sl.any++ρ)[j]?=ρ[j - n]?:=by rw[Ą (by simpa using hj)];simp
  have e2:(Ú n (none:Option V)++σ)[j]?=σ[j - n]?:=by rw[Ą (by simpa using hj)];simp
  rw[e1] at e
  have q:=E.slot _ s e
  cases s <;> simp only[gD,e2] at q ⊢ <;> exact q
abbrev LK(X:Cx)(es:List Expr)(t:DT):Prop:=PTs X es (liftT t)
def ql{X:Cx}:LK X [] (λ_ P=>P true):=λpins s σ H Q I h=>by
 obtain⟨p,H0,own,ρ,P,E,t,q⟩:=h
 exact MK pins s σ H Q I (q true H t E.at)
def dz{X:Cx}{c:Expr}{t:DT}(hc:PDT X c t):LK X [c] t:=MJ hc
def elC(k:Kd):Kd:=elK k
def dLC(n:Nat)(ti:DI)(g:DG)(tt:DT)(te:DE):DE:=λρ P=>ti ρ λk ds=>ds.length<=1000/\∃(ke:Kd) (Iv:Nat->List D->Prop),Iv 0 [] /\
 (∀i d ys,ds[i]?=some d->Iv i ys->g (norm (elC k) d) d (Ú n .any++ρ) λρ'=>tt ρ' λb=>if b=true then te ρ' λk' d'=>(norm k' d').le ke=true/\Iv (i+1) (ys++[d']) else Iv (i+1) ys) /\
 ∀ys,Iv ds.length ys->P (ke.join .new) (.list ys)
def Qh{p:Pn}{H0 Hb H1:Hp}{own:Addr->Option Nat}{k:Kd}(A:At p H0 own Hb H1){v:V}{d:D}{H2:Hp}(r:Rp (okA p H0 own Hb k H1) H2 v d):Rp (okB p H0 own (elC k)) H2 v d:=by
 refine r.mono (λa n=>?_) (λ_ _ _ e=>e) λ_ _ e=>e
 obtain⟨o,u,hu⟩:=n
 cases k with
 |imm=>exact o
 |new=>exact⟨A.h0 o,A.nfb o,A.Nq o⟩
 |reg q=>exact o
 |n0=>trivial
 |snw=>exact o
 |shr=>exact o
 |wk=>trivial
section
variable {X:Cx}{own:List Str}{scope:Scope}{tg iter elt:Expr}{ifs:List Expr}{pos:Pos}{ti:DI}{g:DG}{tt:DT}{te:DE}
def EY{n:Nat}:∀σ H Q,aV (dLC n ti g tt te) σ H Q->tLC n (Ka ti) (λ_=>Fe g) (λ_=>liftT tt) (λ_=>aV te) σ H Q:=by
 rintro σ H Q ⟨p,H0,own,ρ,P,E,t,q⟩
 refine⟨p,H0,own,ρ,_,E,t,λk ds J H1 Ok h A W o1=>?_⟩
 obtain⟨hlen,ke,Iv,i0,step,done⟩:=h
 have okS:∀H',Kp p H1 H'->p.PI H'->Ok H':=λH' K i=>W.stab H1 H' o1 (λb o n e=>K b o e (fY A n.1)) (iW A K)
 refine⟨λi m ys H'=>m=ds.length - i/\i<=ds.length/\Kp p H1 H'/\p.PI H'/\∃es,Rps (okK p H0 own H ke) H' ys es/\es.length<=i/\Iv i es,⟨_,rfl,ü _,Kp.refl,A.pen,[],.nil,Ô _,i0⟩,?_⟩
 rintro c i m ys H' ⟨rfl,hi,K',I',es,rs,hl,iv⟩
 have oH:=okS H' K' I'
 have A':=A.go K' I'
 have h24:=ą
 by_cases hlt:i<ds.length
 ·refine .inr ⟨W.go i H' oH hlt,by have:=rs.length;omega,λys' H2=>Kp p H1 H2/\p.PI H2/\∃es,Rps (okK p H0 own H ke) H2 ys' es/\es.length<=i+1/\Iv (i+1) es,λys' H2 h=>⟨_,by omega,rfl,hlt,h⟩,λx H2 y=>?_⟩
  obtain⟨sm,rx⟩:=W.yld i H' x H2 oH y
  have rx:=rx ds[i] (É hlt)
  have I2:p.PI H2:=p.mono H' H2 I' λb o _ e=>sm b o e
  have K2:Kp p H1 H2:=K'.trans (Kp.of sm)
  have A2:=A.go K2 I2
  have E2:EnvD p H0 own σ H2 ρ:=E.go A2.kp A2.pen
  have rs2:=bR A' (Kp.of sm) rs
  refine⟨p,H0,own,_,_,_,_,E2.comp n,fC (Qh A rx),step i ds[i] es (É hlt) iv,λσ3 ρ3 E3 t3=>?_⟩
  refine⟨p,H0,own,ρ3,_,E3,t3,λb H4 h4 A4=>?_⟩
  have A5:At p H0 own H H4:=A2.base A4
  have rs4:=bR A2 A4.kp rs2
  cases b with
  |true =>
   refine aA ⟨p,H0,own,ρ3,_,E3.go A4.kp A4.pen,by simpa using h4,λk' d' v H6 h6 A6 r6=>?_⟩
   refine⟨(K2.trans A4.kp).trans A6.kp,A6.pen,es++[d'],(bR A5 A6.kp rs4).snoc (gK (A5.base A6) h6.1 (bx (kZ A5 r6))),by simp;omega,h6.2⟩
  |false=>exact aC ⟨K2.trans A4.kp,A4.pen,es,rs4,by omega,by simpa using h4⟩
 ·have e:i=ds.length:=by omega
  subst e
  refine .inl ⟨W.stop H' oH,λl hl'=>?_⟩
  obtain⟨k7,i7,nw⟩:=A'.new hl' (.lst ys)
  have j:=dh ke .new
  refine q _ _ _ _ (done es iv) (A'.go k7 i7) (.lst (cC A' j.2 nw) aq ?_)
  exact(bR A' k7 rs).mono (λa o=>cC A' j.1 o) (λ_ _ _ e=>e) λ_ _ e=>e
def JH(own:List Str)(hc:X.calm=true)(hi:PDI X tg iter ti)(hg:∀c,PDG (X.comp own scope c) tg g)(ht:∀c,LK (X.comp own scope c) ifs tt)(he:∀c,PD (X.comp own scope c) elt te)(hk:d8 X.env scope X.N=true:=by rfl)(hs:zF X iter:=by intro _;rfl) :
  PD X (.ListComp elt [⟨tg,iter,ifs,0⟩] scope pos) (dLC own.length ti g tt te):=PE.wk (Uy own hc hi hg ht he hk hs) EY
end
def aF(d:D):Sl:=if cL d then .im d else .sh d
def n6{p:Pn}{H:Hp}{N:List Str}{vs:List V}{ds:List D}(g:Gr.G p H)(hp:p.PI H)(r:Rps (λa=>¬p.fp a) H vs ds):EnvD p H (λ_=>none) (L2.start N vs) H (ds.map aF++Ú (N.length - vs.length) .any):=by
 refine⟨λ_ _ e _=>e,hp,(λ_ _ e=>nomatch e),λj s e=>?_,by unfold L2.start;simp[r.length],g⟩
 by_cases hj:j<ds.length
 ·rw[ù (by simpa using hj),Û] at e
  obtain⟨v,hv,rv⟩:=r.getD (É hj)
  rw[É hj] at e
  have e:=Ø e
  have hs:(L2.start N vs)[j]?=some (some v):=by
   unfold L2.start
   rw[ù (by rw[Ä,r.length];exact hj),Û,hv]
   rfl
  subst e
  unfold aF
  by_cases hi:cL ds[j]=true
  ·rw[if_pos hi];exact⟨v,hs,rv.imm hi⟩
  ·rw[if_neg hi];exact⟨v,hs,rv.mono (λ_ o=>⟨o,rfl⟩) (λ_ _ _ e=>e) λ_ _ e=>e⟩
 ·rw[Ą (by simpa using hj),Ű] at e
  split at e
  ·cases e;trivial
  ·cases e
def wI{f:List D->(D->Prop)->Prop}{T:DS}{N:List Str}{vs:List V}{H:Hp}{Q:VK}{E:XK}(h:spD f vs H Q E)(body:∀ds P,f ds P->T { nx:=λ_=>P .none,rt:=P } (ds.map aF++Ú (N.length - ds.length) .any))(g:Gr.G oY H:=by trivial):lY T { nx:=λ_ H'=>Q .non H',rt:=Q } (L2.start N vs) H:=by
 obtain⟨ds,P,r,t,q⟩:=h
 have E:=n6 (p:=oY) (N:=N) g trivial (r.mono (ok':=λa=>¬oY.fp a) (λ_ _ z=>z) (λ_ _ _ e=>e) λ_ _ e=>e)
 rw[r.length] at E
 have sm:∀H',(∀b o,H b=some o->¬oY.fp b->H' b=some o)->Same H H':=λH' k b o e=>k b o e λz=>z
 refine⟨oY,H,λ_=>none,_,_,E,body ds P t,⟨λo s h' r' e' _ n=>q _ _ h' n (sm h' e'.k0) .non,λd v h' n w=>q d v h' n (sm h' w.k0) (w.rp.mono (λ_ o=>o.1) (λ_ _ _ e=>e) λ_ _ e=>e),λ_ _ _ _ _ _ n=>n.elim,λ_ _ _ _ _ _ n=>n.elim⟩⟩
def Te{C:Pn->Prop}{f:List D->(D->Prop)->Prop}{T:DS}{N:List Str}{vs:List V}{H:Hp}{Q:VK}{E:XK}(h:spP C f vs H Q E)(body:∀ds P,f ds P->T { nx:=λ_=>P .none,rt:=P } (.pen C::(ds.map aF++Ú (N.length - (ds.length+1)) .any)))(g:∀p,Gr.G p H:=by intro _;trivial):lY T { nx:=λ_ H'=>Q .non H',rt:=Q } (L2.start N vs) H:=by
 obtain⟨p,vs',ds,P,c,rfl,pi,r,t,q⟩:=h
 have E0:=n6 (p:=p) (N:=N.drop 1) (g p) pi r
 have E:EnvD p H (λ_=>none) (L2.start N (p.pv::vs')) H (.pen C::(ds.map aF++Ú (N.length - (ds.length+1)) .any)):=by
  refine⟨λ_ _ e _=>e,pi,(λ_ _ e=>nomatch e),λj s e=>?_,by unfold L2.start;simp[r.length],g p⟩
  cases j with
  |zero =>
   have e:=Ø e
   subst e
   exact⟨rfl,c⟩
  |succ j =>
   rw[List.getElem?_cons_succ] at e
   have hl:N.length - (ds.length+1)=(N.drop 1).length - vs'.length:=by rw[r.length,ŝ];omega
   rw[hl] at e
   have q:=E0.slot j s e
   have es:(L2.start N (p.pv::vs'))[j+1]?=(L2.start (N.drop 1) vs')[j]?:=by
    unfold L2.start
    have:N.length - (p.pv::vs').length=(N.drop 1).length - vs'.length:=by rw[ŝ,ï];omega
    rw[this]
    simp
   cases s <;> simp only[gD,es] at q ⊢ <;> exact q
 have nw:∀{H' v d},RPost p H H' v d->Rp (λa=>H a=none) H' v d:=λw=>w.rp.mono (λ_ o=>o.1) (λ_ _ _ e=>e) λ_ _ e=>e
 exact⟨p,H,λ_=>none,_,_,E,body ds P t,⟨λo s h' r' e' _ n=>q _ _ h' n e'.k0 e'.pen .non,λd v h' n w=>q d v h' n w.k0 w.pen (nw w),λ_ _ _ _ _ _ n=>n.elim,λ_ _ _ _ _ _ n=>n.elim⟩⟩
end Dl
namespace PySem
open PyProof.Rows
abbrev mX(f0:Value)(q:Bool)(TI TO:Addr):Obj:={ cls:=.type "zip",data:=.fields #[f0,.bool q,.bool false,.ref TI,.ref TO] }
section
variable {prog:Program}{w:World}{A:Around}{E:Value->Shared->Prop}{s:Shared}
def u5{z TI TO i1 i2 l1 l2 T:Addr}{q:Bool}{k:Nat}{xs ys:Array Value}{x y:Value}{oT:Obj}{Q:Value->Shared->Prop}(n1:i1≠z)(n2:i2≠z)(n12:i1≠i2)(m1:l1≠z)(m2:l2≠z)(m3:l2≠i1)(hZ:s.heap.get? z=some (mX (rawInt T) q TI TO))(hI:s.heap.get? TI=some { cls:=.type "tuple",data:=.seq #[.ref i1,.ref i2] })(hT:s.heap.get? T=some oT)(j1:s.heap.IsListIter i1 l1 k)(j2:s.heap.IsListIter i2 l2 k)(e1:s.heap.IsList l1 xs)(e2:s.heap.IsList l2 ys)(hx:xs[k]?=some x)(hy:ys[k]?=some y)(hQ:∀h',h'.get? z=some (mX (rawInt T) true TI TO)->h'.IsListIter i1 l1 (k+1)->h'.IsListIter i2 l2 (k+1)->h'.get? s.heap.objs.size=some { cls:=.type "tuple",data:=.seq #[x,y] } ->
   (∀c o,c≠z->c≠i1->c≠i2->s.heap.get? c=some o->h'.get? c=some o)->Q (.ref s.heap.objs.size) { s with heap:=h' }) :
  wpAny (model prog w) A (Builtin.«zip.__next__» ⟨[.ref z],[]⟩) (λfin s'=>∃v,fin=.done (.ret v)/\Q v s') E s:=by
 have fld:∀{i:Nat}{v:Value}{R:Value->Shared->Prop},(#[rawInt T,Value.bool q,.bool false,.ref TI,.ref TO]:Array Value)[i]?=some v->R v s->wpAny (model prog w) A (field (.ref z) i) R E s:=λh r=>ů hZ rfl h r
 show wpAny _ _ (field (.ref z) 2 >>= _) _ _ _
 refine Æ (fld (v:=.bool false) rfl ?_)
 show wpAny _ _ (field (.ref z) 3 >>= _) _ _ _
 refine Æ (fld (v:=.ref TI) rfl ?_)
 refine Æ (wpAny_seqItems hI rfl ?_)
 show wpAny _ _ (Ŋ (.ref z) >>= _) _ _ _
 refine Æ ?_
 unfold Ŋ
 refine Æ (fld (v:=rawInt T) rfl ?_)
 show wpAny _ _ (loadIfAlive ((T:Int).toNat) >>= _) _ _ _
 rw[ĩ]
 refine Æ (W.kdx_alive hT ?_)
 simp only[Option.isNone_some,Ĭ,if_false]
 refine Æ (fld (v:=.bool q) rfl ?_)
 refine L2.thn (Q:=λa s'=>a=false/\∃h1,s'={ s with heap:=h1 }/\h1.get? z=some (mX (rawInt T) true TI TO)/\h1.objs.size=s.heap.objs.size/\∀c o,c≠z->s.heap.get? c=some o->h1.get? c=some o) ?_ ?_
 ·cases q with
  |true=>exact Ö ⟨rfl,s.heap,rfl,hZ,rfl,λc o _ e=>e⟩
  |false =>
   rw[if_pos (by decide)]
   refine Æ (wpAny_setField_rec hZ (by simp) λh1 z1 b1=>Ö ⟨rfl,h1,rfl,z1,b1.1,λc o n e=>b1.extBut _ _ n e⟩)
 rintro a s' ⟨rfl,h1,rfl,z1,sz1,k1⟩
 simp only[Ĭ,if_false]
 refine Æ ?_
 simp only[←Array.forIn_toList,List.forIn_cons,List.forIn_nil]
 have at1:h1.IsListIter i1 l1 k:=j1.at λo e=>k1 i1 o n1 e
 have at2:h1.IsListIter i2 l2 k:=j2.at λo e=>k1 i2 o n2 e
 have f1:h1.IsList l1 xs:=e1.at λo e=>k1 l1 o m1 e
 have f2:h1.IsList l2 ys:=e2.at λo e=>k1 l2 o m2 e
 refine Æ (Æ (Ě ?_))
 show wpAny _ _ (ğ (.ref i1) >>= _) _ _ _
 refine Æ (wpAny_nextOf_list_item at1 f1 hx λh2 c1 b2=>Ö (Ö ?_))
 refine Æ (Æ (Ě ?_))
 show wpAny _ _ (ğ (.ref i2) >>= _) _ _ _
 refine Æ (wpAny_nextOf_list_item (at2.extBut b2.extBut n12.symm) (f2.extBut b2.extBut m3) hy λh3 c2 b3=>Ö (Ö (Ö ?_)))
 have sz3:h3.objs.size=s.heap.objs.size:=by rw[b3.1,b2.1,sz1]
 show wpAny _ _ (newTuple [x,y] >>= _) _ _ _
 refine Æ (wpAny_newTuple (Ö ⟨_,rfl,?_⟩))
 show Q (.ref h3.objs.size) _
 rw[sz3]
 have up:∀c o,c≠i1->c≠i2->h1.get? c=some o->(h3.push { cls:=.type "tuple",data:=.seq #[x,y] }).get? c=some o:=λc o a b e=>Î _ (b3.extBut _ _ b (b2.extBut _ _ a e))
 refine hQ _ (up z _ n1.symm n2.symm z1) ((c1.extBut b3.extBut n12).at λo e=>Î _ e) (c2.at λo e=>Î _ e) ?_ λc o a b d e=>up c o b d (k1 c o a e)
 rw[←sz3]
 exact Þ _ rfl
def xM{z TI TO i1 i2 l1 l2 T:Addr}{q:Bool}{k:Nat}{xs ys:Array Value}{oT:Obj}{Q:Fin->Shared->Prop}(hh:A.handled=none)(n1:i1≠z)(n2:i2≠z)(n12:i1≠i2)(m1:l1≠z)(m2:l2≠z)(m3:l2≠i1)(hZ:s.heap.get? z=some (mX (rawInt T) q TI TO))(hI:s.heap.get? TI=some { cls:=.type "tuple",data:=.seq #[.ref i1,.ref i2] })(hT:s.heap.get? T=some oT)(j1:s.heap.IsListIter i1 l1 k)(j2:s.heap.IsListIter i2 l2 k)(e1:s.heap.IsList l1 xs)(e2:s.heap.IsList l2 ys)(hend:xs[k]?=none\/ys[k]?=none)(hE:∀h' e,(∀c o,c≠z->c≠i1->c≠i2->s.heap.get? c=some o->h'.get? c=some o)->(∃o,h'.get? e=some o/\o.cls=.type "StopIteration")->E (.ref e) { s with heap:=h' }) :
  wpAny (model prog w) A (Builtin.«zip.__next__» ⟨[.ref z],[]⟩) Q E s:=by
 have fld:∀{i:Nat}{v:Value}{R:Value->Shared->Prop},(#[rawInt T,Value.bool q,.bool false,.ref TI,.ref TO]:Array Value)[i]?=some v->R v s->wpAny (model prog w) A (field (.ref z) i) R E s:=λh r=>ů hZ rfl h r
 show wpAny _ _ (field (.ref z) 2 >>= _) _ _ _
 refine Æ (fld (v:=.bool false) rfl ?_)
 show wpAny _ _ (field (.ref z) 3 >>= _) _ _ _
 refine Æ (fld (v:=.ref TI) rfl ?_)
 refine Æ (wpAny_seqItems hI rfl ?_)
 show wpAny _ _ (Ŋ (.ref z) >>= _) _ _ _
 refine Æ ?_
 unfold Ŋ
 refine Æ (fld (v:=rawInt T) rfl ?_)
 show wpAny _ _ (loadIfAlive ((T:Int).toNat) >>= _) _ _ _
 rw[ĩ]
 refine Æ (W.kdx_alive hT ?_)
 simp only[Option.isNone_some,Ĭ,if_false]
 refine Æ (fld (v:=.bool q) rfl ?_)
 refine L2.thn (Q:=λa s'=>a=false/\∃h1,s'={ s with heap:=h1 }/\h1.get? z=some (mX (rawInt T) true TI TO)/\h1.objs.size=s.heap.objs.size/\∀c o,c≠z->s.heap.get? c=some o->h1.get? c=some o) ?_ ?_
 ·cases q with
  |true=>exact Ö ⟨rfl,s.heap,rfl,hZ,rfl,λc o _ e=>e⟩
  |false =>
   rw[if_pos (by decide)]
   refine Æ (wpAny_setField_rec hZ (by simp) λh1 z1 b1=>Ö ⟨rfl,h1,rfl,z1,b1.1,λc o n e=>b1.extBut _ _ n e⟩)
 rintro a s' ⟨rfl,h1,rfl,z1,sz1,k1⟩
 simp only[Ĭ,if_false]
 refine Æ ?_
 simp only[←Array.forIn_toList,List.forIn_cons,List.forIn_nil]
 have at1:h1.IsListIter i1 l1 k:=j1.at λo e=>k1 i1 o n1 e
 have at2:h1.IsListIter i2 l2 k:=j2.at λo e=>k1 i2 o n2 e
 have f1:h1.IsList l1 xs:=e1.at λo e=>k1 l1 o m1 e
 have f2:h1.IsList l2 ys:=e2.at λo e=>k1 l2 o m2 e
 refine Æ (Æ (Ě ?_))
 show wpAny _ _ (ğ (.ref i1) >>= _) _ _ _
 cases hx:xs[k]? with
 |none=>exact Æ (wpAny_nextOf_list_end hh at1 f1 hx λh2 e b2 he=>hE h2 e (λc o a b _ x=>b2 c o b (k1 c o a x)) he)
 |some x =>
  have hy:ys[k]?=none:=hend.elim (λz=>by rw[hx] at z;cases z) id
  refine Æ (wpAny_nextOf_list_item at1 f1 hx λh2 c1 b2=>Ö (Ö ?_))
  refine Æ (Æ (Ě ?_))
  show wpAny _ _ (ğ (.ref i2) >>= _) _ _ _
  exact Æ (wpAny_nextOf_list_end hh (at2.extBut b2.extBut n12.symm) (f2.extBut b2.extBut m3) hy λh3 e b3 he=>hE h3 e (λc o a b d x=>b3 c o d (b2.extBut _ _ b (k1 c o a x))) he)
structure ZSt(z TI TO i1 i2 l1 l2:Addr)(xs ys:Array Value)(i:Nat)(h:Heap):Prop where
 zip:(i=0/\h.get? z=some (mX .none false TI TO))\/∃(T:Addr) (q:Bool) (oT:Obj),h.get? z=some (mX (rawInt T) q TI TO)/\h.get? T=some oT/\T≠z/\T≠i1/\T≠i2
 ti:h.get? TI=some { cls:=.type "tuple",data:=.seq #[.ref i1,.ref i2] }
 to:∃a b,h.get? TO=some { cls:=.type "tuple",data:=.seq #[a,b] }
 j1:h.IsListIter i1 l1 i
 j2:h.IsListIter i2 l2 i
 e1:h.IsList l1 xs
 e2:h.IsList l2 ys
variable {z TI TO i1 i2 l1 l2:Addr}{xs ys:Array Value}
def ZSt.keeps{i:Nat}{h h':Heap}(Z:ZSt z TI TO i1 i2 l1 l2 xs ys i h){S:Addr}{oS:Obj}(hS:h.get? S=some oS)(hc:oS.cls=.type "list")(n1:S≠l1)(n2:S≠l2)(nT:∀(T:Addr) (q:Bool),h.get? z=some (mX (rawInt T) q TI TO)->S≠T)(k:∀b o,b≠S->h.get? b=some o->h'.get? b=some o):ZSt z TI TO i1 i2 l1 l2 xs ys i h':=by
 have ne:∀{b:Addr}{o:Obj},h.get? b=some o->o.cls≠.type "list"->b≠S:=λe n z=>by subst z;rw[hS] at e;cases e;exact n hc
 obtain⟨o1,a1,c1,d1⟩:=Z.j1
 obtain⟨o2,a2,c2,d2⟩:=Z.j2
 obtain⟨a,b,ab⟩:=Z.to
 have k1:=k i1 o1 (ne a1 (by rw[c1];decide)) a1
 have k2:=k i2 o2 (ne a2 (by rw[c2];decide)) a2
 refine⟨?_,k _ _ (ne Z.ti (show ĉ "tuple"≠_ by decide)) Z.ti,⟨a,b,k _ _ (ne ab (show ĉ "tuple"≠_ by decide)) ab⟩,⟨o1,k1,c1,d1⟩,⟨o2,k2,c2,d2⟩,Z.e1.at λo e=>k _ o n1.symm e,Z.e2.at λo e=>k _ o n2.symm e⟩
 rcases Z.zip with ⟨h0,hz⟩|⟨T,q,oT,hz,hT,r⟩
 ·exact .inl ⟨h0,k _ _ (ne hz (show ĉ "zip"≠_ by decide)) hz⟩
 ·exact .inr ⟨T,q,oT,k _ _ (ne hz (show ĉ "zip"≠_ by decide)) hz,k _ _ (nT T q hz).symm hT,r⟩
def H9{i:Nat}{x y:Value}{Q:Option Value->Shared->Prop}(D:ZipApart z TI TO i1 i2 l1 l2)(Z:ZSt z TI TO i1 i2 l1 l2 xs ys i s.heap)(hx:xs[i]?=some x)(hy:ys[i]?=some y)(hQ:∀h',ZSt z TI TO i1 i2 l1 l2 xs ys (i+1) h'->h'.get? s.heap.objs.size=some { cls:=.type "tuple",data:=.seq #[x,y] }->(∀(T:Addr) (q:Bool),h'.get? z=some (mX (rawInt T) q TI TO)->T=s.heap.objs.size\/∃q',s.heap.get? z=some (mX (rawInt T) q' TI TO)) ->
   (∀c o,c≠z->c≠TO->c≠i1->c≠i2->s.heap.get? c=some o->h'.get? c=some o)->Q (some (.ref s.heap.objs.size)) { s with heap:=h' }):wpAny (model prog w) A (pyNext (.ref z)) Q E s:=by
 obtain⟨a,b,ab⟩:=Z.to
 have lt:∀{c:Addr}{o:Obj},s.heap.get? c=some o->s.heap.objs.size≠c:=λe=>Ļ (Ï e)
 obtain⟨o1,a1,_⟩:=id Z.j1
 obtain⟨o2,a2,_⟩:=id Z.j2
 rcases Z.zip with ⟨rfl,hz⟩|⟨T,q,oT,hz,hT,t1,t2,t3⟩
 ·refine wpAny_pyNext_zip_item D hz Z.ti ab Z.j1 Z.j2 Z.e1 Z.e2 hx hy λh' b1 b2 b3 b4 b5 b6 b7=>hQ h' ⟨.inr ⟨_,false,_,b1,b5,lt hz,lt a1,lt a2⟩,b7 _ _ D.TIz D.TITO D.TIi1 D.TIi2 Z.ti,⟨_,_,b2⟩,b3,b4,Z.e1.at λo e=>b7 _ o D.l1z D.l1TO D.l1i1 D.l1i2 e,Z.e2.at λo e=>b7 _ o D.l2z D.l2TO D.l2i1 D.l2i2 e⟩ b5 (λT q e=>?_) b7
  rw[b1] at e
  cases e
  exact .inl rfl
 ·have hTy:s.TypeIs (.ref z) "zip":=⟨_,hz,rfl⟩
  unfold pyNext
  refine Æ (wpAny_attempt (Ł (name:=Ś "__next__") hTy F.slot_zip_next (ĵ F.slot_zip_next hTy F.entry_zip_next ?_ (F.args_zip_next_1 _))))
  refine u5 D.i1z D.i2z D.i12 D.l1z D.l2z D.l2i1 hz Z.ti hT Z.j1 Z.j2 Z.e1 Z.e2 hx hy λh' b1 b3 b4 b5 b7=>Ö (hQ h' ⟨.inr ⟨T,true,oT,b1,b7 _ _ t1 t2 t3 hT,t1,t2,t3⟩,b7 _ _ D.TIz D.TIi1 D.TIi2 Z.ti,⟨a,b,b7 _ _ D.TOz D.TOi1 D.TOi2 ab⟩,b3,b4,Z.e1.at λo e=>b7 _ o D.l1z D.l1i1 D.l1i2 e,Z.e2.at λo e=>b7 _ o D.l2z D.l2i1 D.l2i2 e⟩ b5 (λT' q' e=>?_) λc o n1 _ n3 n4 e=>b7 c o n1 n3 n4 e)
  rw[b1] at e
  cases e
  exact .inr ⟨_,hz⟩
def Mg{i:Nat}{Q:Option Value->Shared->Prop}(hh:A.handled=none)(D:ZipApart z TI TO i1 i2 l1 l2)(Z:ZSt z TI TO i1 i2 l1 l2 xs ys i s.heap)(hend:xs[i]?=none\/ys[i]?=none)(hQ:∀h',(∀c o,c≠z->c≠TO->c≠i1->c≠i2->s.heap.get? c=some o->h'.get? c=some o)->Q none { s with heap:=h' }):wpAny (model prog w) A (pyNext (.ref z)) Q E s:=by
 obtain⟨a,b,ab⟩:=Z.to
 rcases Z.zip with ⟨rfl,hz⟩|⟨T,q,oT,hz,hT,t1,t2,t3⟩
 ·exact wpAny_pyNext_zip_end hh D hz Z.ti ab Z.j1 Z.j2 Z.e1 Z.e2 hend hQ
 ·have hTy:s.TypeIs (.ref z) "zip":=⟨_,hz,rfl⟩
  unfold pyNext
  refine Æ (wpAny_attempt (Ł (name:=Ś "__next__") hTy F.slot_zip_next (ĵ F.slot_zip_next hTy F.entry_zip_next ?_ (F.args_zip_next_1 _))))
  refine xM hh D.i1z D.i2z D.i12 D.l1z D.l2z D.l2i1 hz Z.ti hT Z.j1 Z.j2 Z.e1 Z.e2 hend λh' e k2 he=>?_
  obtain⟨o,ho,hc⟩:=he
  refine Æ (wpAny_isInstance (T:="StopIteration") (b:=true) ⟨o,ho,hc⟩ isSubtype_stop ?_)
  exact Ö (hQ _ λc o n1 _ n3 n4 e=>k2 c o n1 n3 n4 e)
def ItP(h:Heap):List Value->List (Value×Value)->Prop:=Paired λv p=>∃T,v=.ref T/\h.get? T=some { cls:=.type "tuple",data:=.seq #[p.1,p.2] }
theorem ItP.snoc{h:Heap}:∀{vs:List Value}{ps:List (Value×Value)}{v:Value}{p:Value×Value},ItP h vs ps->(∃T,v=.ref T/\h.get? T=some { cls:=.type "tuple",data:=.seq #[p.1,p.2] })->ItP h (vs++[v]) (ps++[p])
 |_,_,_,_,.nil,r=>.cons r .nil
 |_,_,_,_,.cons a t,r=>.cons a (ItP.snoc t r)
def ItP.keeps{h h':Heap}{vs:List Value}{ps:List (Value×Value)}(H:ItP h vs ps)(k:∀T o,h.get? T=some o->o.cls=.type "tuple"->(∃v∈vs,v=.ref T)->h'.get? T=some o):ItP h' vs ps:=by
 induction H with
 |nil=>exact .nil
 |cons a t ih =>
  obtain⟨T,e,hT⟩:=a
  exact .cons ⟨T,e,k T _ hT rfl ⟨_,Ñ,e⟩⟩ (ih λT o h c ⟨v,hv,e⟩=>k T o h c ⟨v,Ê _ hv,e⟩)
end
section
variable {prog:Program}{w:World}{A:Around}{z TI TO i1 i2 l1 l2:Addr}{xs ys:Array Value}{R:Result->Shared->Prop}
abbrev NZ(acc:Array Value)(c:Nat):Obj:={ cls:=.type "list",dict:=none,data:=.seq acc c,slots:=#[] }
def HX(hh:A.in1.handled=none)(D:ZipApart z TI TO i1 i2 l1 l2)(hn:min xs.size ys.size<=1000)(S:Addr)(nS:S≠z/\S≠TO/\S≠i1/\S≠i2/\S≠l1/\S≠l2)(res:Value):∀(m i:Nat) (s:Shared) (acc:Array Value) (c:Nat),min xs.size ys.size - i=m->i<=min xs.size ys.size ->
  ZSt z TI TO i1 i2 l1 l2 xs ys i s.heap->(∀(T:Addr) (q:Bool),s.heap.get? z=some (mX (rawInt T) q TI TO)->S≠T)->s.heap.get? S=some (NZ acc c)->ItP s.heap acc.toList ((xs.toList.zip ys.toList).take i)->(∀v∈acc.toList,∀T,v=.ref T->T≠z/\T≠TO/\T≠i1/\T≠i2/\T≠S) ->
  (∀h' acc' c',(∀b o,b≠S->b≠z->b≠TO->b≠i1->b≠i2->s.heap.get? b=some o->h'.get? b=some o)->h'.get? S=some (NZ acc' c')->ItP h' acc'.toList (xs.toList.zip ys.toList)->(∀v∈acc'.toList,v∈acc.toList\/∃T,v=.ref T/\s.heap.objs.size<=T)->R (.ok (.ret res)) { s with heap:=h' }) ->
  codeAny (model prog w) A (.builtin "list.extend.loop" ⟨[.ref S,.ref z,res],[]⟩) R s:=by
 obtain⟨s1,s2,s3,s4,s5,s6⟩:=nS
 intro m
 induction m with
 |zero =>
  intro i s acc c hm hi Z nT hS hP hv hR
  have e:i=min xs.size ys.size:=by omega
  refine codeAny_builtin F.entry_extend_loop ?_
  rw[Around.under_plainId F.plain_extend_loop _]
  show wpAny _ A.in1 (pyNext (.ref z) >>= _) _ _ s
  refine Æ (Mg hh D Z ?_ λh' k=>?_)
  ·rcases Nat.le_total xs.size ys.size with h|h
   ·exact .inl (Array.getElem?_eq_none (by omega))
   ·exact .inr (Array.getElem?_eq_none (by omega))
  ·have el:(xs.toList.zip ys.toList).take i=xs.toList.zip ys.toList:=Ŵ (by simp;omega)
   rw[el] at hP
   exact Ö (hR h' acc c (λb o n1 n2 n3 n4 n5 e=>k b o n2 n3 n4 n5 e) (k S _ s1 s2 s3 s4 hS) (hP.keeps λT o h _ ⟨v,hv',e⟩=>let ⟨a1,a2,a3,a4,_⟩:=hv v hv' T e;k T o a1 a2 a3 a4 h) λv hv=>.inl hv)
 |succ m ih =>
  intro i s acc c hm hi Z nT hS hP hv hR
  have hx:i<xs.size:=by omega
  have hy:i<ys.size:=by omega
  refine codeAny_builtin F.entry_extend_loop ?_
  rw[Around.under_plainId F.plain_extend_loop _]
  show wpAny _ A.in1 (pyNext (.ref z) >>= _) _ _ s
  refine Æ (H9 D Z (Array.getElem?_eq_getElem hx) (Array.getElem?_eq_getElem hy) λh1 Z1 hT hz1 k1=>?_)
  have hS1:=k1 S _ s1 s2 s3 s4 hS
  have lt:∀{b:Addr}{o:Obj},s.heap.get? b=some o->s.heap.objs.size≠b:=λe=>Ļ (Ï e)
  have hsz:=hP.length
  have hsz2:acc.size=i:=by
   have:acc.toList.length=i:=by rw[hsz,ě,List.length_zip];simp;omega
   simpa using this
  show wpAny _ A.in1 (updateSeq S (·.push (.ref s.heap.objs.size)) >>= _) _ _ _
  refine Æ ?_
  have h24:=ą
  have nT1:∀(T:Addr) (q:Bool),h1.get? z=some (mX (rawInt T) q TI TO)->S≠T:=λT q e=>by
   rcases hz1 T q e with z'|⟨q',e'⟩
   ·rw[z'];exact(lt hS).symm
   ·exact nT T q' e'
  have oth:∀b o,b≠S->h1.get? b=some o->(h1.update S (ô (·.push (Ģ s.heap.objs.size)))).get? b=some o:=λb o n e=>(ĭ _ _ (ġ n)).trans e
  obtain⟨o1,a1,_⟩:=Z.j1
  obtain⟨o2,a2,_⟩:=Z.j2
  have az:∃o,s.heap.get? z=some o:=by
   rcases Z.zip with ⟨_,hz⟩|⟨_,_,_,hz,_⟩
   ·exact⟨_,hz⟩
   ·exact⟨_,hz⟩
  obtain⟨oz,az⟩:=az
  obtain⟨ta,tb,at'⟩:=Z.to
  have newT:s.heap.objs.size≠z/\s.heap.objs.size≠TO/\s.heap.objs.size≠i1/\s.heap.objs.size≠i2/\s.heap.objs.size≠S:=⟨lt az,lt at',lt a1,lt a2,lt hS⟩
  obtain⟨c2,hS2⟩:∃c2,(h1.update S (ô (·.push (Ģ s.heap.objs.size)))).get? S=some (NZ (acc.push (.ref s.heap.objs.size)) c2):=⟨_,ň _ hS1 rfl⟩
  have tk:(xs.toList.zip ys.toList).take (i+1)=(xs.toList.zip ys.toList).take i++[(xs[i],ys[i])]:=by
   rw[Ķ]
   congr 1
   have:(xs.toList.zip ys.toList)[i]?=some (xs[i],ys[i]):=by
    rw[List.getElem?_zip_eq_some]
    simp[hx,hy]
   rw[this]
   rfl
  refine wpAny_updateSeq hS1 rfl (Ö ⟨plainId_quiet F.plain_extend_loop _,ih (i+1) { s with heap:=h1.update S (ô (·.push (Ģ s.heap.objs.size))) } (acc.push (.ref s.heap.objs.size)) c2 (by omega) (by omega) (Z1.keeps hS1 rfl s5 s6 nT1 oth) (λT q e=>nT1 T q ?_) hS2 ?_ ?_ ?_⟩) (by rw[hsz2];omega) (by show(acc.push _).size<=sizeLine+1;rw[Array.size_push,hsz2];omega)
  ·have zz:z≠S:=ġ s1
   rw[show(h1.update S (ô (·.push (Ģ s.heap.objs.size)))).get? z=h1.get? z from ĭ _ _ (ġ zz)] at e
   exact e
  ·rw[tk,Array.toList_push]
   refine ItP.snoc (hP.keeps λT o h _ ⟨v,hv',e⟩=>?_) ⟨_,rfl,oth _ _ newT.2.2.2.2 hT⟩
   obtain⟨b1,b2,b3,b4,b5⟩:=hv v hv' T e
   exact oth _ _ b5 (k1 T o b1 b2 b3 b4 h)
  ·intro v hv' T e
   rw[Array.toList_push] at hv'
   rcases à.mp hv' with q|q
   ·exact hv v q T e
   ·have q':v=.ref s.heap.objs.size:=by simpa using q
    rw[q'] at e
    cases e
    exact newT
  ·intro h' acc' c' kk hS' hP' hn'
   refine hR h' acc' c' (λb o n1 n2 n3 n4 n5 e=>kk b o n1 n2 n3 n4 n5 (oth b o n1 (k1 b o n2 n3 n4 n5 e))) hS' hP' λv hv'=>?_
   rcases hn' v hv' with q|⟨T,e,hT'⟩
   ·rw[Array.toList_push] at q
    rcases à.mp q with q|q
    ·exact .inl q
    ·have q':v=.ref s.heap.objs.size:=by simpa using q
     exact .inr ⟨_,q',Ô _⟩
   ·exact .inr ⟨T,e,õ (Nat.le_of_lt (Ï (oth _ _ newT.2.2.2.2 hT))) hT'⟩
def Ag:typeLookup (.type "zip") "__len__"=pure none:=by rw[typeLookup_type,builtinLookup_eq_fast];kernel_rfl
def xJ:typeLookup (.type "zip") "__length_hint__"=pure none:=by rw[typeLookup_type,builtinLookup_eq_fast];kernel_rfl
def HY{s:Shared}{E:Value->Shared->Prop}{Q:Value->Shared->Prop}(hh:A.handled=none)(D:ZipApart z TI TO i1 i2 l1 l2)(hn:min xs.size ys.size<=1000)(hz:s.heap.get? z=some (mX .none false TI TO))(Z:ZSt z TI TO i1 i2 l1 l2 xs ys 0 s.heap)(hQ:∀h' acc' c',(∀b o,b≠z->b≠TO->b≠i1->b≠i2->s.heap.get? b=some o->h'.get? b=some o)->h'.get? s.heap.objs.size=some (NZ acc' c')->ItP h' acc'.toList (xs.toList.zip ys.toList)->(∀v∈acc'.toList,∃T,v=.ref T/\s.heap.objs.size<T)->Q (.ref s.heap.objs.size) { s with heap:=h' }) :
  wpAny (model prog w) A (call (.type "list") [.ref z]) Q E s:=by
 have lt:∀{b:Addr}{o:Obj},s.heap.get? b=some o->s.heap.objs.size≠b:=λe=>Ļ (Ï e)
 obtain⟨o1,a1,_⟩:=id Z.j1
 obtain⟨o2,a2,_⟩:=id Z.j2
 obtain⟨p1,b1,_⟩:=id Z.e1
 obtain⟨p2,b2,_⟩:=id Z.e2
 obtain⟨ta,tb,at'⟩:=id Z.to
 refine callType_codes (Q₁:=λobj s₁=>obj=.ref s.heap.objs.size/\s₁={ s with heap:=s.heap.push { cls:=.type "list",data:=.seq #[] } }) F.called_list (F.typeCall_list_1 _) F.entry_list_init (code_list_new _ ⟨rfl,rfl⟩) λobj sx hx=>?_
 obtain⟨rfl,rfl⟩:=hx
 have hS:(s.heap.push { cls:=.type "list",data:=.seq #[] }).get? s.heap.objs.size=some { cls:=.type "list",data:=.seq #[] }:=Þ _ rfl
 refine⟨⟨_,hS,rfl⟩,F.args_list_init_2 _ _,?_⟩
 show wpAny _ _ (Builtin.List.listItems (.ref s.heap.objs.size) >>= λold=>Builtin.List.listUpdate (.ref s.heap.objs.size) (λ_=>#[]) >>= λ_=>letGo old.toList.reverse >>= λ_=>ĥ (.ref s.heap.objs.size) (.ref z) .none) _ _ _
 have old:∀b o,s.heap.get? b=some o->(s.heap.push { cls:=.type "list",data:=.seq #[] }).get? b=some o:=λb o e=>Î _ e
 refine Æ ?_
 unfold Builtin.List.listItems
 refine Æ (wpAny_seqItems hS rfl (Ö ?_))
 refine Æ (m:=updateSeq s.heap.objs.size (λ_=>#[])) (wpAny_updateSeq hS rfl ?_)
 have hS2:=ň (ô (λ_=>(#[]:Array Value))) hS rfl
 refine Æ (wpAny_letGo ?_)
 generalize hg:(s.heap.push { cls:=.type "list",data:=.seq #[] }).update s.heap.objs.size (ô λ_=>(#[]:Array Value))=g at hS2
 have kg:∀b o,s.heap.get? b=some o->g.get? b=some o:=λb o e=>by rw[←hg];exact(ĭ _ _ (lt e)).trans (old b o e)
 have sg:g.objs.size=s.heap.objs.size+1:=by rw[←hg,ś,ĸ]
 have Zg:∀{h:Heap},(∀b o,s.heap.get? b=some o->h.get? b=some o)->ZSt z TI TO i1 i2 l1 l2 xs ys 0 h:=λ{h} k=>⟨.inl ⟨rfl,k _ _ hz⟩,k _ _ Z.ti,⟨ta,tb,k _ _ at'⟩,Z.j1.at λo e=>k _ o e,Z.j2.at λo e=>k _ o e,Z.e1.at λo e=>k _ o e,Z.e2.at λo e=>k _ o e⟩
 have hT:∀{h:Heap},(∀b o,s.heap.get? b=some o->h.get? b=some o)->({ s with heap:=h }:Shared).TypeIs (.ref z) "zip":=λk=>⟨_,k _ _ hz,rfl⟩
 unfold ĥ
 refine Æ (wpAny_typeOf (hT kg) ?_)
 have q1:Builtin.List.listSameRef (.ref s.heap.objs.size) (.ref z)=false:=by simp[Builtin.List.listSameRef,lt hz]
 have q2:(ĉ "zip" == ĉ "list")=false:=by decide
 have q3:(ĉ "zip" == ĉ "tuple")=false:=by decide
 simp only[q1,q2,q3,Bool.or_false,Ĭ,if_false]
 refine Æ (wpAny_pyIter_zip (kg _ _ hz) ?_)
 refine Æ (Ě ?_)
 unfold Builtin.List.listLengthHint
 refine Æ (wpAny_specialOf (hT kg) Ag ?_)
 show wpAny _ _ (specialOf (Ģ z) (Ś "__length_hint__") >>= _) _ _ _
 refine Æ (wpAny_specialOf (hT kg) xJ ?_)
 refine Ö ?_
 show wpAny _ _ (rule "list.extend.makes-room" >>= λ_=>Builtin.List.listTouch (.ref s.heap.objs.size) >>= λ_=>again (.builtin "list.extend.loop" ⟨[.ref s.heap.objs.size,.ref z,.none],[]⟩)) _ _ _
 refine Æ (wpAny_rule (Æ ?_))
 show wpAny _ _ (updateSeq s.heap.objs.size (·.push .none) >>= λ_=>updateSeq s.heap.objs.size (·.pop)) _ _ _
 refine Æ (wpAny_updateSeq hS2 rfl ?_)
 have hS3:=ň (ô (·.push İ)) hS2 rfl
 refine wpAny_updateSeq hS3 rfl ?_
 have hS4:=ň (ô (·.pop)) hS3 rfl
 generalize hk:(g.update s.heap.objs.size (ô (·.push İ))).update s.heap.objs.size (ô (·.pop))=g' at hS4
 have kk:∀b o,b≠s.heap.objs.size->g.get? b=some o->g'.get? b=some o:=λb o n e=>by rw[←hk];exact(ĭ _ _ (ġ n)).trans ((ĭ _ _ (ġ n)).trans e)
 have kk2:∀b o,s.heap.get? b=some o->g'.get? b=some o:=λb o e=>kk b o (ġ (lt e)) (kg b o e)
 have sk:g'.objs.size=s.heap.objs.size+1:=by rw[←hk,ś,ś,sg]
 refine Ö ⟨plainId_quiet F.plain_extend_loop _,HX (A:=A.in1) (xs:=xs) (ys:=ys) hh D hn s.heap.objs.size ⟨lt hz,lt at',lt a1,lt a2,lt b1,lt b2⟩ _ _ 0 { s with heap:=g' } #[] _ rfl (ü _) (Zg kk2) (λT q e=>?_) hS4 .nil (λv hv=>nomatch hv) λh' acc' c' k' hS' hP' hn'=>?_⟩
 ·have e':=kk2 _ _ hz
  rw[e] at e'
  cases e'
 ·refine⟨rfl,hQ h' acc' c' (λb o n1 n2 n3 n4 e=>k' b o (ġ (lt e)) n1 n2 n3 n4 (kk2 b o e)) hS' hP' λv hv=>?_⟩
  rcases hn' v hv with q|⟨T,e,hT'⟩
  ·exact nomatch q
  ·refine⟨T,e,?_⟩
   have:g'.objs.size<=T:=hT'
   omega
end
end PySem
namespace L2
open PySem PySem.Spec PyProof.Rows
section
variable {X:Cx}{pins:List (Addr×Obj)}{σ:L2.St}{H:Hp}{s:Shared}
def Inv.Iu{a:Addr}{o:HO}{H0:Hp}{s0:Shared}{σ0:L2.St}(I:Inv X pins σ H s)(I0:Inv X pins σ0 H0 s0)(hle:s0.heap.objs.size<=a)(hn:H a=none)(new:bf X.prog X.w (upd H a o) s.heap a o):Inv X pins σ (upd H a o) s:=by
 have lt:∀{b:Addr}{u:Obj},s0.heap.get? b=some u->b≠a:=λe z=>absurd (ì (Ï e) hle) (by rw[z];exact ċ _)
 refine I.track hn (λob e=>?_) (ġ (ä (ì I0.lt hle))) (λx c e=>?_) (λp hp=>lt (I0.pin p hp).1) new
 ·exact absurd (ì (Ï e) (õ I0.sz hle)) (ċ _)
 ·obtain⟨v,u,hu,_⟩:=I0.cell x c e
  exact lt hu
theorem Inv.tuples{H0:Hp}{s0:Shared}{σ0:L2.St}(I0:Inv X pins σ0 H0 s0):∀(vs:List Value) (ps:List (Value×Value)) (qs:List (V×V)) (H:Hp),Inv X pins σ H s->ItP s.heap vs ps->Paired (λ(q:V×V) (p:Value×Value)=>RelV q.1 p.1/\RelV q.2 p.2) qs ps->(∀v∈vs,∃T,v=.ref T/\s0.heap.objs.size<=T)->(∀T,s0.heap.objs.size<=T->H T=none\/∃xs,H T=some (.tup xs)) ->
  ∃(H':Hp) (ws:List V),Inv X pins σ H' s/\Same H H'/\Vals ws vs/\Paired (λw (q:V×V)=>∃t,w=.ref t/\H' t=some (.tup [q.1,q.2])) ws qs/\(∀T,s0.heap.objs.size<=T->H' T=none\/∃xs,H' T=some (.tup xs))/\(∀T,(∀v∈vs,v≠.ref T)->H' T=H T)
 |_,_,_,H,I,.nil,.nil,_,hN=>⟨H,[],I,Same.refl _,.nil,.nil,hN,λ_ _=>rfl⟩
 |_,_,_,H,I,.cons (a:=v) (l₁:=vs) (b:=p) (l₂:=ps) r t,.cons (a:=q) (l₁:=qs) rq tq,hv,hN=>by
  obtain⟨T,e,hT⟩:=r
  subst e
  obtain⟨T',e',hle⟩:=hv _ Ñ
  cases e'
  have vq:Vals [q.1,q.2] [p.1,p.2]:=.cons rq.1 (.cons rq.2 .nil)
  have okT:∀H2:Hp,bf X.prog X.w H2 s.heap T (.tup [q.1,q.2]):=λH2=>⟨by show 2<=sizeLine;decide,[p.1,p.2],vq,⟨_,hT,rfl,0,rfl⟩⟩
  have key:∃H1,Inv X pins σ H1 s/\Same H H1/\H1 T=some (.tup [q.1,q.2])/\(∀U,s0.heap.objs.size<=U->H1 U=none\/∃xs,H1 U=some (.tup xs))/\∀U,U≠T->H1 U=H U:=by
   rcases hN T hle with hn|⟨xs,hx⟩
   ·refine⟨upd H T (.tup [q.1,q.2]),I.Iu I0 hle hn (okT _),λb u e=>by rw[aj (ao e hn)];exact e,aq,λU hU=>?_,λU hU=>aj hU⟩
    by_cases z:U=T
    ·subst z;exact .inr ⟨_,aq⟩
    ·rw[aj z];exact hN U hU
   ·refine⟨H,I,Same.refl _,?_,hN,λ_ _=>rfl⟩
    obtain⟨_,its,rv,o,ho,hc,n,hd⟩:=I.hok T _ hx
    rw[hT] at ho
    cases ho
    cases hd
    have:xs=[q.1,q.2]:=Vals.inj (by simpa using rv) vq
    rw[hx,this]
  obtain⟨H1,I1,s1,h1,N1,u1⟩:=key
  obtain⟨H2,ws,I2,s2,v2,p2,N2,u2⟩:=Inv.tuples I0 vs ps qs H1 I1 t tq (λv hv'=>hv v (Ê _ hv')) N1
  refine⟨H2,.ref T::ws,I2,s1.trans s2,.cons rfl v2,.cons ⟨T,rfl,s2 _ _ h1⟩ p2,N2,λU hU=>?_⟩
  rw[u2 U λv hv'=>hU v (Ê _ hv'),u1 U λz=>hU _ Ñ (by rw[z])]
def tLZ(K:Ý)(ta:TA):TE:=λσ H Q=>ta σ H λvs H1=>∃p q xs ys,vs=[.ref p,.ref q]/\SqL K H1 p xs/\SqL K H1 q ys/\xs.length<=1000 /\
 ∀l ws H',Same H1 H'->H1 l=none->H' l=some (.lst ws)->Paired (λw (q:V×V)=>∃t,w=.ref t/\H' t=some (.tup [q.1,q.2])) ws (xs.zip ys)->Q (.ref l) H'
theorem xP:∀{xs ys:List V}{us vs:List Value},Vals xs us->Vals ys vs->Paired (λ(q:V×V) (p:Value×Value)=>RelV q.1 p.1/\RelV q.2 p.2) (xs.zip ys) (us.zip vs)
 |_,_,_,_,.nil,_=>.nil
 |_,_,_,_,.cons _ _,.nil=>.nil
 |_,_,_,_,.cons a b,.cons c d=>.cons ⟨a,c⟩ (xP b d)
def Bj{a b:Expr}{ta:TA}{p1 p2 pos1 pos2:Pos}(hc:X.calm=true)(hgl:Gl X "list")(hml:X.mg "list"=none)(hgz:Gl X "zip")(hmz:X.mg "zip"=none)(ha:PA X [a,b] ta)(e1:starEach [.Call (.Name "zip" p2) [a,b] [] pos2] X.env=[(false,eval (.Call (.Name "zip" p2) [a,b] [] pos2) X.env)]:=by rfl)(e2:starEach [a,b] X.env=(false,eval a X.env)::starEach [b] X.env:=by rfl)(e3:(backTo pos2 (starEach [b] X.env)).any (·.1)=false:=by rfl) :
  PE X (.Call (.Name "list" p1) [.Call (.Name "zip" p2) [a,b] [] pos2] [] pos1) (tLZ X.K ta):=by
 intro pins s σ H Q I h
 refine Ť (dJ I hgl hml boot_list ?_)
 refine ć ?_ e1 rfl
 rw[e1]
 refine Calls.spliced_cons ?_
 refine Ť (dJ I hgz hmz PyProof.Rows.boot_zip ?_)
 refine ć (thn (ha pos2 pins s σ H _ I h) λus s1 ⟨vs,H1,I1,r1,q1⟩=>?_) e2 e3
 obtain⟨p,q,xs,ys,rfl,hp,hq,hlen,k⟩:=q1
 obtain⟨u,u2,rfl,rx,ry⟩:=vals2 r1
 cases rx
 cases ry
 obtain⟨its,rv,pl,_⟩:=I1.list hp
 obtain⟨its2,rv2,pl2,_⟩:=I1.list hq
 refine call_zip_2 pl.isList pl2.isList λh' hz hTI hTO hi1 hi2 hsz hk=>?_
 refine Calls.spliced_nil ?_
 have lp:p<s1.heap.objs.size:=by obtain⟨o,e,_⟩:=pl.isList;exact Ï e
 have lq:q<s1.heap.objs.size:=by obtain⟨o,e,_⟩:=pl2.isList;exact Ï e
 have D:=zipApart_new lp lq
 have Z:ZSt (s1.heap.objs.size+4) (s1.heap.objs.size+2) (s1.heap.objs.size+3) s1.heap.objs.size (s1.heap.objs.size+1) p q its.toArray its2.toArray 0 h' :=
  ⟨.inl ⟨rfl,hz⟩,hTI,⟨_,_,hTO⟩,hi1,hi2,pl.isList.at λo e=>hk _ o e,pl2.isList.at λo e=>hk _ o e⟩
 have hl1:=rv.length
 refine HY (s:={ s1 with heap:=h' }) (I1.ok.hd hc) D (by simp;omega) hz Z λh2 acc c2 k2 hS hP hT=>?_
 have lt:∀{b:Addr}{o:Obj},s1.heap.get? b=some o->b<s1.heap.objs.size:=λe=>Ï e
 have kept:∀b o,s1.heap.get? b=some o->h2.get? b=some o:=λb o e=>by
  have l0:=lt e
  have l1:∀j,b≠s1.heap.objs.size+j:=λj=>ä (ì l0 (Nat.le_add_right _ _))
  exact k2 b o (l1 4) (l1 3) (l1 0) (l1 1) (hk b o e)
 have I2:Inv X pins σ H1 { s1 with heap:=h2 }:=I1.kept (t':=s1.toks) kept
 have hsz':h'.objs.size=s1.heap.objs.size+5:=hsz
 obtain⟨H3,ws,I3,s3,v3,p3,N3,u3⟩:=Inv.tuples I1 acc.toList _ _ H1 I2 hP (xP rv rv2) (λv hv=>by
  obtain⟨T,e,hT'⟩:=hT v hv
  have hT'':h'.objs.size<T:=hT'
  exact⟨T,e,by omega⟩) λT hT=>.inl (I1.hok.fresh hT)
 have hSn:H3 h'.objs.size=none:=by
  rw[u3 _ λv hv z=>?_]
  ·exact I1.hok.fresh (by omega)
  ·obtain⟨T,e,hT'⟩:=hT v hv
   rw[z] at e
   cases e
   exact absurd hT' (ċ _)
 have hwl:ws.length<=sizeLine:=by
  have:=v3.length
  have h24:=ą
  have l3:=p3.length
  rw[l3,List.length_zip]
  omega
 have I4:Inv X pins σ (upd H3 h'.objs.size (.lst ws)) { s1 with heap:=h2 }:=I3.Iu I1 (by omega) hSn ⟨hwl,acc.toList,c2,v3,hS⟩
 refine⟨.ref h'.objs.size,_,I4,rfl,k h'.objs.size ws _ (s3.trans λb u e=>by rw[aj (ao e hSn)];exact e) (I1.hok.fresh (by omega)) aq (Paired.GX p3 λw q ⟨t,e,ht⟩=>⟨t,e,by rw[aj (ao ht hSn)];exact ht⟩)⟩
end
end L2
namespace Dl
open PySem L2 PyProof.Rows
variable [Gr]
section
variable {X:Cx}{pos:Pos}{a b c e:Expr}{es:List Expr}{ta tb tc te:DE}{t:DA}
def newP(k:Kd)(ds:List D)(P:Kd->Prop):Prop:=(cu ds=true/\P .new)\/P (k.join .new)
def eF{p:Pn}{H0 Hb H H2:Hp}{own:Addr->Option Nat}(A:At p H0 own Hb H){k:Kd}{vs:List V}{ds:List D}{P:Kd->Prop}{l:Addr}(r:Rps (okK p H0 own Hb k) H2 vs ds)(nw:okK p H0 own Hb .new l)(hl:H2 l=some (.lst vs))(h:newP k ds P):∃k',P k'/\Rp (okK p H0 own Hb k') H2 (.ref l) (.list ds):=by
 rcases h with ⟨i,h⟩|h
 ·exact⟨_,h,.lst nw hl ((Rps.imm r i).mono (λ_ o=>o.elim) (λ_ _ _ e=>e) λ_ _ e=>e)⟩
 ·exact⟨_,h,.lst (cC A (dh k .new).2 nw) hl (r.mono (λa o=>cC A (dh k .new).1 o) (λ_ _ _ e=>e) λ_ _ e=>e)⟩
theorem bA:∀l:List Int,cu (l.map Â)=true
 |[]=>rfl
 |x::l=>by
  show(cL (.int x)&&cu (l.map Â))=true
  rw[bA l]
  rfl
theorem nY:∀l:List Tie,cu (l.map pD)=true
 |[]=>rfl
 |x::l=>by
  show(cL (pD x)&&cu (l.map pD))=true
  rw[nY l]
  rfl
def prD(p:D×D):D:=.tuple [p.1,p.2]
def Vg:GC:=λks P=>match ks with
 |[(k1,.list ds),(k2,.list es)]=>ds.length<=1000/\newP (k1.join k2) ((ds.zip es).map prD) λk=>P k (.list ((ds.zip es).map prD))
 |_=>False
theorem Rps.zip{ok:Addr->Prop}{H H':Hp}(m:∀{v:V}{d:D},Rp ok H v d->Rp ok H' v d):∀{xs ys:List V}{ds es:List D}{ws:List V},Rps ok H xs ds->Rps ok H ys es->Paired (λw (q:V×V)=>∃t,w=.ref t/\H' t=some (.tup [q.1,q.2])) ws (xs.zip ys)->Rps ok H' ws ((ds.zip es).map prD)
 |_,_,_,_,_,.nil,_,p=>by cases p;exact .nil
 |_,_,_,_,_,.cons _ _,.nil,p=>by cases p;exact .nil
 |_,_,_,_,_,.cons h t,.cons h2 t2,p=>by
  cases p with
  |cons r q =>
   obtain⟨t',rfl,ht⟩:=r
   exact .cons (.tup ht (.cons (m h) (.cons (m h2) .nil))) (Rps.zip m t t2 q)
def Bp{p1 p2 pos1 pos2:Pos}(hc:X.calm=true)(hml:X.mg "list"=none)(hmz:X.mg "zip"=none)(ha:PDA X [a,b] t)(hgl:Gl X "list":=by rfl)(hgz:Gl X "zip":=by rfl)(e1:starEach [.Call (.Name "zip" p2) [a,b] [] pos2] X.env=[(false,eval (.Call (.Name "zip" p2) [a,b] [] pos2) X.env)]:=by rfl)(e2:starEach [a,b] X.env=(false,eval a X.env)::starEach [b] X.env:=by rfl)(e3:(backTo pos2 (starEach [b] X.env)).any (·.1)=false:=by rfl) :
  PD X (.Call (.Name "list" p1) [.Call (.Name "zip" p2) [a,b] [] pos2] [] pos1) (tCl Vg t):=PE.wk (Bj hc hgl hml hgz hmz ha e1 e2 e3) (by
 rintro σ H Q ⟨p,H0,own,ρ,P,E,t,q⟩
 refine⟨p,H0,own,ρ,_,E,t,λks vs H1 h A r=>?_⟩
 unfold Vg at h
 split at h
 ·rename_i k1 ds k2 es'
  obtain⟨v,w,rfl,r1,r2⟩:=Jh r
  obtain⟨x,xs,e1,o1,h1,rs1⟩:=Rp.aX r1
  obtain⟨y,ys,e2,o2,h2,rs2⟩:=Rp.aX r2
  subst e1 e2
  refine⟨x,y,xs,ys,rfl,SqL.of h1,SqL.of h2,by rw[rs1.length];exact h.1,λl ws H' sm hl hl' hp=>?_⟩
  have K:Kp p H1 H':=Kp.of sm
  have i2:p.PI H':=p.mono H1 H' A.pen λb o _ e=>sm b o e
  have j2:=dh k1 k2
  have m1:∀{k:Kd},k.le (k1.join k2)=true->∀{vs ds},Rps (okK p H0 own H k) H1 vs ds->Rps (okK p H0 own H (k1.join k2)) H1 vs ds:=λhk _ _ z=>z.mono (λa o=>cC A hk o) (λ_ _ _ e=>e) λ_ _ e=>e
  obtain⟨k',hk',rk'⟩:=eF A (Rps.zip (λz=>gM A K z) (m1 j2.1 rs1) (m1 j2.2 rs2) hp) (A.free hl) hl' h.2
  exact q _ _ _ _ hk' (A.go K i2) rk'
 ·exact h.elim)
def tCh(f g:Int->Int->Bool)(ta tb tc:DE):DE:=λρ P=>ta ρ λ_ d1=>tb ρ λ_ d2=>match d1,d2 with
 |.int i,.int j=>if f i j=true then tc ρ λ_ d3=>(match d3 with
   |.int l=>P .imm (.bool (g j l))
   |_=>False) else P .imm (.bool false)
 |_,_=>False
def Fb{f g:Int->Int->Bool}:∀σ H Q,aV (tCh f g ta tb tc) σ H Q->qC (rI0 λi j=>.bl (f i j)) (rI0 λi j=>.bl (g i j)) (aV ta) (aV tb) (aV tc) σ H Q:=by
 rintro σ H Q ⟨p,H0,own,ρ,P,E,t,q⟩
 refine⟨p,H0,own,ρ,_,E,t,λk1 d1 v1 H1 t1 A1 r1=>?_⟩
 refine⟨p,H0,own,ρ,_,E.go A1.kp A1.pen,t1,λk2 d2 v2 H2 t2 A2 r2=>?_⟩
 have A:=A1.base A2
 split at t2
 ·rename_i i j
  refine⟨i,j,r1.int',r2.int',_,rfl,?_⟩
  cases hf:f i j with
  |true =>
   rw[hf,if_pos rfl] at t2
   refine aA ⟨p,H0,own,ρ,_,(E.go A1.kp A1.pen).go A2.kp A2.pen,t2,λk3 d3 v3 H3 t3 A3 r3=>?_⟩
   cases d3 with
   |int l=>exact⟨j,l,r2.int',r3.int',q _ _ _ _ t3 (A.base A3) (.bl _)⟩
   |_=>exact t3.elim
  |false =>
   rw[hf,if_neg Ó] at t2
   exact aC (q _ _ _ _ t2 A (.bl _))
 ·exact t2.elim
def Nm(ha:PD X a ta)(hb:PD X b tb)(hc:PD X c tc)(hm:lastMarks [.LtE,.Lt] [b,c]=false:=by with_unfolding_all rfl):PD X (.Compare a [.LtE,.Lt] [b,c] pos) (tCh (λi j=>decide (i<=j)) (λi j=>decide (i<j)) ta tb tc):=PE.wk (JF JL yC ha hb hc hm) Fb
def jw{op op':CmpOp}{r r':R2}{g:DE}(h:PT X (.Compare a [op,op'] [b,c] pos) (Iz (qC r r' (aV ta) (aV tb) (aV tc))))(w:∀σ H Q,aV g σ H Q->qC r r' (aV ta) (aV tb) (aV tc) σ H Q):PDT X (.Compare a [op,op'] [b,c] pos) (cJ g) :=
 PT.wk h λσ H Q q=>w σ H _ (su σ H Q q)
def Pz(ta:DE):DE:=λρ P=>ta ρ λ_ d=>match d with
 |.bool b=>P .imm (.bool (!b))
 |_=>False
theorem vN(ha:PD X a ta):PD X (.UnaryOp .Not a pos) (Pz ta):=PE.wk (RD ha) (by
 rintro σ H Q ⟨p,H0,own,ρ,P,E,t,q⟩
 refine⟨p,H0,own,ρ,_,E,t,λk d v H' h A r=>?_⟩
 cases d with
 |bool b=>exact⟨b,r.bl',q _ _ _ _ h A (.bl _)⟩
 |_=>exact h.elim)
def DN(ta tb:DE):DE:=λρ P=>ta ρ λ_ d=>match d with
 |.bool b=>if b=true then tb ρ P else P .imm (.bool false)
 |_=>False
def T8(ta tb:DE):DE:=λρ P=>ta ρ λ_ d=>match d with
 |.bool b=>if b=true then P .imm (.bool true) else tb ρ P
 |_=>False
def rA{op}(h:PD X a ta):PD X (.BoolOp op [a] pos) ta:=RB h
theorem rE{rest:List Expr}(ha:PD X a ta)(hb:PD X (.BoolOp .And (b::rest) pos) tb):PD X (.BoolOp .And (a::b::rest) pos) (DN ta tb):=PE.wk (RL ha hb) (by
 rintro σ H Q ⟨p,H0,own,ρ,P,E,t,q⟩
 refine⟨p,H0,own,ρ,_,E,t,λk d v H' h A r=>?_⟩
 cases d with
 |bool b =>
  refine⟨b,r.bl',?_⟩
  cases b with
  |true=>exact aA ⟨p,H0,own,ρ,P,E.go A.kp A.pen,by simpa using h,λk d v H2 h2 A2 r2=>q k d v H2 h2 (A.base A2) (kZ A r2)⟩
  |false=>exact aC (q _ _ _ _ (by simpa using h) A (.bl _))
 |_=>exact h.elim)
theorem yx{rest:List Expr}(ha:PD X a ta)(hb:PD X (.BoolOp .Or (b::rest) pos) tb):PD X (.BoolOp .Or (a::b::rest) pos) (T8 ta tb):=PE.wk (Ux ha hb) (by
 rintro σ H Q ⟨p,H0,own,ρ,P,E,t,q⟩
 refine⟨p,H0,own,ρ,_,E,t,λk d v H' h A r=>?_⟩
 cases d with
 |bool b =>
  refine⟨b,r.bl',?_⟩
  cases b with
  |true=>exact aA (q _ _ _ _ (by simpa using h) A (.bl _))
  |false=>exact aC ⟨p,H0,own,ρ,P,E.go A.kp A.pen,by simpa using h,λk d v H2 h2 A2 r2=>q k d v H2 h2 (A.base A2) (kZ A r2)⟩
 |_=>exact h.elim)
def tyD:D->String
 |.none=>"NoneType"
 |.bool _=>"bool"
 |.int _=>"int"
 |.str _=>"str"
 |.list _=>"list"
 |.tuple _=>"tuple"
 |.dict _=>"dict"
def isT(c:String)(d:D):Bool:=tyD d == c || (c == "int"&&tyD d == "bool")
def tIs(c:String)(te:DE):DE:=λρ P=>te ρ λ_ d=>P .imm (.bool (isT c d))
def fH{T:String}{x:Str}{ps pt:Pos}(hk:∀t:Value,(t=.type "NoneType"\/t=.type "bool"\/t=.type "int"\/t=.type "str"\/t=.type "list"\/t=.type "tuple"\/t=.type "dict")->∃n,t=.type n/\W.kitOne X.K t (.type T)=some (n == T || (T == "int"&&n == "bool")))(hm:X.mg "isinstance"=none)(he:PD X e te)(hT:PE X (.Name x pt) (tC (.ty T)))(hg:Gl X "isinstance":=by rfl)(h1:starEach [e,.Name x pt] X.env=(false,eval e X.env)::starEach [.Name x pt] X.env:=by rfl)(h2:starEach [.Name x pt] X.env=(false,eval (.Name x pt) X.env)::starEach [] X.env:=by rfl)(hpl:(backTo pos (starEach [.Name x pt] X.env)).any (·.1)=false:=by rfl) :
  PD X (.Call (.Name "isinstance" ps) [e,.Name x pt] [] pos) (tIs T te):=PE.wk (cO w5 hg hm boot_isinstance (bJ he (bJ hT dZ h2) h1) (by decide) (by decide) h1 hpl) (by
 rintro σ H Q ⟨p,H0,own,ρ,P,E,t,q⟩
 refine⟨p,H0,own,ρ,_,E,t,λk d v H' h A r=>?_⟩
 have fin:∀n,TyOf X.K H' v (.type n)->n=tyD d->∃x' c' t' b,[v,V.ty T]=[x',.ty c']/\TyOf X.K H' x' t'/\W.kitOne X.K t' (.type c')=some b/\Q (.bl b) H':=λn ty en=>by
  obtain⟨n',e,hk'⟩:=hk (.type n) (by rw[en];cases d <;> simp[tyD])
  cases e
  refine⟨v,T,.type n,_,rfl,ty,hk',?_⟩
  rw[en]
  exact q _ _ _ _ h A (.bl _)
 show ∃x' c' t' b,_/\_
 cases r with
 |non=>exact fin _ .non rfl
 |bl b=>exact fin _ (.bl b) rfl
 |int i=>exact fin _ (.int i) rfl
 |str x=>exact fin _ (.str x) rfl
 |lst o hh rr=>exact fin _ (.lst hh) rfl
 |tup hh rr=>exact fin _ (.tup hh) rfl
 |dct o hh rr=>exact fin _ (.dK hh) rfl)
def Fo{K:Ý}:∀t:Value,(t=.type "NoneType"\/t=.type "bool"\/t=.type "int"\/t=.type "str"\/t=.type "list"\/t=.type "tuple"\/t=.type "dict")->∃n,t=.type n/\W.kitOne K t (.type "int")=some (n == "int" || ("int" == "int"&&n == "bool")):=by
 rintro t (rfl|rfl|rfl|rfl|rfl|rfl|rfl) <;> exact⟨_,rfl,rfl⟩
def sG{K:Ý}:∀t:Value,(t=.type "NoneType"\/t=.type "bool"\/t=.type "int"\/t=.type "str"\/t=.type "list"\/t=.type "tuple"\/t=.type "dict")->∃n,t=.type n/\W.kitOne K t (.type "bool")=some (n == "bool" || ("bool" == "int"&&n == "bool")):=by
 rintro t (rfl|rfl|rfl|rfl|rfl|rfl|rfl) <;> exact⟨_,rfl,rfl⟩
def mj{K:Ý}:∀t:Value,(t=.type "NoneType"\/t=.type "bool"\/t=.type "int"\/t=.type "str"\/t=.type "list"\/t=.type "tuple"\/t=.type "dict")->∃n,t=.type n/\W.kitOne K t (.type "list")=some (n == "list" || ("list" == "int"&&n == "bool")):=by
 rintro t (rfl|rfl|rfl|rfl|rfl|rfl|rfl) <;> exact⟨_,rfl,rfl⟩
def kit_tuple{K:Ý}:∀t:Value,(t=.type "NoneType"\/t=.type "bool"\/t=.type "int"\/t=.type "str"\/t=.type "list"\/t=.type "tuple"\/t=.type "dict")->∃n,t=.type n/\W.kitOne K t (.type "tuple")=some (n == "tuple" || ("tuple" == "int"&&n == "bool")):=by
 rintro t (rfl|rfl|rfl|rfl|rfl|rfl|rfl) <;> exact⟨_,rfl,rfl⟩
def Fl{K:Ý}:∀t:Value,(t=.type "NoneType"\/t=.type "bool"\/t=.type "int"\/t=.type "str"\/t=.type "list"\/t=.type "tuple"\/t=.type "dict")->∃n,t=.type n/\W.kitOne K t (.type "str")=some (n == "str" || ("str" == "int"&&n == "bool")):=by
 rintro t (rfl|rfl|rfl|rfl|rfl|rfl|rfl) <;> exact⟨_,rfl,rfl⟩
def S9:GC:=λks P=>match ks with
 |[(_,.list ds)]=>∃bs:List Bool,ds=bs.map PyData.bool/\P .imm (.bool (bs.all id))
 |_=>False
theorem Rps.bools{ok:Addr->Prop}{H:Hp}:∀{vs:List V}{bs:List Bool},Rps ok H vs (bs.map PyData.bool)->vs=bs.map V.bl
 |[],[],_=>rfl
 |_,b::bs,.cons h t=>by
  have e:=h.bl'
  subst e
  rw[Rps.bools t]
  rfl
def nC{ps:Pos}(hc:X.calm=true)(hm:X.mg "all"=none)(hv:bootBuiltins "all"=some (.builtin "all"))(ha:PDA X [a] t)(hg:Gl X "all":=by rfl)(he:zS X a []:=by rfl)(hpl:zP X pos []:=by rfl):PD X (.Call (.Name "all" ps) [a] [] pos) (tCl S9 t) :=
 bT (HF hc) (by
  intro p H0 own Hb H vs ks P Q A r t q
  unfold S9 at t
  split at t
  ·obtain⟨bs,rfl,t⟩:=t
   obtain⟨v,rfl,r'⟩:=cj r
   obtain⟨x,xs,e1,o1,h1,rs1⟩:=Rp.aX r'
   subst e1
   have e2:=Rps.bools rs1
   subst e2
   exact⟨x,bs,rfl,SqL.of h1,q _ _ _ _ t Kp.refl A.pen (.bl _)⟩
  ·exact t.elim) hg hm hv ha (by decide) (by decide) he hpl
def gMM(f:Int->Int->Int):GC:=λks P=>match ks with
 |[(_,.int i),(_,.int j)]=>P .imm (.int (f i j))
 |_=>False
def pZ{ps:Pos}(hc:X.calm=true)(hm:X.mg "max"=none)(ha:PDA X [a,b] t)(hg:Gl X "max":=by rfl)(he:starEach [a,b] X.env=(false,eval a X.env)::starEach [b] X.env:=by rfl)(hpl:(backTo pos (starEach [b] X.env)).any (·.1)=false:=by rfl):PD X (.Call (.Name "max" ps) [a,b] [] pos) (tCl (gMM λi j=>if j > i then j else i) t) :=
 bT (Hz hc) (by
  intro p H0 own Hb H vs ks P Q A r t q
  unfold gMM at t
  split at t
  ·rename_i k i k' j
   obtain⟨v,w,rfl,r1,r2⟩:=Jh r
   rw[Rp.int' r1,Rp.int' r2]
   exact⟨i,j,rfl,q _ _ _ _ t Kp.refl A.pen (.int _)⟩
  ·exact t.elim) hg hm boot_max ha (by decide) (by decide) he hpl
def Oq:GC:=λks P=>match ks with
 |[(k,.list ds)]=>newP k ds λk'=>P k' (.list ds)
 |[(k,.tuple ds)]=>newP k ds λk'=>P k' (.list ds)
 |_=>False
def p7{ps:Pos}(hm:X.mg "list"=none)(ha:PDA X [a] t)(hg:Gl X "list":=by rfl)(he:zS X a []:=by rfl)(hpl:zP X pos []:=by rfl):PD X (.Call (.Name "list" ps) [a] [] pos) (tCl Oq t) :=
 iI wZ (by
  intro p H0 own Hb H vs ks P Q A r t q
  have fin:∀{k ds xs},Rps (okK p H0 own Hb k) H xs ds->newP k ds (λk'=>P k' (.list ds))->∀l,H l=none->Q (.ref l) (upd H l (.lst xs)):=λ{k ds xs} rs t l hl=>by
   obtain⟨k2,i2,nw⟩:=A.new hl (.lst xs)
   obtain⟨k',hk',rk'⟩:=eF A (bR A k2 rs) nw aq t
   exact q _ _ _ _ hk' k2 i2 rk'
  unfold Oq at t
  split at t
  ·obtain⟨v,rfl,r'⟩:=cj r
   obtain⟨x,xs,e1,o1,h1,rs1⟩:=Rp.aX r'
   subst e1
   exact⟨x,xs,rfl,.inl (SqL.of h1),fin rs1 t⟩
  ·obtain⟨v,rfl,r'⟩:=cj r
   obtain⟨x,xs,e1,h1,rs1⟩:=Rp.dG r'
   subst e1
   exact⟨x,xs,rfl,.inr (SqT.of h1),fin rs1 t⟩
  ·exact t.elim) hg hm boot_list ha (by decide) (by decide) he hpl
def Kw:GC:=λks P=>match ks with
 |[(k,.list ds)]=>P (norm k (.tuple ds)) (.tuple ds)
 |[(k,.tuple ds)]=>P (norm k (.tuple ds)) (.tuple ds)
 |_=>False
def jy{ps:Pos}(hm:X.mg "tuple"=none)(ha:PDA X [a] t)(hg:Gl X "tuple":=by rfl)(he:zS X a []:=by rfl)(hpl:zP X pos []:=by rfl):PD X (.Call (.Name "tuple" ps) [a] [] pos) (tCl Kw t) :=
 iI uc (by
  intro p H0 own Hb H vs ks P Q A r t q
  unfold Kw at t
  split at t
  ·rename_i k ds
   obtain⟨v,rfl,r'⟩:=cj r
   obtain⟨x,xs,e1,o1,h1,rs1⟩:=Rp.aX r'
   subst e1
   refine⟨x,xs,rfl,.inl ⟨SqL.of h1,λl hl=>?_⟩⟩
   obtain⟨k2,i2,nw⟩:=A.new hl (.tup xs)
   exact q _ _ _ _ t k2 i2 (bx (.tup aq (bR A k2 rs1)))
  ·rename_i k ds
   obtain⟨v,rfl,r'⟩:=cj r
   obtain⟨x,xs,e1,h1,rs1⟩:=Rp.dG r'
   subst e1
   exact⟨x,xs,rfl,.inr ⟨SqT.of h1,q _ _ _ _ t Kp.refl A.pen (bx r')⟩⟩
  ·exact t.elim) hg hm boot_tuple ha (by decide) (by decide) he hpl
def Cq:GC:=λks P=>match ks with
 |[(_,.list ds)]=>∃ns:List Int,ds=ns.map Â/\ns.length<64/\∀out:List Int,out.Perm ns->out.Pairwise (·<=·)->P .new (.list (out.map Â))
 |_=>False
def fD{ps:Pos}(hm:X.mg "sorted"=none)(ha:PDA X [a] t)(hg:Gl X "sorted":=by rfl)(he:zS X a []:=by rfl)(hpl:zP X pos []:=by rfl):PD X (.Call (.Name "sorted" ps) [a] [] pos) (tCl Cq t) :=
 bT wX (by
  intro p H0 own Hb H vs ks P Q A r t q
  unfold Cq at t
  split at t
  ·obtain⟨ns,rfl,hl,t⟩:=t
   obtain⟨v,rfl,r'⟩:=cj r
   obtain⟨x,xs,e1,o1,h1,rs1⟩:=Rp.aX r'
   subst e1
   have e2:=Rps.ints rs1
   subst e2
   refine⟨x,ns,rfl,SqL.of h1,hl,λl out hl' hp hs=>?_⟩
   obtain⟨k2,i2,nw⟩:=A.new hl' (.lst (out.map V.int))
   exact q _ _ _ _ (t out hp hs) k2 i2 (.lst nw aq (Rps.ofMap (λi=>.int i) out))
  ·exact t.elim) hg hm boot_sorted ha (by decide) (by decide) he hpl
def Cp:GC:=λks P=>match ks with
 |[(_,d)]=>∃ts:List Tie,(d=.list (ts.map pD)\/d=.tuple (ts.map pD))/\ts.length<64/\(∀t∈ts,Af t)/\∀us:List Tie,us.Perm ts->us.Pairwise (λa b=>aR a<=aR b)->P .new (.list (us.map pD))
 |_=>False
theorem Rps.prs{ok:Addr->Prop}{H:Hp}:∀{vs:List V}{ts:List Tie},Rps ok H vs (ts.map pD)->Prs H vs ts
 |[],[],_=>.nil
 |_,t::ts,.cons h r=>by
  obtain⟨x,xs,e,hx,rs⟩:=Rp.dG h
  obtain⟨v1,v2,e2,q1,q2⟩:=Rps.two rs
  subst e e2
  rw[q1.int',q2.int'] at hx
  exact .cons ⟨x,rfl,hx⟩ (Rps.prs r)
theorem Prs.rps{ok:Addr->Prop}{H:Hp}:∀{vs:List V}{ts:List Tie},Prs H vs ts->Rps ok H vs (ts.map pD)
 |_,_,.nil=>.nil
 |_,_,.cons r t=>by
  obtain⟨x,e,hx⟩:=r
  subst e
  exact .cons (.tup hx (.cons (.int _) (.cons (.int _) .nil))) (Prs.rps t)
def q9{ps:Pos}(hm:X.mg "sorted"=none)(ha:PDA X [a] t)(hg:Gl X "sorted":=by rfl)(he:zS X a []:=by rfl)(hpl:zP X pos []:=by rfl):PD X (.Call (.Name "sorted" ps) [a] [] pos) (tCl Cp t) :=
 bT wW (by
  intro p H0 own Hb H vs ks P Q A r t q
  unfold Cp at t
  split at t
  ·obtain⟨ts,hd,hl,hn,t⟩:=t
   obtain⟨v,rfl,r'⟩:=cj r
   have fin:∀l ws us,H l=none->Prs H ws us->us.Perm ts->us.Pairwise (λa b=>aR a<=aR b)->Q (.ref l) (upd H l (.lst ws)):=λl ws us hl' pr hp hs=>by
    obtain⟨k2,i2,nw⟩:=A.new hl' (.lst ws)
    exact q _ _ _ _ (t us hp hs) k2 i2 (.lst nw aq (bR A k2 (Prs.rps pr)))
   rcases hd with rfl|rfl
   ·obtain⟨x,xs,e1,o1,h1,rs1⟩:=Rp.aX r'
    subst e1
    exact⟨x,xs,ts,rfl,.inl (SqL.of h1),Rps.prs rs1,hn,.inl hl,fin⟩
   ·obtain⟨x,xs,e1,h1,rs1⟩:=Rp.dG r'
    subst e1
    exact⟨x,xs,ts,rfl,.inr (SqT.of h1),Rps.prs rs1,hn,.inl hl,fin⟩
  ·exact t.elim) hg hm boot_sorted ha (by decide) (by decide) he hpl
end
variable [Gr]
section
variable {X:Cx}{pins:List (Addr×Obj)}{σ:L2.St}{H:Hp}{s:Shared}{ok:Addr->Prop}
mutual
theorem Rp.reads(I:Inv X pins σ H s):∀{v:V}{d:D}{u:Value},Rp ok H v d->RelV v u->d.canLay0=true->∃as,Reads s.heap u d as
 |_,_,_,.non,r,_=>by cases r;exact⟨_,.none⟩
 |_,_,_,.bl b,r,_=>by cases r;exact⟨_,.bool b⟩
 |_,_,_,.int i,r,_=>by obtain⟨t,rfl⟩:=r;exact⟨_,.int i t⟩
 |_,_,_,.str x,r,_=>by obtain⟨t,rfl⟩:=r;exact⟨_,.str x t⟩
 |_,_,_,.lst o h rs,r,c=>by
  cases r
  obtain⟨its,rv,pl,_⟩:=I.list (SqL.of h)
  obtain⟨as,ra⟩:=Rps.reads I rs rv (by simpa[PyData.canLay0] using c)
  obtain⟨ob,ho,hc,n,hd⟩:=pl.isList
  exact⟨_,.list ho hc hd (by simpa using ra)⟩
 |_,_,_,.tup h rs,r,c=>by
  cases r
  obtain⟨its,rv,pl,_⟩:=I.tuple (SqT.of h)
  obtain⟨as,ra⟩:=Rps.reads I rs rv (by simpa[PyData.canLay0] using c)
  obtain⟨ob,ho,hc,n,hd⟩:=pl
  exact⟨_,.tuple ho hc hd (by simpa using ra)⟩
 |_,_,_,.dct o h rs,r,c=>by simp[PyData.canLay0] at c
theorem Rps.reads(I:Inv X pins σ H s):∀{v:List V}{d:List D}{u:List Value},Rps ok H v d->Vals v u->Ĉ d=true->∃as,ReadsAll s.heap u d as
 |_,_,_,.nil,r,_=>by cases r;exact⟨[],.nil⟩
 |_,_,_,.cons h t,r,c=>by
  cases r with
  |cons a b =>
   simp only[Ĉ,Õ] at c
   obtain⟨as,ra⟩:=Rp.reads I h a c.1
   obtain⟨bs,rb⟩:=Rps.reads I t b c.2
   exact⟨_,.cons ra rb⟩
end
end
def okD(d:D):Bool:=d.canLay0&&decide (d.depth<=60)
section
variable {X:Cx}{pos:Pos}{a b e:Expr}{ta tb te:DE}
def Jp(K:Ý)(neg:Bool):R2:=λx y H Q=>∃ok ok' d e,Rp ok H x d/\Rp ok' H y e/\okD d=true/\okD e=true/\Q (.bl (if neg then !(á d e) else á d e)) H
def JN(hu:X.A.units+64<cLine):OpR X (compareOp .Eq) (Jp X.K false):=by
 intro pins s σ H x y v u Q I rx ry h
 obtain⟨ok,ok',d,e,hd,he,cd,ce,q⟩:=h
 simp only[okD,Õ,decide_eq_true_eq] at cd ce
 obtain⟨as,ra⟩:=hd.reads I rx cd.1
 obtain⟨bs,rb⟩:=he.reads I ry ce.1
 exact SeqAt.compareEq_reads ra rb cd.1 ce.1 (by omega) ⟨.bl _,H,I,rfl,q⟩
def RV(hu:X.A.units+64<cLine):OpR X (compareOp .NotEq) (Jp X.K true):=by
 intro pins s σ H x y v u Q I rx ry h
 obtain⟨ok,ok',d,e,hd,he,cd,ce,q⟩:=h
 simp only[okD,Õ,decide_eq_true_eq] at cd ce
 obtain⟨as,ra⟩:=hd.reads I rx cd.1
 obtain⟨bs,rb⟩:=he.reads I ry ce.1
 exact SeqAt.compareNe_reads ra rb cd.1 ce.1 (by omega) ⟨.bl _,H,I,rfl,q⟩
def Vi(neg:Bool):G2:=λ_ d1 _ d2 P=>okD d1=true/\okD d2=true/\P .imm (.bool (if neg then !(á d1 d2) else á d1 d2))
def Qf{K:Ý}(neg:Bool):Ok2 (Vi neg) (Jp K neg):=by
 intro p H0 own Hb H x y k1 d1 k2 d2 P Q A r1 r2 t q
 exact⟨_,_,d1,d2,r1,r2,t.1,t.2.1,q _ _ _ _ t.2.2 Kp.refl A.pen (.bl _)⟩
def eqP(x:D)(h:Heap)(u:Value):Bool:=by
 classical
 exact decide (∃d as,Reads h u d as/\á d x=true)
def Rf(neg:Bool):R2:=λx y H Q=>∃ok ok' d es,Rp ok H x d/\(Rp ok' H y (.list es)\/Rp ok' H y (.tuple es))/\okD d=true/\(es.all okD)=true/\Q (.bl (if neg then !(es.any λe=>á e d) else es.any λe=>á e d)) H
def K9{x:D}{h:Heap}{u:Value}{d:D}{as:List Addr}(r:Reads h u d as):eqP x h u=á d x:=by
 classical
 unfold eqP
 rw[ĕ,decide_eq_true_eq]
 constructor
 ·rintro⟨d',as',r',e⟩
  rw[(r.unique d' as' r').1]
  exact e
 ·exact λe=>⟨d,as,r,e⟩
theorem mV{x:D}{h:Heap}:∀{us:List Value}{ds:List D}{as:List Addr},ReadsAll h us ds as->us.any (eqP x h)=ds.any λe=>á e x
 |_,_,_,.nil=>rfl
 |_,_,_,.cons a b=>by
  rw[ũ,ũ,K9 a,mV b]
theorem lW{A:Around}{s:Shared}{x:D}{v:Value}{bs:List Addr}(rx:Reads s.heap v x bs)(cx:okD x=true)(hu:A.units+60<cLine):∀{us:List Value}{ds:List D}{as:List Addr},ReadsAll s.heap us ds as->ds.all okD=true->∀u∈us,SeqAt.EqAt A s u v (eqP x s.heap u)
 |_,_,_,.nil,_,u,hu'=>nomatch hu'
 |_,d::ds,_,.cons a b,c,u,hu'=>by
  simp only[Ū,Õ] at c
  rcases Ü.mp hu' with rfl|hu'
  ·rw[K9 a]
   have c1:=c.1
   simp only[okD,Õ,decide_eq_true_eq] at c1 cx
   exact SeqAt.eqAt_reads _ _ A s _ _ _ _ a rx c1.1 cx.1 (by omega)
  ·exact lW rx cx hu b c.2 u hu'
def mq{A:Around}(hu:A.units+64<cLine):A.in1.units+60<cLine:=by
 have:A.in1.units<=A.units+1:=by first|exact Ô _|exact Ň _|(unfold Around.in1;simp)
 omega
theorem eV:∀{es:List D},es.all okD=true->Ĉ es=true
 |[],_=>rfl
 |e::es,h=>by
  simp only[Ū,Õ,okD] at h
  simp only[Ĉ,Õ]
  exact⟨h.1.1,eV h.2⟩
def JM(hu:X.A.units+64<cLine):OpR X (compareOp .In) (Rf false):=by
 intro pins s σ H x y v u Q I rx ry h
 obtain⟨ok,ok',d,es,hd,hs,cd,ce,q⟩:=h
 have cd':=cd
 simp only[okD,Õ,decide_eq_true_eq] at cd'
 obtain⟨bs,rb⟩:=hd.reads I rx cd'.1
 rcases hs with hs|hs
 ·obtain⟨c,vs,rfl,o,hc,rs⟩:=hs.aX
  cases ry
  obtain⟨its,r,pl,hz⟩:=I.list (SqL.of hc)
  obtain⟨as,ra⟩:=rs.reads I r (eV ce)
  refine SeqAt.in_listAt (eqP d s.heap) pl.isList (λw hw=>lW rb cd (mq hu) ra ce w (by simpa using hw)) ⟨.bl _,H,I,rfl,?_⟩
  rw[show its.toArray.any (eqP d s.heap)=its.any (eqP d s.heap) by simp,mV ra]
  exact q
 ·obtain⟨c,vs,rfl,hc,rs⟩:=hs.dG
  cases ry
  obtain⟨its,r,pl,hz⟩:=I.tuple (SqT.of hc)
  obtain⟨as,ra⟩:=rs.reads I r (eV ce)
  refine SeqAt.in_tupleAt (eqP d s.heap) pl (λw hw=>lW rb cd (mq hu) ra ce w (by simpa using hw)) ⟨.bl _,H,I,rfl,?_⟩
  rw[show its.toArray.any (eqP d s.heap)=its.any (eqP d s.heap) by simp,mV ra]
  exact q
def uH(hu:X.A.units+64<cLine):OpR X (compareOp .NotIn) (Rf true):=by
 intro pins s σ H x y v u Q I rx ry h
 obtain⟨ok,ok',d,es,hd,hs,cd,ce,q⟩:=h
 have cd':=cd
 simp only[okD,Õ,decide_eq_true_eq] at cd'
 obtain⟨bs,rb⟩:=hd.reads I rx cd'.1
 rcases hs with hs|hs
 ·obtain⟨c,vs,rfl,o,hc,rs⟩:=hs.aX
  cases ry
  obtain⟨its,r,pl,hz⟩:=I.list (SqL.of hc)
  obtain⟨as,ra⟩:=rs.reads I r (eV ce)
  refine SeqAt.notIn_listAt (eqP d s.heap) pl.isList (λw hw=>lW rb cd (mq hu) ra ce w (by simpa using hw)) ⟨.bl _,H,I,rfl,?_⟩
  rw[show its.toArray.any (eqP d s.heap)=its.any (eqP d s.heap) by simp,mV ra]
  exact q
 ·obtain⟨c,vs,rfl,hc,rs⟩:=hs.dG
  cases ry
  obtain⟨its,r,pl,hz⟩:=I.tuple (SqT.of hc)
  obtain⟨as,ra⟩:=rs.reads I r (eV ce)
  refine SeqAt.notIn_tupleAt (eqP d s.heap) pl (λw hw=>lW rb cd (mq hu) ra ce w (by simpa using hw)) ⟨.bl _,H,I,rfl,?_⟩
  rw[show its.toArray.any (eqP d s.heap)=its.any (eqP d s.heap) by simp,mV ra]
  exact q
def gIn(neg:Bool):G2:=λ_ d1 _ d2 P=>match d2 with
 |.list es=>okD d1=true/\es.all okD=true/\P .imm (.bool (if neg then !(es.any λe=>á e d1) else es.any λe=>á e d1))
 |.tuple es=>okD d1=true/\es.all okD=true/\P .imm (.bool (if neg then !(es.any λe=>á e d1) else es.any λe=>á e d1))
 |_=>False
def okIn(neg:Bool):Ok2 (gIn neg) (Rf neg):=by
 intro p H0 own Hb H x y k1 d1 k2 d2 P Q A r1 r2 t q
 cases d2 with
 |list es=>exact⟨_,_,d1,es,r1,.inl r2,t.1,t.2.1,q _ _ _ _ t.2.2 Kp.refl A.pen (.bl _)⟩
 |tuple es=>exact⟨_,_,d1,es,r1,.inr r2,t.1,t.2.1,q _ _ _ _ t.2.2 Kp.refl A.pen (.bl _)⟩
 |_=>exact t.elim
def uG(hu:X.A.units+64<cLine)(ha:PD X a ta)(hb:PD X b tb)(hm:behindInMarks .In b=false:=by rfl):PD X (.Compare a [.In] [b] pos) (t2 (gIn false) ta tb):=vV (JM hu) (okIn false) ha hb hm
def fG(hu:X.A.units+64<cLine)(ha:PD X a ta)(hb:PD X b tb)(hm:behindInMarks .NotIn b=false:=by rfl):PD X (.Compare a [.NotIn] [b] pos) (t2 (gIn true) ta tb):=vV (uH hu) (okIn true) ha hb hm
def jY(hu:X.A.units+64<cLine)(ha:PD X a ta)(hb:PD X b tb)(hm:behindInMarks .In b=false:=by rfl):PDT X (.Compare a [.In] [b] pos) (cJ (t2 (gIn false) ta tb)):=dg (JM hu) (okIn false) ha hb hm
def nA(hu:X.A.units+64<cLine)(ha:PD X a ta)(hb:PD X b tb)(hm:behindInMarks .NotIn b=false:=by rfl):PDT X (.Compare a [.NotIn] [b] pos) (cJ (t2 (gIn true) ta tb)):=dg (uH hu) (okIn true) ha hb hm
end
variable [Gr]
section
variable {X:Cx}{pos p2:Pos}{a b c e:Expr}{es:List Expr}{ta tb tc te:DE}{t:DA}{st:Stmt}
abbrev DO:=List Sl->(Option Int->Prop)->Prop
def sy(t:DO):TO:=λσ H Q=>∃p H0 own ρ P,EnvD p H0 own σ H ρ/\t ρ P/\∀o H',P o->At p H0 own H H'->Q o H'
def PO.wk{e:Option Expr}{t t':TO}(h:PO X e t)(w:∀σ H Q,t' σ H Q->t σ H Q):PO X e t':=λpins s σ H Q I q=>h pins s σ H Q I (w σ H Q q)
def Qj:DO:=λ_ P=>P none
def Qi(te:DE):DO:=λρ P=>te ρ λ_ d=>match d with
 |.int i=>P (some i)
 |_=>False
def cR:PO X none (sy Qj):=PO.wk M6 (by
 rintro σ H Q ⟨p,H0,own,ρ,P,E,t,q⟩
 exact q _ _ t E.at)
theorem bY(h:PD X e te):PO X (some e) (sy (Qi te)):=PO.wk (M5 h) (by
 rintro σ H Q ⟨p,H0,own,ρ,P,E,t,q⟩
 refine⟨p,H0,own,ρ,_,E,t,λk d v H' h A r=>?_⟩
 cases d with
 |int i=>exact⟨i,r.int',q _ _ h A⟩
 |_=>exact h.elim)
def cU{α:Type}(ds:List α)(lo hi:Option Int):List α:=(ds.drop (HT.sIx ds.length 0 lo)).take (HT.sIx ds.length ds.length hi - HT.sIx ds.length 0 lo)
def Rps.cut{ok:Addr->Prop}{H:Hp}{vs:List V}{ds:List D}(r:Rps ok H vs ds)(lo hi:Option Int):Rps ok H (sZ vs lo hi) (cU ds lo hi):=by
 unfold sZ cU
 rw[r.length]
 exact(r.drop _).take _
def V1(te:DE)(tl th:DO):DE:=λρ P=>te ρ λk d=>tl ρ λlo=>th ρ λhi=>match d with
 |.list ds=>newP k (cU ds lo hi) λk'=>P k' (.list (cU ds lo hi))
 |_=>False
theorem JG{lo hi:Option Expr}{tl th:DO}(he:PD X e te)(hl:PO X lo (sy tl))(hh:PO X hi (sy th)):PD X (.Subscript e (.Slice lo hi none p2) pos) (V1 te tl th):=PE.wk (yu Eb he hl hh) (by
 rintro σ H Q ⟨p,H0,own,ρ,P,E,t,q⟩
 refine⟨p,H0,own,ρ,_,E,t,λk d v H1 h A r=>?_⟩
 refine⟨p,H0,own,ρ,_,E.go A.kp A.pen,h,λo1 H2 h2 A2=>?_⟩
 refine⟨p,H0,own,ρ,_,(E.go A.kp A.pen).go A2.kp A2.pen,h2,λo2 H3 h3 A3=>?_⟩
 have A4:=(A.base A2).base A3
 have r3:=gM (A.base A2) A3.kp (gM A A2.kp r)
 cases d with
 |list ds =>
  obtain⟨x,xs,e1,o,h1,rs⟩:=Rp.aX r3
  subst e1
  refine⟨x,xs,rfl,SqL.of h1,λl hl=>?_⟩
  obtain⟨k2,i2,nw⟩:=A4.new hl (.lst (sZ xs o1 o2))
  obtain⟨k',hk',rk'⟩:=eF A4 (bR A4 k2 (rs.cut o1 o2)) nw aq h3
  exact q _ _ _ _ hk' (A4.go k2 i2) rk'
 |_=>exact h3.elim)
def S7:G2:=λk1 d1 k2 d2 P=>match d1,d2 with
 |.list ds,.list es=>ds.length+es.length<=1000/\newP (k1.join k2) (ds++es) λk=>P k (.list (ds++es))
 |_,_=>False
def U5:Ok2 S7 Ut:=by
 intro p H0 own Hb H x y k1 d1 k2 d2 P Q A r1 r2 t q
 unfold S7 at t
 split at t
 ·obtain⟨c1,xs,e1,o1,h1,rs1⟩:=r1.aX
  obtain⟨c2,ys,e2,o2,h2,rs2⟩:=r2.aX
  subst e1 e2
  have h24:=ą
  refine⟨c1,c2,xs,ys,rfl,rfl,h1,h2,by rw[rs1.length,rs2.length];omega,λl hl=>?_⟩
  obtain⟨k3,i3,nw⟩:=A.new hl (.lst (xs++ys))
  have j:=dh k1 k2
  have m:∀{k vs ds},k.le (k1.join k2)=true->Rps (okK p H0 own Hb k) H vs ds->Rps (okK p H0 own Hb (k1.join k2)) H vs ds:=λhk z=>z.mono (λa o=>cC A hk o) (λ_ _ _ e=>e) λ_ _ e=>e
  obtain⟨k',hk',rk'⟩:=eF A (bR A k3 ((m j.1 rs1).app (m j.2 rs2))) nw aq t.2
  exact q _ _ _ _ hk' k3 i3 rk'
 ·exact t.elim
def KN:G2:=λk1 d1 k2 d2 P=>match d1,d2 with
 |.tuple ds,.tuple es=>ds.length+es.length<=1000/\P (norm (k1.join k2) (.tuple (ds++es))) (.tuple (ds++es))
 |_,_=>False
def R8:Ok2 KN Qa:=by
 intro p H0 own Hb H x y k1 d1 k2 d2 P Q A r1 r2 t q
 unfold KN at t
 split at t
 ·obtain⟨c1,xs,e1,h1,rs1⟩:=r1.dG
  obtain⟨c2,ys,e2,h2,rs2⟩:=r2.dG
  subst e1 e2
  have h24:=ą
  refine⟨c1,c2,xs,ys,rfl,rfl,h1,h2,by rw[rs1.length,rs2.length];omega,λl H' sm hl=>?_⟩
  have K:Kp p H H':=Kp.of sm
  have j:=dh k1 k2
  have m:∀{k vs ds},k.le (k1.join k2)=true->Rps (okK p H0 own Hb k) H vs ds->Rps (okK p H0 own Hb (k1.join k2)) H vs ds:=λhk z=>z.mono (λa o=>cC A hk o) (λ_ _ _ e=>e) λ_ _ e=>e
  exact q _ _ _ _ t.2 K (p.mono H H' A.pen λb o _ e=>sm b o e) (bx (.tup hl (bR A K ((m j.1 rs1).app (m j.2 rs2)))))
 ·exact t.elim
def Ub(ta:DE):DE:=λρ P=>ta ρ λ_ d=>match d with
 |.int i=>P .imm (.int (-i))
 |_=>False
theorem cV(ha:PD X a ta):PD X (.UnaryOp .USub a pos) (Ub ta):=PE.wk (Uw QL ha) (by
 rintro σ H Q ⟨p,H0,own,ρ,P,E,t,q⟩
 refine⟨p,H0,own,ρ,_,E,t,λk d v H' h A r=>?_⟩
 cases d with
 |int i=>exact⟨i,r.int',q _ _ _ _ h A (.int _)⟩
 |_=>exact h.elim)
def Vy(te:DE)(g:DG):DS:=λP ρ=>te ρ λk d=>g (norm (elK k) d) d ρ P.nx
def U3{p:Pn}{H0 Hb H:Hp}{own:Addr->Option Nat}(A:At p H0 own Hb H){k:Kd}{v:V}{d:D}(r:Rp (okK p H0 own Hb k) H v d):Rp (okB p H0 own (norm (elK k) d)) H v d:=by
 refine fC (r.mono (λa o=>?_) (λ_ _ _ e=>e) λ_ _ e=>e)
 cases k with
 |imm=>exact o
 |new=>exact⟨A.h0 o,A.nfb o,A.Nq o⟩
 |reg q=>exact o
 |n0=>trivial
 |snw=>exact o
 |shr=>exact o
 |wk=>trivial
def sX{g:DG}(h:PS X st (qD (aV te) (Fe g))):PDS X st (Vy te g):=PS.wk' h (by
 rintro Q σ H ⟨p,H0,own,ρ,P,E,t,w⟩
 refine⟨p,H0,own,ρ,_,E,t,λk d v H1 h A r=>?_⟩
 exact⟨p,H0,own,ρ,_,d,P.nx,E.go A.kp A.pen,U3 A r,h,λσ' ρ' E' n=>w.nx own σ' H1 ρ' E' A.frs n⟩)
def WM(i:Nat)(te:DE):DS:=λP ρ=>match ρ[i]? with
 |some (.dw r (.list ds))=>te ρ λk d=>match d with
  |.list es=>(k.le .new || cu es)=true/\ds.length+es.length<=1000/\P.nx ((forget r ρ).set i (.dw r (.list (ds++es))))
  |_=>False
 |_=>False
def vW{te:DE}{ρ:List Sl}{R:Kd->D->Prop}(t:te ρ R):bO te gC ρ (λks=>∃k d,ks=[(k,d)]/\R k d):=by
 show te ρ λk d=>∃k' d',[((k,d):Kd×D)]=[(k',d')]/\R k' d'
 have e:(λk d=>∃k' d',[((k,d):Kd×D)]=[(k',d')]/\R k' d')=R:=by
  funext k d
  apply propext
  constructor
  ·rintro⟨k',d',e,h⟩
   cases e
   exact h
  ·exact λh=>⟨k,d,rfl,h⟩
 rw[e]
 exact t
def Tj(i:Nat)(tj te:DE):DS:=λP ρ=>match ρ[i]? with
 |some (.dw r (.list ds))=>tj ρ λ_ dj=>te ρ λk d=>match dj with
  |.int j=>(norm k d).le .new=true/\0<=j/\j.toNat<=ds.length/\ds.length<1000/\P.nx ((forget r ρ).set i (.dw r (.list (ds.take j.toNat++d::ds.drop j.toNat))))
  |_=>False
 |_=>False
def ou{i:Nat}{tj:DE}(h:PS X st (uo (tBM X.K "list" Eo (j9 i) (lZ (bO tj (bO te gC)))))):PDS X st (Tj i tj te):=PS.wk' h (by
 rintro Q σ H ⟨p,H0,own,ρ,P,E,t,w⟩
 unfold Tj at t
 split at t
 ·rename_i r ds hr
  obtain⟨v,hv,x⟩:=E.slot i _ hr
  obtain⟨l,vs,rfl,hl,ho,rs⟩:=x.aX
  refine⟨.ref l,hv,.inl ⟨rfl,vs,SqL.of ho⟩,p,H0,own,ρ,λks=>∃k1 dj k d,ks=[(k1,dj),(k,d)]/\(match dj with
   |.int j=>(norm k d).le .new=true/\0<=j/\j.toNat<=ds.length/\ds.length<1000/\P.nx ((forget r ρ).set i (.dw r (.list (ds.take j.toNat++d::ds.drop j.toNat))))
   |_=>False),E,?_,?_⟩
  ·show tj ρ λk1 dj=>te ρ λk d=>∃k1' dj' k' d',[((k1,dj):Kd×D),(k,d)]=[(k1',dj'),(k',d')]/\_
   have e:∀(k1:Kd) (dj:D),(λk d=>∃k1' dj' k' d',[((k1,dj):Kd×D),(k,d)]=[(k1',dj'),(k',d')]/\(match dj' with
    |.int j=>(norm k' d').le .new=true/\0<=j/\j.toNat<=ds.length/\ds.length<1000/\P.nx ((forget r ρ).set i (.dw r (.list (ds.take j.toNat++d'::ds.drop j.toNat))))
    |_=>False))=λk d=>(match dj with
    |.int j=>(norm k d).le .new=true/\0<=j/\j.toNat<=ds.length/\ds.length<1000/\P.nx ((forget r ρ).set i (.dw r (.list (ds.take j.toNat++d::ds.drop j.toNat))))
    |_=>False):=λk1 dj=>by
    funext k d
    apply propext
    constructor
    ·rintro⟨k1',dj',k',d',e,h⟩
     cases e
     exact h
    ·exact λh=>⟨k1,dj,k,d,rfl,h⟩
   simp only[e]
   exact t
  ·rintro ks ws H1 ⟨k1,dj,k,d,rfl,hh⟩ A rk
   cases dj with
   |int j =>
    obtain⟨hk,h0,hj,hlen,hn⟩:=hh
    obtain⟨y1,y,rfl,ry1,ry⟩:=Jh rk
    have ry:=gK A hk (bx ry)
    have e1:=Rp.int' ry1
    have h1:H1 l=some (.lst vs):=A.kp l _ ho (E.ow l r hl).2.1
    have h24:=ą
    have l1:=rs.length
    refine⟨l,vs,j.toNat,y,rfl,?_,h1,by omega,by omega,?_⟩
    ·rw[e1]
     have:((j.toNat:Nat):Int)=j:=by omega
     rw[this]
    obtain⟨E2,F2⟩:=E.qR (vs':=vs.take j.toNat++y::vs.drop j.toNat) (ds':=ds.take j.toNat++d::ds.drop j.toNat) A hv hl ho rs λH2 f g=>by
     have m:=jq f rs λd hd=>eZ hd
     exact(m.take _).app (.cons (g ry) (m.drop _))
    exact w.nx _ σ _ _ E2 F2 hn
   |_=>exact hh.elim
 ·exact t.elim)
end
variable [Gr]
structure Cal(P:Program)(w:World)(K:Ý)(mg:Str->Option Value)(base:Heap)(k:Nat)(x:Str)(ps:List Str)(sp:Sp):Prop where
 ex:∃f fd,FnOk P w K mg base CX0 k f fd ps sp/\Binds K fd ps []/\W.keepIn K (.ref f)=true/\mg x=some (.ref f)
section
variable {X:Cx}{k j:Nat}{x:Str}{ps:List Str}{e:Expr}{es:List Expr}{t:DA}{p pos pq:Pos}
def pcS{sp:Sp}{ta:TA}(C:Cal X.prog X.w X.K X.mg X.base k x ps sp)(hr:Room j X.A)(ha:PA X (e::es) ta)(hk:k<=j)(hg:Gl X x)(hdb:zB x)(he:zS X e es)(hpl:zP X pos es) :
  PE X (.Call (.Name x p) (e::es) [] pos) (Dz sp [] E0 ta):=by
 obtain⟨f,fd,F,b,kp,m⟩:=C.ex
 exact Nj F (hr.mono hk) hg m kp b .nil UG ha hdb he hpl
def dc{f:List D->(D->Prop)->Prop}(C:Cal X.prog X.w X.K X.mg X.base k x ps (spD f))(hr:Room j X.A)(ha:PDA X (e::es) t)(hk:k<=j:=by decide)(hg:Gl X x:=by rfl)(hdb:zB x:=by decide)(he:zS X e es:=by rfl)(hpl:zP X pos es:=by rfl) :
  PD X (.Call (.Name x p) (e::es) [] pos) (tFn f t):=PE.wk (pcS C hr ha hk hg hdb he hpl) N7
def dcP{C:Pn->Prop}{i:Nat}{f:List D->(D->Prop)->Prop}{y:Str}{py:Pos}(CC:Cal X.prog X.w X.K X.mg X.base k x ps (spP C f))(hr:Room j X.A)(hi:PE X (.Name y py) (j9 i))(ha:PDA X es t)(hk:k<=j:=by decide)(hg:Gl X x:=by rfl)(hdb:zB x:=by decide)(he:starEach (.Name y py::es) X.env=(false,eval (.Name y py) X.env)::starEach es X.env:=by rfl)(hpl:zP X pos es:=by rfl) :
  PD X (.Call (.Name x p) (.Name y py::es) [] pos) (Gm C f i t):=PE.wk (pcS CC hr (bJ hi ha) hk hg hdb he hpl) J6
def dv(i:Nat){x:Str}{pos:Pos}(hN:X.N[i]?=some x:=by rfl)(hv:Vis X.env.scope x:=by first|exact Or.inl rfl|exact Or.inr (Or.inl rfl)|exact Or.inr (Or.inr rfl))(hd:zB x:=by decide)(hcd:(x == ("__classdict__":Str))=false:=by decide):PD X (.Name x pos) (tV i):=RM (pv i hN hv hd hcd)
end
structure Bn(mg:Str->Option Value):Prop where
 isinstance:mg "isinstance"=none
 int:mg "int"=none
 bool:mg "bool"=none
 tuple:mg "tuple"=none
 list:mg "list"=none
 len:mg "len"=none
 all:mg "all"=none
 min:mg "min"=none
 max:mg "max"=none
 sorted:mg "sorted"=none
 range:mg "range"=none
 abs:mg "abs"=none
def boot_all:bootBuiltins "all"=some (.builtin "all"):=by decide +kernel
def boot_abs:bootBuiltins "abs"=some (.builtin "abs"):=by decide +kernel
def Am{i:Nat}{ρ:List Sl}{d:D}{P:DK}(h:ρ[i]?=some (aF d))(q:∀k,P k d):tV i ρ P:=by
 unfold tV
 rw[h]
 unfold aF
 by_cases hi:cL d=true
 ·rw[if_pos hi];exact q _
 ·rw[if_neg hi];exact q _
def N8{f:List D->(D->Prop)->Prop}{n:Nat}(hn:∀ds P,f ds P->ds.length=n:=by intro _ _ h;repeat (first|(obtain⟨rfl,_⟩:=h;rfl)|obtain⟨_,h⟩:=h)):∀vs H Q E,spD f vs H Q E->vs.length=n:=λvs H Q E h=>by
 obtain⟨ds,P,r,t,_⟩:=h
 rw[r.length]
 exact hn ds P t
def aH{f:List D->(D->Prop)->Prop}{T:DS}{N:List Str}{vs:List V}{H:Hp}{Q:VK}{E:XK}(h:spD f vs H Q E)(body:∀ds P,f ds P->∃ρ,ds.map aF++Ú (N.length - ds.length) .any=ρ/\T { nx:=λ_=>P .none,rt:=P } ρ)(g:Gr.G oY H:=by trivial):lY T { nx:=λ_ H'=>Q .non H',rt:=Q } (L2.start N vs) H :=
 wI h (λds P t=>by
  obtain⟨ρ,e,q⟩:=body ds P t
  rw[e]
  exact q) g
def au(n:Int)(us:List Tie):D:=.tuple [.int n,.tuple (us.map pD)]
def qg(n:Int)(us:List Tie):cL (au n us)=true:=by
 show(cL (.int n)&&(cu (us.map pD)&&true))=true
 rw[nY]
 rfl
def Pb(n:Int)(us:List Tie):aF (au n us)=.im (au n us):=if_pos (qg n us)
def isW:D->Bool
 |.int _=>true
 |_=>false
def Cv(ds:List D)(P:D->Prop):Prop:=∃d,ds=[d]/\P (.bool (isW d))
def aM(m:Int):D->Bool
 |.int i=>decide (0<=i/\i<m)
 |_=>false
def Cy(ds:List D)(P:D->Prop):Prop:=∃m d,ds=[.int m,d]/\P (.bool (aM m d))
def enterQ{C:Pn->Prop}{f:List D->(D->Prop)->Prop}{T:DS}{N:List Str}{vs:List V}{H:Hp}{Q:VK}{E:XK}(h:spP C f vs H Q E)(body:∀ds P,f ds P->∃ρ,ds.map aF++Ú (N.length - (ds.length+1)) .any=ρ/\T { nx:=λ_=>P .none,rt:=P } (.pen C::ρ))(g:∀p,Gr.G p H:=by intro _;trivial):lY T { nx:=λ_ H'=>Q .non H',rt:=Q } (L2.start N vs) H :=
 Te h (λds P t=>by
  obtain⟨ρ,e,q⟩:=body ds P t
  rw[e]
  exact q) g
variable [Gr]
def gb{α β:Type}{l:List α}{g:α->β}{i:Nat}{d:β}(h:(l.map g)[i]?=some d):∃x,l[i]?=some x/\g x=d:=by
 rw[Û] at h
 cases e:l[i]? with
 |none=>rw[e] at h;cases h
 |some x=>rw[e] at h;exact⟨x,rfl,Ø h⟩
theorem Ey:∀l:List Int,(l.map Â).all okD=true
 |[]=>rfl
 |x::l=>by
  rw[ò,Ū,Ey l]
  rfl
theorem any_ints(x:Int):∀l:List Int,((l.map Â).any λe=>á e (.int x))=decide (x∈l)
 |[]=>rfl
 |y::l=>by
  rw[ò,ũ,any_ints x l]
  have e:á (.int y) (.int x)=(y == x):=rfl
  rw[e,ĕ,Bool.or_eq_true,beq_iff_eq,decide_eq_true_eq,decide_eq_true_eq,Ü]
  constructor
  ·rintro(h|h)
   ·exact .inl h.symm
   ·exact .inr h
  ·rintro(h|h)
   ·exact .inl h.symm
   ·exact .inr h
def rN(l:List Int):okD (.list (l.map Â))=true:=by
 unfold okD
 rw[Õ,decide_eq_true_eq]
 refine⟨Kf l,?_⟩
 show ē (l.map Â)+1<=60
 rw[zT]
 omega
def bW(lo:Int)(n:Nat):(uP lo n).length=n:=by unfold uP;simp
def cH{lo:Int}{n i:Nat}{d:D}(h:(uP lo n)[i]?=some d):i<n/\d=.int (lo+((i:Nat):Int)):=by
 unfold uP at h
 obtain⟨x,hx,e⟩:=gb h
 obtain⟨h1,h2⟩:=Ç.mp hx
 have h3:i<n:=by simpa using h1
 have h4:x=i:=by simpa using h2.symm
 subst h4
 exact⟨h3,e.symm⟩
variable [Gr]
section
variable {X:Cx}{pos p2:Pos}{a b e:Expr}{ta tb te:DE}
theorem Rps.rep{ok:Addr->Prop}{H:Hp}{vs:List V}{ds:List D}(r:Rps ok H vs ds):∀k:Nat,Rps ok H (Ú k vs).flatten (Ú k ds).flatten
 |0=>.nil
 |k+1=>by
  rw[Ř,Ř,List.flatten_cons,List.flatten_cons]
  exact r.app (Rps.rep r k)
def SX:G2:=λk1 d1 _ d2 P=>match d1,d2 with
 |.list ds,.int k=>0<=k/\k<1000/\ds.length * k.toNat<=1000/\newP k1 (Ú k.toNat ds).flatten λk'=>P k' (.list (Ú k.toNat ds).flatten)
 |_,_=>False
def UL:Ok2 SX Uq:=by
 intro p H0 own Hb H x y k1 d1 k2 d2 P Q A r1 r2 t q
 unfold SX at t
 split at t
 ·rename_i ds k
  obtain⟨c1,xs,e1,o1,h1,rs1⟩:=r1.aX
  subst e1
  have h24:=ą
  refine⟨c1,k,xs,rfl,r2.int',h1,by omega,by omega,by rw[rs1.length];omega,λl hl=>?_⟩
  obtain⟨k3,i3,nw⟩:=A.new hl (.lst (Ú k.toNat xs).flatten)
  obtain⟨k',hk',rk'⟩:=eF A (bR A k3 (rs1.rep k.toNat)) nw aq t.2.2.2
  exact q _ _ _ _ hk' k3 i3 rk'
 ·exact t.elim
end
theorem lD(ns:List Int):∀k,k<=ns.length->PySem.preSum (λi=>ns.getD i 0) k=(ns.take k).sum
 |0,_=>rfl
 |k+1,h=>by
  show PySem.preSum _ k+ns.getD k 0=_
  have hk:k<ns.length:=by omega
  have e:ns.take (k+1)=ns.take k++[ns[k]]:=by rw[Ķ,É hk];rfl
  have e2:ns.getD k 0=ns[k]:=by rw[ö,É hk];rfl
  rw[lD ns k (by omega),e,e2,List.sum_append,List.sum_cons,List.sum_nil,Int.add_zero]
theorem mY:∀(ns:List Int) (b:Int),(∀x∈ns,-b<=x/\x<=b)->-(b * ns.length)<=ns.sum/\ns.sum<=b * ns.length
 |[],b,_=>by simp
 |x::ns,b,h=>by
  obtain⟨h1,h2⟩:=mY ns b λy hy=>h y (Ê _ hy)
  have hx:=h x Ñ
  have e:b * ((x::ns).length:Int)=b * ns.length+b:=by
   rw[ï]
   have:(((ns.length+1:Nat)):Int)=(ns.length:Int)+1:=by omega
   rw[this,Int.mul_add,Int.mul_one]
  rw[e,List.sum_cons]
  omega
section
variable {X:Cx}{pos:Pos}{a:Expr}{t:DA}
def Ht(hc:X.calm=true):aP X (.builtin "sum") (λxs H Q=>∃(p:Addr) (ns:List Int),xs=[.ref p]/\SqL X.K H p (ns.map V.int)/\ns.length<=1000/\(∀x∈ns,-1000000<=x/\x<=1000000)/\Q (.int ns.sum) H):=by
 intro pins s σ H xs us Q I r h
 obtain⟨p,ns,rfl,hp,hl,hs,q⟩:=h
 obtain⟨u,rfl,rx⟩:=vals1 r
 cases rx
 obtain⟨its,rv,pl,hz⟩:=I.list hp
 have hlen:its.length=ns.length:=by have:=rv.length;rw[Ä] at this;exact this.symm
 have hlt:p≠s.heap.objs.size:=by obtain⟨o,ho,_⟩:=pl.isList;exact ä (Ï ho)
 have hltp:p<s.heap.objs.size:=by obtain⟨o,ho,_⟩:=pl.isList;exact Ï ho
 have at':∀i v,its[i]?=some v->∃t,v=œ (ns.getD i 0) t:=λi v e=>by
  have hi:i<its.length:=(Ç.mp e).1
  have hv:(ns.map V.int)[i]?=some (V.int ns[i]):=by rw[Û,É (show i<ns.length by omega)];rfl
  obtain⟨u,eu,ru⟩:=rv.get hv
  rw[e] at eu
  cases eu
  obtain⟨t,rfl⟩:=ru
  exact⟨t,by rw[ö,É (show i<ns.length by omega)];rfl⟩
 refine call_sum_walk (wpAny_pyIter_list pl.isList ?_)
 refine⟨_,_,_,_,_,_,λi=>ns.getD i 0,rfl,Walks.list (A:=X.A.in1) (I.ok.hd hc) _ p hlt _,⟨⟨_,Þ _ rfl,rfl,rfl⟩,pl.isList.push _⟩,?_,λi v e=>at' i v (by simpa using e),λj hj=>?_,λh' tk t' hk=>?_⟩
 ·intro b hb
  show b<(s.heap.push _).objs.size
  rw[ĸ]
  simp at hb
  rcases hb with rfl|rfl
  ·exact ō _
  ·exact ď hltp
 ·have hj:j<ns.length:=by simpa[hlen] using hj
  have e:ns.getD j 0=ns[j]:=by rw[ö,É hj];rfl
  have b1:=hs _ (į hj)
  have b2:=mY (ns.take (j+1)) 1000000 λx hx=>hs x (Ő hx)
  have b3:(ns.take (j+1)).length<=1000:=by rw[ě];omega
  rw[lD ns (j+1) hj]
  refine⟨?_,?_⟩
  ·show -(2 ^ 63)<=ns.getD j 0/\ns.getD j 0<2 ^ 63
   rw[e]
   omega
  ·show -(2 ^ 63)<=(ns.take (j+1)).sum/\(ns.take (j+1)).sum<2 ^ 63
   omega
 ·have e:PySem.preSum (λi=>ns.getD i 0) its.toArray.size=ns.sum:=by
   rw[Ò,hlen,lD ns ns.length (Ô _),Į]
  rw[e]
  refine⟨.int ns.sum,H,I.kept λb o eb=>hk b o ?_ (Î _ eb),⟨_,rfl⟩,q⟩
  intro hm
  have:b=s.heap.objs.size:=by simpa using hm
  exact absurd (this ▸ Ï eb) (ċ _)
variable [Gr]
def boot_sum:bootBuiltins "sum"=some (.builtin "sum"):=by decide +kernel
end
variable [Gr]
section
variable {X:Cx}{pos:Pos}{a b e:Expr}{ta tb te:DE}
def Fw:G2:=λ_ d1 _ d2 P=>match d1,d2 with
 |.bool i,.bool j=>P .imm (.bool (!decide (i=j)))
 |_,_=>False
def R7:Ok2 Fw (λx y H Q=>∃a b,x=.bl a/\y=.bl b/\Q (.bl (!decide (a=b))) H):=by
 intro p H0 own Hb H x y k1 d1 k2 d2 P Q A r1 r2 t q
 unfold Fw at t
 split at t
 ·cases r1
  cases r2
  exact⟨_,_,rfl,rfl,q _ _ _ _ t Kp.refl A.pen (.bl _)⟩
 ·exact t.elim
def jX(ha:PD X a ta)(hb:PD X b tb):PDT X (.Compare a [.IsNot] [b] pos) (cJ (t2 Fw ta tb)):=dg yD R7 ha hb (cP _)
end
variable [Gr]
section
variable {X:Cx}{pos:Pos}{a b e:Expr}{ta tb te:DE}
def NQ:D->Bool
 |.none=>true
 |_=>false
def Ou:G2:=λ_ d1 _ d2 P=>match d2 with
 |.none=>P .imm (.bool (NQ d1))
 |_=>False
def Ej{ok:Addr->Prop}{H:Hp}{v:V}{d:D}(r:Rp ok H v d):decide (v=.non)=NQ d:=by
 cases r <;> simp[NQ]
def U4:Ok2 Ou (λx y H Q=>y=.non/\Q (.bl (decide (x=.non))) H):=by
 intro p H0 own Hb H x y k1 d1 k2 d2 P Q A r1 r2 t q
 unfold Ou at t
 split at t
 ·cases r2
  rw[Ej r1]
  exact⟨rfl,q _ _ _ _ t Kp.refl A.pen (.bl _)⟩
 ·exact t.elim
def lE(ha:PD X a ta)(hb:PD X b tb):PDT X (.Compare a [.Is] [b] pos) (cJ (t2 Ou ta tb)):=dg RW U4 ha hb (cP _)
end
variable [Gr]
section
variable {X:Cx}{pos:Pos}{st:Stmt}
end
@[reducible] def grX(H:Hp):Gr:=⟨λp H0=>p=oY/\H0=H⟩
structure Cal1(P:Program)(w:World)(K:Ý)(mg:Str->Option Value)(base:Heap)(k:Nat)(x:Str)(ps:List Str)(sp:Sp):Prop where
 ex:∃f fd,FnOk P w K mg base (CX1 P w) k f fd ps sp/\Binds K fd ps []/\W.keepIn K (.ref f)=true/\mg x=some (.ref f)
section
variable {X:Cx}{E:XK}{k j:Nat}{x:Str}{ps:List Str}{e:Expr}{es:List Expr}{p pos:Pos}
end
variable [Gr]
def boot_repr:bootBuiltins "repr"=some (.builtin "repr"):=by decide +kernel
def okR(d:D):Prop:=okD d=true/\d.showable=true/\d.hasDict=false/\d.shown.length<=sizeLine
section
variable {X:Cx}{pos:Pos}{a b e:Expr}{ta tb te:DE}{t:DA}
def Uo:List V->Hp->VK->Prop:=λxs H Q=>∃ok a d,xs=[.ref a]/\Rp ok H (.ref a) d/\okR d/\Q (.str d.shown) H
def KH:GC:=λks P=>match ks with
 |[(_,.list ds)]=>okR (.list ds)/\P .imm (.str (Ć ds).shown)
 |[(_,.tuple ds)]=>okR (.tuple ds)/\P .imm (.str (ŋ ds).shown)
 |_=>False
end
end Dl
namespace L2
open PySem PyProof.Rows
theorem yX:∀{ns:List Int}{us:List Value},Vals (ns.map V.int) us->IntsAre us ns
 |[],_,.nil=>.nil
 |n::ns,_,.cons r t=>by
  obtain⟨k,rfl⟩:=r
  exact .cons n k (yX t)
def once(ns:List Int):List Int:=ns.foldl step_dedup []
def Cu(ns:List Int){m:Nat}(hm:m=ns.length):firstMet (λi=>ns.getD i 0) m=once ns:=by
 subst hm
 unfold firstMet once
 congr 1
 refine List.ext_getElem (by simp) λi h1 h2=>?_
 simp at h1
 simp[ö,h1]
section
variable {X:Cx}
def Aa(hc:X.calm=true):aP X (.type "set") (λxs H Q=>∃p ns,xs=[.ref p]/\SqL X.K H p (ns.map V.int)/\ns.length<=1000/\∀l S,H l=none->Q (.ref l) (upd H l (.set S (once ns).length))):=by
 intro pins s σ H xs us Q I r h
 obtain⟨p,ns,rfl,hq,hl,q⟩:=h
 obtain⟨u,rfl,rx⟩:=vals1 r
 cases rx
 obtain⟨its,r',pl,hz⟩:=I.list hq
 have hlen:=r'.length
 rw[Ä] at hlen
 refine call_set_list (items:=its.toArray) (ns:=ns) (I.ok.hd hc) pl.isList (by simpa using yX r') ?_ λh' tk st k=>?_
 ·show its.toArray.size+1<scanBound
  rw[Ò,←hlen]
  exact Nat.lt_of_le_of_lt (Nat.add_le_add_right hl 1) (by decide)
 ·rw[Cu ns (by rw[Ò,←hlen])] at st
  refine⟨.ref s.heap.objs.size,_,I.laid (t':=tk) (λb o e=>k b o (Ï e) e) (Ô _) (show bf X.prog X.w _ h' _ (.set _ (once ns).length) from st),rfl,q _ _ (I.hok.fresh (Ô _))⟩
def ud:aP X (.builtin "len") (λxs H Q=>∃p S n,xs=[.ref p]/\H p=some (.set S n)/\n<=1000/\Q (.int (n:Int)) H):=by
 intro pins s σ H xs us Q I r h
 obtain⟨p,S,n,rfl,hq,hl,q⟩:=h
 obtain⟨u,rfl,rx⟩:=vals1 r
 cases rx
 obtain⟨o,es,ep,t,e1,e2,e3,_,_,_,e6,e7⟩:=I.hok p _ hq
 refine call_len_set e1 e2 e3 e6 (by rw[e7];omega) ?_
 rw[e7]
 exact⟨.int n,H,I.tok _,⟨_,rfl⟩,q⟩
end
theorem iK:∀(ns acc:List Int),(ns.foldl step_dedup acc).length<=acc.length+ns.length
 |[],acc=>Ô _
 |n::ns,acc=>by
  rw[List.foldl_cons]
  have h:=iK ns (step_dedup acc n)
  have:(step_dedup acc n).length<=acc.length+1:=by
   unfold step_dedup
   split
   ·omega
   ·rw[Í];exact Ô _
  rw[ï]
  omega
theorem yE:∀(ns acc:List Int),((ns.foldl step_dedup acc).length=acc.length+ns.length)↔(ns.Nodup/\∀x∈ns,x∉acc)
 |[],acc=>by simp
 |n::ns,acc=>by
  rw[List.foldl_cons,ï,List.nodup_cons]
  by_cases hn:n∈acc
  ·have e:step_dedup acc n=acc:=by
    unfold step_dedup
    rw[if_pos (List.any_eq_true.mpr ⟨n,hn,by simp⟩)]
   rw[e]
   have:=iK ns acc
   constructor
   ·intro h;omega
   ·rintro⟨_,h⟩
    exact absurd hn (h n Ñ)
  ·have e:step_dedup acc n=acc++[n]:=by
    unfold step_dedup
    rw[if_neg (λz=>by
     obtain⟨x,hx,ex⟩:=List.any_eq_true.mp z
     have:x=n:=by simpa using ex
     exact hn (this ▸ hx))]
   rw[e]
   have ih:=yE ns (acc++[n])
   rw[Í,è] at ih
   constructor
   ·intro h
    obtain⟨a,b⟩:=ih.mp (by omega)
    refine⟨⟨λz=>b n z (ç _ (Ë.mpr rfl)),a⟩,λx hx=>?_⟩
    rcases Ü.mp hx with z|z
    ·rw[z];exact hn
    ·exact λy=>b x z (ú _ y)
   ·rintro⟨⟨a,b⟩,c⟩
    have:=ih.mpr ⟨b,λx hx z=>by
     rcases à.mp z with y|y
     ·exact c x (Ê _ hx) y
     ·rw[Ë.mp y] at hx;exact a hx⟩
    omega
def Bt(ns:List Int):(once ns).length=ns.length↔ns.Nodup:=by
 have:=yE ns []
 simp at this
 exact this
end L2
namespace Dl
open PySem L2 PyProof.Rows
variable [Gr]
section
variable {X:Cx}{pos pos':Pos}{a:Expr}{t:DA}
def boot_set:bootBuiltins "set"=some (.type "set"):=by decide +kernel
def Fx:GC:=λks P=>∃k ns,ks=[(k,.list (ns.map Â))]/\ns.length<=1000/\P .imm (.int ((once ns).length:Nat))
def jz{ps ps':Pos}(hc:X.calm=true)(hs:X.mg "set"=none)(hl:X.mg "len"=none)(ha:PDA X [a] t)(hgs:Gl X "set":=by rfl)(hgl:Gl X "len":=by rfl)(he:zS X a []:=by rfl)(hpl:zP X pos []:=by rfl)(he':starEach [Expr.Call (.Name "set" ps) [a] [] pos] X.env=(false,eval (Expr.Call (.Name "set" ps) [a] [] pos) X.env)::starEach [] X.env:=by rfl)(hpl':(backTo pos' (starEach [] X.env)).any (·.1)=false:=by rfl) :
  PD X (.Call (.Name "len" ps') [.Call (.Name "set" ps) [a] [] pos] [] pos') (tCl Fx t) :=
 PE.wk (cO ud hgl hl PySem.boot_len (bJ (uE (Aa hc) hgs hs boot_set ha (by decide) (by decide) he hpl) dZ he') (by decide) (by decide) he' hpl') (by
  rintro σ H Q ⟨p,H0,own,ρ,P,E,t,q⟩
  refine⟨p,H0,own,ρ,_,E,t,λks vs H1 h A r=>?_⟩
  obtain⟨k,ns,rfl,hn,h⟩:=h
  obtain⟨v,rfl,r'⟩:=cj r
  obtain⟨c,ws,rfl,o,hc',rs⟩:=r'.aX
  have ew:=rs.ints
  subst ew
  refine⟨c,ns,rfl,SqL.of hc',hn,λl S hl'=>?_⟩
  obtain⟨k2,i2,nw⟩:=A.new hl' (.set S (once ns).length)
  have h1:=iK ns []
  exact⟨l,S,_,rfl,aq,by unfold once;simp at h1;omega,q _ _ _ _ h (A.go k2 i2) (.int _)⟩)
end
variable [Gr]
section
variable {X:Cx}{pos p2:Pos}{a b c e:Expr}{es:List Expr}{ta tb tc te:DE}{t:DA}{st:Stmt}
def OpR.or{f:Value->Value->Sem Value}{r r':R2}(h:OpR X f r)(h':OpR X f r'):OpR X f (λx y H Q=>r x y H Q\/r' x y H Q):=by
 intro pins s σ H x y v u Q I rx ry q
 rcases q with q|q
 ·exact h pins s σ H x y v u Q I rx ry q
 ·exact h' pins s σ H x y v u Q I rx ry q
def aP.or{f:Value}{r r':List V->Hp->VK->Prop}(h:aP X f r)(h':aP X f r'):aP X f (λx H Q=>r x H Q\/r' x H Q):=by
 intro pins s σ H x v Q I rx q
 rcases q with q|q
 ·exact h pins s σ H x v Q I rx q
 ·exact h' pins s σ H x v Q I rx q
def JK(ha:PD X a ta)(hb:PD X b tb)(hs:qp b:=by exact λ_ _=>rfl):PD X (.Subscript a b pos) (t2 gIx ta tb):=PE.wk (iG (IxR.or cQ Sy) ha hb hs) (Fg (by
 intro p H0 own Hb H x y k1 d1 k2 d2 P Q A r1 r2 t q
 unfold gIx at t
 split at t
 ·rename_i ds i
  obtain⟨d,hd,t⟩:=t
  obtain⟨c,vs,rfl,o,hc,rs⟩:=r1.aX
  obtain⟨v,hv,rv⟩:=rs.atI hd
  exact .inl ⟨c,vs,i,v,rfl,r2.int',SqL.of hc,hv,q _ _ _ _ t Kp.refl A.pen (bx rv)⟩
 ·rename_i ds i
  obtain⟨d,hd,t⟩:=t
  obtain⟨c,vs,rfl,hc,rs⟩:=r1.dG
  obtain⟨v,hv,rv⟩:=rs.atI hd
  exact .inr ⟨c,vs,i,v,rfl,r2.int',SqT.of hc,hv,q _ _ _ _ t Kp.refl A.pen (bx rv)⟩
 ·exact t.elim))
def sI:G2:=λk1 d1 k2 d2 P=>match d1 with
 |.int i=>(match d2 with
  |.int j=>P .imm (.int (i+j))
  |_=>False)
 |.list ds=>S7 k1 (.list ds) k2 d2 P
 |.tuple ds=>KN k1 (.tuple ds) k2 d2 P
 |_=>False
theorem vM(ha:PD X a ta)(hb:PD X b tb):PD X (.BinOp a .Add b pos) (t2 sI ta tb):=uF (OpR.or iJ (OpR.or RX Nu)) (by
 intro p H0 own Hb H x y k1 d1 k2 d2 P Q A r1 r2 t q
 cases d1 with
 |int i =>
  cases d2 with
  |int j=>exact .inl ⟨i,j,r1.int',r2.int',q _ _ _ _ t Kp.refl A.pen (.int _)⟩
  |_=>exact t.elim
 |list ds=>exact .inr (.inl (U5 p H0 own Hb H x y k1 _ k2 d2 P Q A r1 r2 t q))
 |tuple ds=>exact .inr (.inr (R8 p H0 own Hb H x y k1 _ k2 d2 P Q A r1 r2 t q))
 |_=>exact t.elim) ha hb
def Ky:G2:=λk1 d1 k2 d2 P=>match d1 with
 |.int i=>(match d2 with
  |.int j=>Ma i j/\P .imm (.int (i * j))
  |_=>False)
 |.list ds=>SX k1 (.list ds) k2 d2 P
 |_=>False
theorem lG(ha:PD X a ta)(hb:PD X b tb):PD X (.BinOp a .Mult b pos) (t2 Ky ta tb):=uF (OpR.or jZ RQ) (by
 intro p H0 own Hb H x y k1 d1 k2 d2 P Q A r1 r2 t q
 cases d1 with
 |int i =>
  cases d2 with
  |int j=>exact .inl ⟨i,j,r1.int',r2.int',t.1,q _ _ _ _ t.2 Kp.refl A.pen (.int _)⟩
  |_=>exact t.elim
 |list ds=>exact .inr (UL p H0 own Hb H x y k1 _ k2 d2 P Q A r1 r2 t q)
 |_=>exact t.elim) ha hb
def nZ(neg:Bool):G2:=λk1 d1 k2 d2 P=>match scD d1 d2 with
 |some b=>P .imm (.bool (if neg then !b else b))
 |none=>Vi neg k1 d1 k2 d2 P
def Qg{K:Ý}:Ok2 (nZ false) (λx y H Q=>rEq x y H Q\/Jp K false x y H Q):=by
 intro p H0 own Hb H x y k1 d1 k2 d2 P Q A r1 r2 t q
 cases e:scD d1 d2 with
 |some b =>
  have t':gEq false k1 d1 k2 d2 P:=by
   unfold nZ at t
   unfold gEq
   rw[e] at t ⊢
   exact t
  exact .inl (Wf p H0 own Hb H x y k1 d1 k2 d2 P Q A r1 r2 t' q)
 |none =>
  unfold nZ at t
  rw[e] at t
  exact .inr (Qf false p H0 own Hb H x y k1 d1 k2 d2 P Q A r1 r2 t q)
def UW{K:Ý}:Ok2 (nZ true) (λx y H Q=>rNe x y H Q\/Jp K true x y H Q):=by
 intro p H0 own Hb H x y k1 d1 k2 d2 P Q A r1 r2 t q
 cases e:scD d1 d2 with
 |some b =>
  have t':gEq true k1 d1 k2 d2 P:=by
   unfold nZ at t
   unfold gEq
   rw[e] at t ⊢
   exact t
  exact .inl (Wd p H0 own Hb H x y k1 d1 k2 d2 P Q A r1 r2 t' q)
 |none =>
  unfold nZ at t
  rw[e] at t
  exact .inr (Qf true p H0 own Hb H x y k1 d1 k2 d2 P Q A r1 r2 t q)
def Br(hu:X.A.units+64<cLine)(ha:PD X a ta)(hb:PD X b tb):PD X (.Compare a [.Eq] [b] pos) (t2 (nZ false) ta tb):=vV (OpR.or Qe (JN hu)) Qg ha hb (cP _)
def vI(hu:X.A.units+64<cLine)(ha:PD X a ta)(hb:PD X b tb):PDT X (.Compare a [.Eq] [b] pos) (cJ (t2 (nZ false) ta tb)):=dg (OpR.or Qe (JN hu)) Qg ha hb (cP _)
def vH(hu:X.A.units+64<cLine)(ha:PD X a ta)(hb:PD X b tb):PDT X (.Compare a [.NotEq] [b] pos) (cJ (t2 (nZ true) ta tb)):=dg (OpR.or UJ (RV hu)) UW ha hb (cP _)
end
section
variable {n:Nat}{g:DG}{tt:DT}{te:DE}{ρ:List Sl}{k:Kd}{ds:List D}{R:Kd->List D->Prop}
def NT{α β:Type}(f:α->β){l:List α}{i:Nat}{x:α}(h:l[i]?=some x):(l.take (i+1)).map f=(l.take i).map f++[f x]:=by
 rw[Ķ,h]
 simp
def yV{α:Type}(xs:List α)(e f:α->D)(ke:Kd)(hd:ds=xs.map e)(hl:xs.length<=1000)(step:∀x∈xs,∀(A:D->Prop) (B:Prop),A (f x)->g (norm (elC k) (e x)) (e x) (Ú n .any++ρ) λρ'=>if true=true then te ρ' λk' d'=>(norm k' d').le ke=true/\A d' else B)(q:R ke (xs.map f)) :
  ds.length<=1000/\∃(ke:Kd) (Iv:Nat->List D->Prop),Iv 0 [] /\
   (∀i d ys,ds[i]?=some d->Iv i ys->g (norm (elC k) d) d (Ú n .any++ρ) λρ'=>if true=true then te ρ' λk' d'=>(norm k' d').le ke=true/\Iv (i+1) (ys++[d']) else Iv (i+1) ys) /\
   ∀ys,Iv ds.length ys->R ke ys:=by
 subst hd
 refine⟨by rw[Ä];exact hl,ke,λi ys=>ys=(xs.take i).map f,rfl,?_,?_⟩
 ·rintro i d ys hd rfl
  rw[Û] at hd
  cases hx:xs[i]? with
  |none=>rw[hx] at hd;cases hd
  |some x =>
   rw[hx] at hd
   have hd:=Ø hd
   subst hd
   exact step x (Ð hx) (λd'=>(xs.take i).map f++[d']=(xs.take (i+1)).map f) _ (NT f hx).symm
 ·rintro ys rfl
  rw[Ä,Į]
  exact q
def o7{α:Type}(xs:List α)(e:α->D)(p:α->Bool)(f:α->D)(ke:Kd)(hd:ds=xs.map e)(hl:xs.length<=1000)(step:∀x∈xs,∀(A:D->Prop) (B:Prop),(p x=true->A (f x))->(p x=false->B)->g (norm (elC k) (e x)) (e x) (Ú n .any++ρ) λρ'=>tt ρ' λb=>if b=true then te ρ' λk' d'=>(norm k' d').le ke=true/\A d' else B)(q:R ke ((xs.filter p).map f)) :
  ds.length<=1000/\∃(ke:Kd) (Iv:Nat->List D->Prop),Iv 0 [] /\
   (∀i d ys,ds[i]?=some d->Iv i ys->g (norm (elC k) d) d (Ú n .any++ρ) λρ'=>tt ρ' λb=>if b=true then te ρ' λk' d'=>(norm k' d').le ke=true/\Iv (i+1) (ys++[d']) else Iv (i+1) ys) /\
   ∀ys,Iv ds.length ys->R ke ys:=by
 subst hd
 refine⟨by rw[Ä];exact hl,ke,λi ys=>ys=((xs.take i).filter p).map f,rfl,?_,?_⟩
 ·rintro i d ys hd rfl
  rw[Û] at hd
  cases hx:xs[i]? with
  |none=>rw[hx] at hd;cases hd
  |some x =>
   rw[hx] at hd
   have hd:=Ø hd
   subst hd
   have sn:((xs.take (i+1)).filter p).map f=((xs.take i).filter p).map f++if p x=true then [f x] else []:=by
    rw[Ķ,hx,List.filter_append,ñ]
    cases hp:p x <;> simp[hp]
   refine step x (Ð hx) (λd'=>((xs.take i).filter p).map f++[d']=((xs.take (i+1)).filter p).map f) _ (λh=>?_) (λh=>?_)
   ·rw[sn,if_pos h]
   ·show _=_
    rw[sn,h,if_neg Ó,Ŗ]
 ·rintro ys rfl
  rw[Ä,Į]
  exact q
end
section
variable {g:DG}{tb:DS}{k:Kd}{ds:List D}{ρ:List Sl}{P:DEnds}
end
variable [Gr]
section
variable {X:Cx}{scope:Scope}{tg iter elt:Expr}{ifs:List Expr}{pos:Pos}{ti:DI}{g:DG}{tt:DT}{te:DE}
def Rm(own:List Str){i:Nat}{y:Str}{py spos:Pos}(hc:X.calm=true)(hN:X.N.Nodup)(hiN:X.N[i]?=some y)(hx:Loc X.env.scope y)(hi:PDI X tg iter ti)(hg:∀c,PDG (X.comp own scope c) tg g)(ht:∀c,LK (X.comp own scope c) ifs tt)(he:∀c,PD (X.comp own scope c) elt te)(hsw:swapsWith (.ListComp elt [⟨tg,iter,ifs,0⟩] scope pos) (some (.Name y py)) spos.line X.env=pure true:=by rfl)(hk:d8 X.env scope X.N=true:=by rfl)(hs:zF X iter:=by intro _;rfl)(hf:zL X y:=by first|exact .inl rfl|exact .inr rfl|assumption) :
  PS X (.Assign [.Name y py] (.ListComp elt [⟨tg,iter,ifs,0⟩] scope pos) spos) (qD (aV (dLC own.length ti g tt te)) (iY i)):=PS.wk' (Qc own hc hN hiN hx hi hg ht he hsw hk hs hf) λD σ H q=>EY σ H _ q
end
section
variable {n:Nat}{g:DG}{tt:DT}{te:DE}{ρ:List Sl}{k:Kd}{ds:List D}{R:Kd->List D->Prop}
def Ke(Pr:D->Prop)(ke:Kd)(hl:ds.length<=1000)(step:∀d∈ds,∀(A:D->Prop) (B:Prop),(∀d',Pr d'->A d')->g (norm (elC k) d) d (Ú n .any++ρ) λρ'=>if true=true then te ρ' λk' d'=>(norm k' d').le ke=true/\A d' else B)(q:∀ys,ys.length=ds.length->(∀y∈ys,Pr y)->R ke ys) :
  ds.length<=1000/\∃(ke:Kd) (Iv:Nat->List D->Prop),Iv 0 [] /\
   (∀i d ys,ds[i]?=some d->Iv i ys->g (norm (elC k) d) d (Ú n .any++ρ) λρ'=>if true=true then te ρ' λk' d'=>(norm k' d').le ke=true/\Iv (i+1) (ys++[d']) else Iv (i+1) ys) /\
   ∀ys,Iv ds.length ys->R ke ys:=by
 refine⟨hl,ke,λi ys=>ys.length=i/\∀y∈ys,Pr y,⟨rfl,λy h=>nomatch h⟩,?_,λys h=>q ys h.1 h.2⟩
 rintro i d ys hd ⟨hy,hp⟩
 refine step d (Ð hd) (λd'=>(ys++[d']).length=i+1/\∀y∈ys++[d'],Pr y) _ λd' h=>⟨by rw[Í,hy];rfl,λy z=>?_⟩
 rcases à.mp z with z|z
 ·exact hp y z
 ·rw[Ë.mp z];exact h
end
variable [Gr]
section
variable {X:Cx}{pos:Pos}{st:Stmt}{rest:List Stmt}{te tj:DE}{ti:DI}{t:DS}
def Tn(i:Nat)(t:DS):DS:=λP ρ=>match ρ[i]? with
 |some (.dw r d)=>sS r ρ i=true/\t P (ρ.set i (.sn d))
 |some (.rw r L)=>sS r ρ i=true/\t P (ρ.set i (.sn (.list (L.map Ć))))
 |some (.sp r b ds)=>sS r ρ i=true/\t P (ρ.set i (if b=true then .sn (.list ds) else .sh (.list ds)))
 |_=>False
def EnvD.freeze{p:Pn}{H0 H:Hp}{own:Addr->Option Nat}{σ:L2.St}{ρ:List Sl}{i r:Nat}{d:D}{v:V}(E:EnvD p H0 own σ H ρ)(hf:sS r ρ i=true)(hv:σ[i]?=some (some v))(x:Rp (λa=>own a=some r) H v d) :
  EnvD p H0 (aQ r own) σ H (ρ.set i (.sn d)):=by
 have E2:EnvD p H0 (aQ r own) σ H (ρ.set i .any):=(E.drop (i:=i)).clear hf
 have E3:=E2.put (v:=v) (i:=i) (s:=.sn d) ⟨v,hv,x.mono (λa o=>⟨(E.ow a r o).1,(E.ow a r o).2.1,by unfold aQ;rw[if_pos o]⟩) (λ_ _ _ e=>e) λ_ _ e=>e⟩
 rw[List.set_set] at E3
 exact E3
def CQ(i:Nat)(h:j6 X rest t):j6 X rest (Tn i t):=PSs.wk' h (by
 rintro Q σ H ⟨p,H0,own,ρ,P,E,q,w⟩
 unfold Tn at q
 split at q
 ·rename_i r d e
  obtain⟨v,hv,x⟩:=E.slot i _ e
  exact⟨p,H0,_,_,P,E.freeze q.1 hv x,q.2,w.go fO⟩
 ·rename_i r L e
  obtain⟨st,as,hv,x⟩:=E.slot i _ e
  exact⟨p,H0,_,_,P,E.freeze q.1 hv x.rp,q.2,w.go fO⟩
 ·rename_i r b ds e
  obtain⟨l,vs,hv,o,h,z⟩:=E.slot i _ e
  have E2:EnvD p H0 (aQ r own) σ H (ρ.set i .any):=(E.drop (i:=i)).clear q.1
  have c0:∀a,own a=none->aQ r own a=none:=λa n=>by unfold aQ;rw[n];simp
  have cl:aQ r own l=none:=by unfold aQ;rw[if_pos o]
  have E3:EnvD p H0 (aQ r own) σ H ((ρ.set i .any).set i (if b=true then .sn (.list ds) else .sh (.list ds))):=E2.put (v:=.ref l) (by
   cases b with
   |true=>exact⟨_,hv,.lst ⟨(E.ow l r o).1,(E.ow l r o).2.1,cl⟩ h (z.mono (λc n=>⟨n.1 rfl,n.2.1,c0 c n.2.2⟩) (λ_ _ _ e=>e) λ_ _ e=>e)⟩
   |false=>exact⟨_,hv,.lst ⟨(E.ow l r o).2.1,cl⟩ h (z.mono (λc n=>⟨n.2.1,c0 c n.2.2⟩) (λ_ _ _ e=>e) λ_ _ e=>e)⟩)
  rw[List.set_set] at E3
  exact⟨p,H0,_,_,P,E3,q.2,w.go fO⟩
 ·exact q.elim)
def spK(b:Bool):Kd:=if b=true then .snw else .shr
def EnvD.VP{p:Pn}{H0 H:Hp}{own:Addr->Option Nat}{σ:L2.St}{ρ:List Sl}{i r:Nat}{b:Bool}{l:Addr}{vs vs':List V}{ds':List D}(E:EnvD p H0 own σ H ρ)(hv:σ[i]?=some (some (.ref l)))(o:own l=some r)(h:H l=some (.lst vs))(z:Rps (okS p H0 own b) H vs' ds') :
  EnvD p H0 own σ (upd H l (.lst vs')) ((forget r ρ).set i (.sp r b ds'))/\FrS p own H own (upd H l (.lst vs')):=by
 refine⟨(E.write (o':=.lst vs') o h λxs z=>nomatch z).put (v:=.ref l) ⟨l,vs',hv,o,aq,z.mono (λ_ o=>o) (λc u n e=>?_) λa xs e=>?_⟩,jl o h λxs z=>nomatch z⟩
 ·rw[aj];exact e
  intro y;subst y;rw[n.2.2] at o;cases o
 ·rw[aj];exact e
  intro y;subst y;rw[h] at e;cases e
def WL(i:Nat)(te:DE):DS:=λP ρ=>match ρ[i]? with
 |some (.sp r b ds)=>te ρ λk d=>(norm k d).le (spK b)=true/\ds.length<1000/\P.nx ((forget r ρ).set i (.sp r b (ds++[d])))
 |_=>False
def WK(i:Nat)(tj te:DE):DS:=λP ρ=>match ρ[i]? with
 |some (.sp r b ds)=>tj ρ λ_ dj=>te ρ λk d=>match dj with
  |.int j=>(norm k d).le (spK b)=true/\0<=j/\j.toNat<=ds.length/\ds.length<1000/\P.nx ((forget r ρ).set i (.sp r b (ds.take j.toNat++d::ds.drop j.toNat)))
  |_=>False
 |_=>False
theorem yj:∀{as bs:List Addr},as.map V.ref=bs.map V.ref->as=bs
 |[],[],_=>rfl
 |a::as,b::bs,e=>by
  rw[ò,ò] at e
  injection e with e1 e2
  rw[V.ref.inj e1,yj e2]
 |[],_::_,e=>by cases e
 |_::_,[],e=>by cases e
def Df(js:List Nat)(t:DS):DS:=λP ρ=>t P (js.foldl (λρ j=>ρ.set j .any) ρ)
theorem EnvD.drops{p:Pn}{H0 H:Hp}{own:Addr->Option Nat}{σ:L2.St}:∀(js:List Nat) {ρ:List Sl},EnvD p H0 own σ H ρ->EnvD p H0 own σ H (js.foldl (λρ j=>ρ.set j .any) ρ)
 |[],_,E=>E
 |_::js,_,E=>EnvD.drops js E.drop
def sW(js:List Nat)(h:j6 X rest t):j6 X rest (Df js t):=PSs.wk' h (by
 rintro Q σ H ⟨p,H0,own,ρ,P,E,q,w⟩
 exact⟨p,H0,own,_,P,E.drops js,q,w⟩)
def wU(i:Nat)(tj te:DE):DS:=λP ρ=>match ρ[i]? with
 |some (.rw r L)=>tj ρ λ_ dj=>match dj with
  |.int j=>∃n l,ixN L.length j=some n/\L[n]?=some l/\te ρ λ_ d=>cL d=true/\l.length<1000/\P.nx ((forget r ρ).set i (.rw r (L.set n (l++[d]))))
  |_=>False
 |_=>False
def cY{i:Nat}(h:PS X st (uo (tBM X.K "list" vm (tOp (Ur X.K) (j9 i) (aV tj)) (lZ (bO te gC))))):PDS X st (wU i tj te):=PS.wk' h (by
 rintro Q σ H ⟨p,H0,own,ρ,P,E,q,w⟩
 unfold wU at q
 split at q
 ·rename_i r L hr
  obtain⟨st,as,hv,R0⟩:=E.slot i _ hr
  refine⟨.ref st,hv,p,H0,own,ρ,_,E,q,λkj dj vj H1 q1 A1 rj=>?_⟩
  cases dj with
  |int j =>
   have E1:=E.go A1.kp A1.pen
   obtain⟨st',as',hv',R1⟩:=E1.slot i _ hr
   rw[hv] at hv'
   cases hv'
   have ej:=Rp.int' rj
   subst ej
   obtain⟨n,l,hn,hl,q1⟩:=q1
   have hnl:=(Ç.mp hl).1
   rw[É hnl] at hl
   cases hl
   have hna:n<as'.length:=by rw[R1.len];exact hnl
   have eat:atI (as'.map V.ref) j=some (.ref as'[n]):=by
    unfold L2.atI
    rw[Ä,R1.len,hn]
    show(as'.map V.ref)[n]?=_
    rw[Û,É hna]
    rfl
   obtain⟨vs,hav,rv⟩:=R1.row n as'[n] L[n] (É hna) (É hnl)
   refine⟨st,_,j,.ref as'[n],rfl,rfl,SqL.of R1.top,eat,.inl ⟨rfl,vs,SqL.of hav⟩,p,H0,own,ρ,_,E1,vW q1,?_⟩
   rintro ks ws H2 ⟨k,d,rfl,im,len,nx⟩ A2 rk
   obtain⟨y,rfl,ry⟩:=cj rk
   have ry:Rp (λ_=>False) H2 y d:=Rp.imm ry im
   have E2:=E1.go A2.kp A2.pen
   obtain⟨st',as2,hv',R2⟩:=E2.slot i _ hr
   rw[hv] at hv'
   cases hv'
   -- the rows are those of before
   have eas:as2=as':=by
    have e1:=A2.kp st _ R1.top (E1.ow st r (R1.ow st Ñ)).2.1
    rw[R2.top] at e1
    have e2:=(HO.lst.inj (Ø e1))
    exact yj e2
   subst eas
   obtain⟨vs2,hav2,rv2⟩:=R2.row n as2[n] L[n] (É hna) (É hnl)
   have oa:=R2.ow as2[n] (Ê _ (į hna))
   have h24:=ą
   have ln:=rv2.length
   refine⟨as2[n],vs2,y,rfl,rfl,hav2,by omega,?_⟩
   have tp:∀a xs,H2 a=some (.tup xs)->upd H2 as2[n] (.lst (vs2++[y])) a=some (.tup xs):=λa xs e=>by
    rw[aj];exact e
    intro z;subst z;rw[hav2] at e;cases e
   have E3:=E2.write (o':=.lst (vs2++[y])) oa hav2 (λxs z=>nomatch z)
   have nd1:=ź.mp R2.nd
   have E4:=E3.put (v:=.ref st) (i:=i) (s:=.rw r (L.set n (L[n]++[d]))) ⟨st,as2,hv,⟨?_,R2.nd,R2.ow,by rw[Ż];exact R2.len,λm a ds e1 e2=>?_⟩⟩
   ·exact w.nx _ σ _ _ E4 ((A1.frs.trans A2.frs).trans (jl oa hav2 λxs z=>nomatch z)) nx
   ·rw[aj];exact R2.top
    intro z
    exact nd1.1 (by rw[z];exact į hna)
   ·by_cases em:m=n
    ·subst em
     rw[Ē hnl] at e2
     rw[É hna] at e1
     cases e1
     cases e2
     exact⟨_,aq,(rv2.mono (λ_ o=>o) (λ_ _ o=>o.elim) tp).snoc (ry.mono (λ_ o=>o) (λ_ _ o=>o.elim) tp)⟩
    ·rw[ľ (ġ em)] at e2
     obtain⟨vs3,h3,r3⟩:=R2.row m a ds e1 e2
     refine⟨vs3,?_,r3.mono (λ_ o=>o) (λ_ _ o=>o.elim) tp⟩
     rw[aj];exact h3
     intro z
     have hm:=(Ç.mp e1).1
     have hz:as2[m]=as2[n]:=by rw[(Ç.mp e1).2];exact z
     exact em ((List.getElem_inj nd1.2).mp hz)
  |_=>exact q1.elim
 ·exact q.elim)
def Lg(i r:Nat)(ti:DI):DS:=λP ρ=>ti ρ λk ds=>ds.length<=1000/\sS r ρ i=true/\P.nx (ρ.set i (.rw r (Ú ds.length [])))
def je{i n j:Nat}(r:Nat)(h:PS X st (qD (tLC n (Ka ti) (λ_=>Fe (gNm j)) (λ_=>liftT λ_ P=>P true) (λ_=>QX QV)) (iY i))):PDS X st (Lg i r ti):=PS.wk' h (by
 rintro Q σ H ⟨p,H0,own,ρ,P,E,q,w⟩
 refine⟨p,H0,own,ρ,_,E,q,λk ds J H1 Ok h A W o1=>?_⟩
 obtain⟨hlen,hf,nx⟩:=h
 have okS:∀H',Kp p H1 H'->p.PI H'->Ok H':=λH' K i=>W.stab H1 H' o1 (λb o n e=>K b o e (fY A n.1)) (iW A K)
 refine⟨λi m ys H'=>m=ds.length - i/\i<=ds.length/\Kp p H1 H'/\p.PI H'/\∃as:List Addr,ys=as.map V.ref/\as.Nodup/\as.length=i/\∀a∈as,H a=none/\H' a=some (.lst []),⟨_,rfl,ü _,Kp.refl,A.pen,[],rfl,.nil,rfl,λa ha=>nomatch ha⟩,?_⟩
 rintro c i' m ys H' ⟨rfl,hi,K',I',as,rfl,nd,la,hn⟩
 have oH:=okS H' K' I'
 have A':=A.go K' I'
 have h24:=ą
 by_cases hlt:i'<ds.length
 ·refine .inr ⟨W.go i' H' oH hlt,by rw[Ä];omega,λys' H2=>Kp p H1 H2/\p.PI H2/\∃as:List Addr,ys'=as.map V.ref/\as.Nodup/\as.length=i'+1/\∀a∈as,H a=none/\H2 a=some (.lst []),λys' H2 h=>⟨_,by omega,rfl,hlt,h⟩,λx H2 y=>?_⟩
  obtain⟨sm,rx⟩:=W.yld i' H' x H2 oH y
  have rx:=rx ds[i'] (É hlt)
  have I2:p.PI H2:=p.mono H' H2 I' λb o _ e=>sm b o e
  have K2:Kp p H1 H2:=K'.trans (Kp.of sm)
  have A2:=A.go K2 I2
  have E2:EnvD p H0 own σ H2 ρ:=E.go A2.kp A2.pen
  refine⟨p,H0,own,_,_,_,λ_=>True,E2.comp n,fC (Qh A rx),trivial,λσ3 ρ3 E3 t3=>?_⟩
  refine⟨p,H0,own,ρ3,λb=>b=true,E3,rfl,λb H4 h4 A4=>?_⟩
  subst h4
  refine aA ⟨(by show 0<=sizeLine;omega),λl hl=>?_⟩
  have A5:At p H0 own H H4:=A2.base A4
  obtain⟨k7,i7,nw⟩:=A5.new hl (.lst [])
  refine⟨(K2.trans A4.kp).trans k7,i7,as++[l],by rw[ñ];rfl,?_,by rw[Í,la];rfl,λa ha=>?_⟩
  ·refine List.nodup_append.mpr ⟨nd,by simp,λa ha b hb=>?_⟩
   rw[Ë.mp hb]
   intro z
   subst z
   have e:=A4.kp a _ (sm a _ (hn a ha).2) (A.nfb (hn a ha).1)
   rw[hl] at e
   cases e
  ·rcases à.mp ha with z|z
   ·refine⟨(hn a z).1,?_⟩
    have e:=A4.kp a _ (sm a _ (hn a z).2) (A.nfb (hn a z).1)
    exact k7 a _ e (A.nfb (hn a z).1)
   ·rw[Ë.mp z]
    exact⟨nw,aq⟩
 ·have e:i'=ds.length:=by omega
  subst e
  refine .inl ⟨W.stop H' oH,λl hl=>?_⟩
  obtain⟨k7,i7,nw⟩:=A'.new hl (.lst (as.map V.ref))
  have A7:=A'.go k7 i7
  show Q.nx (σ.set i (some (.ref l))) (upd H' l (.lst (as.map V.ref)))
  have E2:EnvD p H0 (aQ r own) σ H (ρ.set i .any):=(E.drop (i:=i)).clear hf
  have A8:At p H0 (aQ r own) H (upd H' l (.lst (as.map V.ref))):=⟨A7.k0,A7.kp,A7.penb,A7.pen,E2.ow⟩
  have E3:=E2.adopt r A8
  have lna:l∉as:=λz=>by rw[(hn l z).2] at hl;cases hl
  have E4:=E3.set (i:=i) (v:=.ref l) (s:=.rw r (Ú ds.length [])) λhli=>⟨l,as,Ē hli,⟨aq,ź.mpr ⟨lna,nd⟩,λa ha=>?_,by rw[la,List.length_replicate],λm a es e1 e2=>?_⟩⟩
  ·rw[List.set_set] at E4
   exact w.nx _ _ _ _ E4 (fO.trans (oM A8)) nx
  ·rcases Ü.mp ha with rfl|ha
   ·exact jG nw aq
   ·exact jG (hn a ha).1 (by rw[aj (λz:a=l=>lna (by rw[←z];exact ha))];exact(hn a ha).2)
  ·have ha:=Ð e1
   have ees:es=[]:=by
    have:=Ð e2
    exact(List.mem_replicate.mp this).2
   subst ees
   exact⟨[],by rw[aj (λz:a=l=>lna (by rw[←z];exact ha))];exact(hn a ha).2,.nil⟩)
def Nk:PD X (.Dict [] [] pos) (λ_ P=>P .new (.dict [])):=PE.wk JD (by
 rintro σ H Q ⟨p,H0,own,ρ,P,E,t,q⟩
 have A:=E.at
 exact λd hd=>let ⟨k2,i2,nw⟩:=A.new hd (.dK []);q _ _ _ _ t (A.go k2 i2) (.dct nw aq .nil))
end
@[reducible] def grL(K:Ý)(sc:Addr)(ns:List Int):Gr:=⟨λp H0=>SqL K H0 sc (ns.map V.int)/\∀b,p.fp b->H0 b=none⟩
def DY(K:Ý):Sp:=λvs H Q _=>∃(a:Addr) (ns:List Int),vs=[.ref a]/\SqL K H a (ns.map V.int)/\∀H',Q (.bl true) H'
section
variable {X:Cx}{k1 k2 j:Nat}{x y z:Str}{ps1 ps2:List Str}{e:Expr}{es1 es2:List Expr}{p1 p2 p3 pos pos1:Pos}{K:Ý}{sc:Addr}{ns:List Int}{C:Pn->Prop}{pre:List D->Prop}{g:List D->(D->Prop)->Prop}{i:Nat}
end
variable [Gr]
section
variable {X:Cx}{pos pos':Pos}{a b:Expr}{t:DA}
end
variable [Gr]
mutual
inductive Tm where
 |int (i:Int)
 |neg (i:Int)
 |bl (b:Bool)
 |non
 |str (s:Str)
 |var (i:Nat)
 |lst (ts:Tms)
 |tup (ts:Tms)
 |dct
inductive Tms where
 |nil
 |cons (t:Tm) (ts:Tms)
end
def QK(sc:Scope)(x:Str):Bool:=sc.names.lookup x == some .local || sc.names.lookup x == some .cell || sc.names.lookup x == some .free
def Mp{sc:Scope}{x:Str}(h:QK sc x=true):Vis sc x:=by
 unfold QK at h
 rw[Bool.or_eq_true,Bool.or_eq_true,beq_iff_eq,beq_iff_eq,beq_iff_eq] at h
 rcases h with (h|h)|h
 ·exact .inl h
 ·exact .inr (.inl h)
 ·exact .inr (.inr h)
mutual
def okT(N:List Str)(sc:Scope):Tm->Expr->Bool
 |.int i,.Constant (.int j) _ _=>i == j
 |.neg i,.UnaryOp .USub (.Constant (.int j) _ _) _=>i == j
 |.bl b,.Constant (.bool c) _ _=>b == c
 |.non,.Constant .none _ _=>true
 |.str s,.Constant (.str u) _ _=>s == u
 |.var i,.Name x _=>N[i]? == some x&&(QK sc x&&(!(x == ("__debug__":Str))&&!(x == ("__classdict__":Str))))
 |.lst ts,.List es _=>j5 N sc ts es
 |.tup ts,.Tuple es _ _=>j5 N sc ts es
 |.dct,.Dict [] [] _=>true
 |_,_=>false
def j5(N:List Str)(sc:Scope):Tms->List Expr->Bool
 |.nil,[]=>true
 |.cons t ts,e::es=>okT N sc t e&&j5 N sc ts es
 |_,_=>false
end
mutual
def evT(ρ:List Sl):Tm->Option (Kd×D)
 |.int i=>some (.imm,.int i)
 |.neg i=>some (.imm,.int (-i))
 |.bl b=>some (.imm,.bool b)
 |.non=>some (.imm,.none)
 |.str s=>some (.imm,.str s)
 |.var i=>match ρ[i]? with
  |some (.im d)=>some (.imm,d)
  |some (.sh d)=>some (.shr,d)
  |some (.sn d)=>some (.snw,d)
  |some (.dw r d)=>some (.reg r,d)
  |_=>none
 |.lst ts=>match iZ ρ ts with
  |some ks=>some ((joins ks).join .new,.list (ks.map (·.2)))
  |none=>none
 |.tup ts=>match iZ ρ ts with
  |some ks=>some (norm (joins ks) (.tuple (ks.map (·.2))),.tuple (ks.map (·.2)))
  |none=>none
 |.dct=>some (.new,.dict [])
def iZ(ρ:List Sl):Tms->Option (List (Kd×D))
 |.nil=>some []
 |.cons t ts=>match evT ρ t,iZ ρ ts with
  |some k,some ks=>some (k::ks)
  |_,_=>none
end
mutual
def smT:Tm->Bool
 |.lst ts=>jH 1000 ts
 |.tup ts=>jH 1000 ts
 |_=>true
def jH:Nat->Tms->Bool
 |_,.nil=>true
 |n+1,.cons t ts=>smT t&&jH n ts
 |0,.cons _ _=>false
end
def QZ(tm:Tm):DE:=λρ P=>∃k d,evT ρ tm=some (k,d)/\P k d
def Wu(ts:Tms):DA:=λρ P=>∃ks,iZ ρ ts=some ks/\P ks
section
variable {X:Cx}{e:Expr}{es:List Expr}
def PD.wk{t t':DE}(h:PD X e t)(w:∀ρ P,t' ρ P->t ρ P):PD X e t':=PE.wk h (by
 rintro σ H Q ⟨p,H0,own,ρ,P,E,t,q⟩
 exact⟨p,H0,own,ρ,P,E,w _ _ t,q⟩)
def PDA.wk{t t':DA}(h:PDA X es t)(w:∀ρ P,t' ρ P->t ρ P):PDA X es t':=PA.wk h (by
 rintro σ H Q ⟨p,H0,own,ρ,P,E,t,q⟩
 exact⟨p,H0,own,ρ,P,E,w _ _ t,q⟩)
theorem Cz{ρ:List Sl}:∀{ts:Tms}{ks:List (Kd×D)}{n:Nat},jH n ts=true->iZ ρ ts=some ks->ks.length<=n
 |.nil,ks,n,_,e=>by
  simp only[iZ] at e
  cases e
  exact ü _
 |.cons t ts,ks,0,h,e=>by simp[jH] at h
 |.cons t ts,ks,n+1,h,e=>by
  simp only[jH,Õ] at h
  simp only[iZ] at e
  cases e1:evT ρ t with
  |none=>rw[e1] at e;cases e
  |some k =>
   cases e2:iZ ρ ts with
   |none=>rw[e1,e2] at e;cases e
   |some ks' =>
    rw[e1,e2] at e
    cases e
    have:=Cz h.2 e2
    rw[ï]
    omega
def DW{N:List Str}{sc:Scope}{t:Tm}(h:okT N sc t e=true):zS X e es:=by
 cases e <;> first
  |rfl
  |(cases t <;> simp[okT] at h)
section
variable {N:List Str}{sc:Scope}
def Oj{i:Int}(h:okT N sc (Tm.int i) e=true):∃k p,e=.Constant (.int i) k p:=by
 generalize ht:(Tm.int i)=t at h
 unfold okT at h
 split at h <;> first
  |exact absurd h Ó
  |(cases ht;rw[beq_iff_eq] at h;subst h;exact⟨_,_,rfl⟩)
  |cases ht
def SJ{i:Bool}(h:okT N sc (Tm.bl i) e=true):∃k p,e=.Constant (.bool i) k p:=by
 generalize ht:(Tm.bl i)=t at h
 unfold okT at h
 split at h <;> first
  |exact absurd h Ó
  |(cases ht;rw[beq_iff_eq] at h;subst h;exact⟨_,_,rfl⟩)
  |cases ht
def Oh(h:okT N sc Tm.non e=true):∃k p,e=.Constant .none k p:=by
 generalize ht:Tm.non=t at h
 unfold okT at h
 split at h <;> first
  |exact absurd h Ó
  |(cases ht;exact⟨_,_,rfl⟩)
  |cases ht
def Og{i:Str}(h:okT N sc (Tm.str i) e=true):∃k p,e=.Constant (.str i) k p:=by
 generalize ht:(Tm.str i)=t at h
 unfold okT at h
 split at h <;> first
  |exact absurd h Ó
  |(cases ht;rw[beq_iff_eq] at h;subst h;exact⟨_,_,rfl⟩)
  |cases ht
def inv_neg{i:Int}(h:okT N sc (Tm.neg i) e=true):∃k p q,e=.UnaryOp .USub (.Constant (.int i) k p) q:=by
 generalize ht:(Tm.neg i)=t at h
 unfold okT at h
 split at h <;> first
  |exact absurd h Ó
  |(cases ht;rw[beq_iff_eq] at h;subst h;exact⟨_,_,_,rfl⟩)
  |cases ht
def Od{i:Nat}(h:okT N sc (Tm.var i) e=true):∃x p,e=.Name x p/\N[i]?=some x/\Vis sc x/\zB x/\(x == ("__classdict__":Str))=false:=by
 generalize ht:(Tm.var i)=t at h
 unfold okT at h
 split at h <;> first
  |exact absurd h Ó
  |(cases ht;rw[Õ,Õ,Õ,beq_iff_eq,Bool.not_eq_true',Bool.not_eq_true'] at h;exact⟨_,_,rfl,h.1,Mp h.2.1,h.2.2.1,h.2.2.2⟩)
  |cases ht
def Oi{ts:Tms}(h:okT N sc (Tm.lst ts) e=true):∃es p,e=.List es p/\j5 N sc ts es=true:=by
 generalize ht:(Tm.lst ts)=t at h
 unfold okT at h
 split at h <;> first
  |exact absurd h Ó
  |(cases ht;exact⟨_,_,rfl,h⟩)
  |cases ht
def Oe{ts:Tms}(h:okT N sc (Tm.tup ts) e=true):∃es k p,e=.Tuple es k p/\j5 N sc ts es=true:=by
 generalize ht:(Tm.tup ts)=t at h
 unfold okT at h
 split at h <;> first
  |exact absurd h Ó
  |(cases ht;exact⟨_,_,_,rfl,h⟩)
  |cases ht
def Ol(h:okT N sc Tm.dct e=true):∃p,e=.Dict [] [] p:=by
 generalize ht:Tm.dct=t at h
 unfold okT at h
 split at h <;> first
  |exact absurd h Ó
  |(cases ht;exact⟨_,rfl⟩)
  |cases ht
end
mutual
theorem Ce{N:List Str}{sc:Scope}(hN:X.N=N)(hs:X.env.scope=sc):∀(t:Tm) (e:Expr),okT N sc t e=true->smT t=true->PD X e (QZ t)
 |.int i,e,h,_=>by
  obtain⟨k,p,rfl⟩:=Oj h
  exact PD.wk iH λρ P ⟨k,d,e,q⟩=>by simp only[evT] at e;cases e;exact q
 |.neg i,e,h,_=>by
  obtain⟨k,p,q,rfl⟩:=inv_neg h
  exact PD.wk (cV iH) λρ P ⟨k,d,e,q⟩=>by simp only[evT] at e;cases e;exact q
 |.bl b,e,h,_=>by
  obtain⟨k,p,rfl⟩:=SJ h
  exact PD.wk Eu λρ P ⟨k,d,e,q⟩=>by simp only[evT] at e;cases e;exact q
 |.non,e,h,_=>by
  obtain⟨k,p,rfl⟩:=Oh h
  exact PD.wk vO λρ P ⟨k,d,e,q⟩=>by simp only[evT] at e;cases e;exact q
 |.str s,e,h,_=>by
  obtain⟨k,p,rfl⟩:=Og h
  exact PD.wk vL λρ P ⟨k,d,e,q⟩=>by simp only[evT] at e;cases e;exact q
 |.var i,e,h,_=>by
  obtain⟨x,p,rfl,h1,h2,h3,h4⟩:=Od h
  refine PD.wk (dv i (by rw[hN];exact h1) (by rw[hs];exact h2) h3 h4) λρ P ⟨k,d,e,q⟩=>?_
  simp only[evT] at e
  unfold tV
  split at e <;> first
   |(cases e;rename_i z;rw[z];exact q)
   |cases e
 |.lst ts,e,h,s=>by
  obtain⟨es,p,rfl,h1⟩:=Oi h
  have s1:jH 1000 ts=true:=by simpa only[smT] using s
  refine PD.wk (p8 (wj hN hs ts es 1000 h1 s1)) λρ P ⟨k,d,e,q⟩=>?_
  simp only[evT] at e
  cases e1:iZ ρ ts with
  |none=>rw[e1] at e;cases e
  |some ks =>
   rw[e1] at e
   cases e
   exact⟨ks,e1,Cz s1 e1,q⟩
 |.tup ts,e,h,s=>by
  obtain⟨es,k,p,rfl,h1⟩:=Oe h
  have s1:jH 1000 ts=true:=by simpa only[smT] using s
  refine PD.wk (lF (wj hN hs ts es 1000 h1 s1)) λρ P ⟨k,d,e,q⟩=>?_
  simp only[evT] at e
  cases e1:iZ ρ ts with
  |none=>rw[e1] at e;cases e
  |some ks =>
   rw[e1] at e
   cases e
   exact⟨ks,e1,Cz s1 e1,q⟩
 |.dct,e,h,_=>by
  obtain⟨p,rfl⟩:=Ol h
  exact PD.wk Nk λρ P ⟨k,d,e,q⟩=>by simp only[evT] at e;cases e;exact q
theorem wj{N:List Str}{sc:Scope}(hN:X.N=N)(hs:X.env.scope=sc):∀(ts:Tms) (es:List Expr) (n:Nat),j5 N sc ts es=true->jH n ts=true->PDA X es (Wu ts)
 |.nil,es,n,h,_=>by
  cases es with
  |nil=>exact PDA.wk jx λρ P ⟨ks,e,q⟩=>by simp only[iZ] at e;cases e;exact q
  |cons e es=>simp[j5] at h
 |.cons t ts,es,n,h,s=>by
  cases es with
  |nil=>simp[j5] at h
  |cons e es =>
   simp only[j5,Õ] at h
   cases n with
   |zero=>simp[jH] at s
   |succ n =>
    simp only[jH,Õ] at s
    refine PDA.wk (dD (Ce hN hs t e h.1 s.1) (wj hN hs ts es n h.2 s.2) (DW h.1)) λρ P ⟨ks,e,q⟩=>?_
    simp only[iZ] at e
    cases e1:evT ρ t with
    |none=>rw[e1] at e;cases e
    |some k =>
     cases e2:iZ ρ ts with
     |none=>rw[e1,e2] at e;cases e
     |some ks' =>
      rw[e1,e2] at e
      cases e
      exact⟨k.1,k.2,e1,ks',e2,q⟩
end
def Tw(ts:Tms)(t:DA):DA:=λρ P=>∃ks,iZ ρ ts=some ks/\t ρ λks'=>P (ks++ks')
theorem Jg{N:List Str}{sc:Scope}(hN:X.N=N)(hs:X.env.scope=sc){t2:DA}{es2:List Expr}(h2:PDA X es2 t2):∀(ts:Tms) (es1:List Expr) (n:Nat),j5 N sc ts es1=true->jH n ts=true->PDA X (es1++es2) (Tw ts t2)
 |.nil,es,n,h,_=>by
  cases es with
  |nil=>exact PDA.wk h2 λρ P ⟨ks,e,q⟩=>by simp only[iZ] at e;cases e;exact q
  |cons e es=>simp[j5] at h
 |.cons t ts,es,n,h,s=>by
  cases es with
  |nil=>simp[j5] at h
  |cons e es =>
   simp only[j5,Õ] at h
   cases n with
   |zero=>simp[jH] at s
   |succ n =>
    simp only[jH,Õ] at s
    refine PDA.wk (dD (Ce hN hs t e h.1 s.1) (Jg hN hs h2 ts es n h.2 s.2) (DW h.1)) λρ P ⟨ks,e,q⟩=>?_
    simp only[iZ] at e
    cases e1:evT ρ t with
    |none=>rw[e1] at e;cases e
    |some k =>
     cases e2:iZ ρ ts with
     |none=>rw[e1,e2] at e;cases e
     |some ks' =>
      rw[e1,e2] at e
      cases e
      exact⟨k.1,k.2,e1,ks',e2,q⟩
def vR(N:List Str)(sc:Scope)(tm:Tm)(h:okT N sc tm e=true)(hN:X.N=N:=by rfl)(hs:X.env.scope=sc:=by rfl)(s:smT tm=true:=by decide +kernel):PD X e (QZ tm):=Ce hN hs tm e h s
def pW(n:Nat)(N:List Str)(sc:Scope)(ts:Tms){t2:DA}(h2:PDA X (es.drop n) t2)(h:j5 N sc ts (es.take n)=true)(hN:X.N=N:=by rfl)(hs:X.env.scope=sc:=by rfl)(s:jH 1000 ts=true:=by decide +kernel):PDA X es (Tw ts t2):=by
 have r:=Jg hN hs h2 ts (es.take n) 1000 h s
 rw[ž] at r
 exact r
end
end Dl
namespace L2
open PySem PySem.Spec PyProof.Rows HT
section
variable {X:Cx}{e:Expr}{te:TE}{p1 p2 p3 pos:Pos}
def T6(K:Ý)(te:TE):TE:=λσ H Q=>te σ H λx H1=>∃a xs,x=.ref a/\SqL K H1 a xs/\∀p,H1 p=none->Q (.ref p) (upd H1 p (.lst xs.reverse))
def Nb(he:PE X e te):PE X (.Subscript e (.Slice none none (some (.UnaryOp .USub (.Constant (.int 1) 0 p1) p2)) p3) pos) (T6 X.K te):=by
 intro pins s σ H Q I h
 refine Subscript_ (thn (he pins s σ H _ I h) λv s1 ⟨x,H1,I1,r1,a,xs,ex,hx,q⟩=>?_)
 subst ex
 cases r1
 refine wpAny_Slice ?_
 rw[evalPart_none,evalPart_some]
 refine Ö (Ö ?_)
 refine UnaryOp_ (wpAny_Constant_int ?_)
 refine neg_int ?_
 have I2:Inv X pins σ H1 { s1 with toks:=s1.toks+1+1 }:=I1.tok _
 have I4:Inv X pins σ H1 { s1 with heap:=s1.heap.push { cls:=.type "slice",data:=.fields #[.none,.none,.int (-1) (s1.toks+1)] },toks:=s1.toks+1+1 }:=I2.kept λb ob q=>Î _ q
 obtain⟨its,r,ht,hz⟩:=I4.list hx
 have hlen:its.toArray.size=xs.length:=by rw[Ò];exact r.length.symm
 show wpAny (model X.prog X.w) X.A (subscriptTail e _ (.ref a) (.ref s1.heap.objs.size)) (EP X pins σ Q) X.xe { s1 with heap:=s1.heap.push { cls:=.type "slice",data:=.fields #[.none,.none,.int (-1) (s1.toks+1)] },toks:=s1.toks+1+1 }
 refine tail_any (ops:=[.ref a,.ref s1.heap.objs.size]) ht.isList.typeIs slot_list_getitem.lookup ?_ (by with_unfolding_all rfl)
 refine wpAny_getItem_list_slice ht.isList (Heap.IsSliceOf.new ..) .none .none (.int (-1) _) (by simp) ?_ (by rw[hlen];exact hz)
 rw[W.krv_pick]
 refine⟨.ref _,_,I4.laid (t':=s1.toks+1+1) (o:=.lst xs.reverse) (λb ob q=>Î _ q) (Ô _) ?_,rfl,q _ (I4.hok.fresh (Ô _))⟩
 refine⟨by rw[ĳ];exact hz,its.reverse,0,r.reverse,?_⟩
 exact Þ _ rfl
end
end L2
namespace Dl
open PySem L2 PyProof.Rows
variable [Gr]
section
variable {X:Cx}{pos p1 p2 p3:Pos}{a b e:Expr}{es:List Expr}{ta tb te:DE}{t:DA}
theorem Rps.rev{ok:Addr->Prop}{H:Hp}:∀{vs:List V}{ds:List D},Rps ok H vs ds->Rps ok H vs.reverse ds.reverse
 |_,_,.nil=>.nil
 |_,_,.cons h t=>by
  rw[List.reverse_cons,List.reverse_cons]
  exact(Rps.rev t).snoc h
def T5(te:DE):DE:=λρ P=>te ρ λk d=>match d with
 |.list ds=>newP k ds.reverse λk'=>P k' (.list ds.reverse)
 |_=>False
theorem pY(he:PD X e te):PD X (.Subscript e (.Slice none none (some (.UnaryOp .USub (.Constant (.int 1) 0 p1) p2)) p3) pos) (T5 te):=PE.wk (Nb he) (by
 rintro σ H Q ⟨p,H0,own,ρ,P,E,t,q⟩
 refine⟨p,H0,own,ρ,_,E,t,λk d v H1 h A r=>?_⟩
 cases d with
 |list ds =>
  obtain⟨x,xs,e1,o,h1,rs⟩:=Rp.aX r
  subst e1
  refine⟨x,xs,rfl,SqL.of h1,λl hl=>?_⟩
  obtain⟨k2,i2,nw⟩:=A.new hl (.lst xs.reverse)
  obtain⟨k',hk',rk'⟩:=eF A (bR A k2 rs.rev) nw aq h
  exact q _ _ _ _ hk' (A.go k2 i2) rk'
 |_=>exact h.elim)
def T3(te:DE)(tl th:DO):DE:=λρ P=>te ρ λk d=>tl ρ λlo=>th ρ λhi=>match d with
 |.list ds=>newP k (cU ds lo hi) λk'=>P k' (.list (cU ds lo hi))
 |.tuple ds=>¬(HT.sIx ds.length 0 lo=0/\HT.sIx ds.length ds.length hi=ds.length)/\P (norm k (.tuple (cU ds lo hi))) (.tuple (cU ds lo hi))
 |_=>False
theorem jP{lo hi:Option Expr}{tl th:DO}(he:PD X e te)(hl:PO X lo (sy tl))(hh:PO X hi (sy th)):PD X (.Subscript e (.Slice lo hi none p2) pos) (T3 te tl th):=PE.wk (yu (SlR.or Eb Q5) he hl hh) (by
 rintro σ H Q ⟨p,H0,own,ρ,P,E,t,q⟩
 refine⟨p,H0,own,ρ,_,E,t,λk d v H1 h A r=>?_⟩
 refine⟨p,H0,own,ρ,_,E.go A.kp A.pen,h,λo1 H2 h2 A2=>?_⟩
 refine⟨p,H0,own,ρ,_,(E.go A.kp A.pen).go A2.kp A2.pen,h2,λo2 H3 h3 A3=>?_⟩
 have A4:=(A.base A2).base A3
 have r3:=gM (A.base A2) A3.kp (gM A A2.kp r)
 cases d with
 |list ds =>
  obtain⟨x,xs,e1,o,h1,rs⟩:=Rp.aX r3
  subst e1
  refine .inl ⟨x,xs,rfl,SqL.of h1,λl hl=>?_⟩
  obtain⟨k2,i2,nw⟩:=A4.new hl (.lst (sZ xs o1 o2))
  obtain⟨k',hk',rk'⟩:=eF A4 (bR A4 k2 (rs.cut o1 o2)) nw aq h3
  exact q _ _ _ _ hk' (A4.go k2 i2) rk'
 |tuple ds =>
  obtain⟨x,xs,e1,h1,rs⟩:=Rp.dG r3
  subst e1
  refine .inr ⟨x,xs,rfl,SqT.of h1,by rw[rs.length];exact h3.1,λl hl=>?_⟩
  obtain⟨k2,i2,nw⟩:=A4.new hl (.tup (sZ xs o1 o2))
  exact q _ _ _ _ h3.2 (A4.go k2 i2) (bx (.tup aq (bR A4 k2 (rs.cut o1 o2))))
 |_=>exact h3.elim)
end
variable [Gr]
abbrev IM:=List (Int×D)
def kvD(m:IM):List (D×D):=m.map λp=>(Â p.1,p.2)
def gn(m:IM)(k:Int):Bool:=m.any λp=>decide (p.1=k)
def mF(m:IM)(k:Int):Option D:=(m.find? λp=>decide (p.1=k)).map (·.2)
def qU(m:IM)(k:Int)(d:D):IM:=if gn m k=true then m.map (λp=>if p.1=k then (p.1,d) else p) else m++[(k,d)]
def Km(m:IM):Bool:=m.all λp=>cL p.2
def Kh{k:Key}{i:Int}(h:kD k=.int i):k=.inl i:=by
 cases k with
 |inl j=>cases h;rfl
 |inr x=>cases h
theorem Rkv.kv:∀{ok:Addr->Prop}{H:Hp}{kvs:List (Key×V)}{m:IM},Rkv ok H kvs (kvD m)->∃vs:List V,kvs=(m.map (·.1)).zipWith (λi v=>(û i,v)) vs/\Rps ok H vs (m.map (·.2))
 |_,_,_,[],h=>by cases h;exact⟨[],rfl,.nil⟩
 |_,_,_,p::m,h=>by
  unfold kvD at h
  rw[ò] at h
  generalize hk:Â p.1=kk at h
  cases h with
  |cons h t =>
   rename_i k v vs0
   obtain⟨vs,rfl,r⟩:=Rkv.kv (m:=m) t
   have e:=Kh hk.symm
   subst e
   exact⟨v::vs,rfl,.cons h r⟩
theorem wz:∀{m:IM}{vs:List V} (k:Int),vs.length=m.length->(((m.map (·.1)).zipWith (λi v=>((û i:Key),v)) vs).any λkv=>decide (kv.1=û k))=gn m k
 |[],[],_,_=>rfl
 |p::m,v::vs,k,h=>by
  have ih:=wz (m:=m) (vs:=vs) k (by simpa using h)
  have e:decide ((û p.1:Key)=û k)=decide (p.1=k):=by
   by_cases c:p.1=k <;> simp[c]
  show(decide ((û p.1:Key)=û k) || _)=(decide (p.1=k) || _)
  rw[e]
  exact congrArg _ ih
 |[],_::_,_,h=>by cases h
 |_::_,[],_,h=>by cases h
def Im{kvs:List (Key×V)}{k:Key}:(gR kvs k).isSome=kvs.any λkv=>decide (kv.1=k):=by
 induction kvs with
 |nil=>rfl
 |cons p r ih =>
  unfold gR at ih ⊢
  rw[ŕ,ũ]
  cases h:decide (p.1=k) with
  |true=>rfl
  |false=>exact ih
theorem Fj:∀{ok:Addr->Prop}{H:Hp}{m:IM}{vs:List V}{k:Int}{d:D},Rps ok H vs (m.map (·.2))->mF m k=some d->∃v,gR ((m.map (·.1)).zipWith (λi v=>((û i:Key),v)) vs) (û k)=some v/\Rp ok H v d
 |_,_,[],_,_,_,_,h=>by cases h
 |_,_,p::m,_,k,d,.cons r t,h=>by
  unfold mF at h
  rw[ŕ] at h
  by_cases c:p.1=k
  ·rw[decide_eq_true c] at h
   cases h
   refine⟨_,?_,r⟩
   show gR ((û p.1,_)::_) (û k)=_
   rw[j7 (by rw[c])]
  ·rw[decide_eq_false c] at h
   obtain⟨v,e,rv⟩:=Fj (m:=m) (k:=k) (d:=d) t h
   refine⟨v,?_,rv⟩
   show gR ((û p.1,_)::_) (û k)=_
   unfold gR at e ⊢
   rw[ŕ,decide_eq_false (λz=>c (Sum.inl.inj z))]
   exact e
def Oc:∀{m:IM}{vs:List V}{k:Int}{v:V}{ok:Addr->Prop}{H:Hp}{d:D},Rps ok H vs (m.map (·.2))->Rp ok H v d->Rkv ok H (putK ((m.map (·.1)).zipWith (λi v=>((û i:Key),v)) vs) (û k) v) (kvD (qU m k d)):=by
 intro m vs k v ok H d rs rv
 have hl:vs.length=m.length:=by rw[rs.length,Ä]
 have all:∀{m:IM}{vs:List V},Rps ok H vs (m.map (·.2))->Rkv ok H ((m.map (·.1)).zipWith (λi v=>((û i:Key),v)) vs) (kvD m):=by
  intro m
  induction m with
  |nil=>intro vs r;cases r;exact .nil
  |cons p m ih =>
   intro vs r
   cases r with
   |cons h t=>exact .cons (k:=û p.1) h (ih t)
 unfold putK qU
 rw[wz k hl]
 by_cases c:gn m k=true
 ·rw[if_pos c,if_pos c]
  clear c hl
  induction m generalizing vs with
  |nil=>cases rs;exact .nil
  |cons p m ih =>
   cases rs with
   |cons h t =>
    have:=ih t
    by_cases cp:p.1=k
    ·have e1:(û p.1:Key)=û k:=by rw[cp]
     show Rkv ok H ((if (û p.1:Key)=û k then ((û p.1:Key),v) else (û p.1,_))::_) (kvD ((if p.1=k then (p.1,d) else p)::_))
     rw[if_pos e1,if_pos cp]
     exact .cons (k:=û p.1) rv this
    ·have e1:¬((û p.1:Key)=û k):=λz=>cp (Sum.inl.inj z)
     show Rkv ok H ((if (û p.1:Key)=û k then ((û p.1:Key),v) else (û p.1,_))::_) (kvD ((if p.1=k then (p.1,d) else p)::_))
     rw[if_neg e1,if_neg cp]
     exact .cons (k:=û p.1) h this
 ·rw[if_neg c,if_neg c]
  have app:∀{a b:List (Key×V)}{x y:List (D×D)},Rkv ok H a x->Rkv ok H b y->Rkv ok H (a++b) (x++y):=by
   intro a b x y h1 h2
   induction a generalizing x with
   |nil=>cases h1;exact h2
   |cons p a ih=>cases h1 with|cons h t=>exact .cons h (ih t)
  unfold kvD
  rw[ñ]
  exact app (all rs) (.cons (k:=û k) rv .nil)
section
variable {X:Cx}{pos pos' p2:Pos}{a b e:Expr}{ta tb te tj tm:DE}{st st2:Stmt}{rest:List Stmt}{ti:DI}{g:DG}{t:DS}
def tD1(ta tb:DE):DE:=λρ P=>ta ρ λ_ d1=>tb ρ λk2 d2=>match d1 with
 |.int i=>(norm k2 d2).le .new=true/\P .new (.dict (kvD [(i,d2)]))
 |_=>False
theorem rD(ha:PD X a ta)(hb:PD X b tb):PD X (.Dict [some a] [b] pos) (tD1 ta tb):=PE.wk (Ng (Jv ha hb M4) rfl rfl (by intro z;cases z) (by show 1<=15;decide)) (by
 rintro σ H Q ⟨p,H0,own,ρ,P,E,t,q⟩
 intro c hc
 have A0:=E.at
 obtain⟨k0,i0,nw⟩:=A0.new hc (.dK [])
 have nf:=A0.nfb hc
 refine⟨p,H0,own,ρ,_,E.go k0 i0,t,λk1 d1 v1 H1 t1 A1 r1=>?_⟩
 refine⟨p,H0,own,ρ,_,(E.go k0 i0).go A1.kp A1.pen,t1,λk2 d2 v2 H2 t2 A2 r2=>?_⟩
 have h1:H1 c=some (.dK []):=A1.kp c _ aq nf
 have h2:H2 c=some (.dK []):=A2.kp c _ h1 nf
 refine⟨h2,?_⟩
 cases d1 with
 |int i =>
  have e1:=Rp.int' r1
  subst e1
  refine⟨[(û i,v2)],rfl,(by show 1<=15;decide),?_⟩
  show Q (.ref c) (upd H2 c (.dK [(û i,v2)]))
  have K:Kp p H (upd H2 c (.dK [(û i,v2)])):=λx o ex nx=>by
   rw[aj (ao ex hc)]
   exact A2.kp x o (A1.kp x o (by rw[aj (ao ex hc)];exact ex) nx) nx
  have PIf:p.PI (upd H2 c (.dK [(û i,v2)])):=p.mono H2 _ A2.pen λx o fx ex=>by
   rw[aj (λz:x=c=>fx.elim (λfx=>nf (by rw[←z];exact fx)) λ⟨_,_,y⟩=>by rw[z,h2,y] at ex;cases ex)];exact ex
  refine q _ _ _ _ t2.2 ⟨A0.k0,K,A0.penb,PIf,A0.ow⟩ (.dct nw aq (.cons (k:=û i) ?_ .nil))
  have rn:Rp (okK p H0 own H1 .new) H2 v2 d2:=gK A2 t2.1 (bx r2)
  refine rn.bQ (λx o n ex=>⟨?_,?_⟩) λx xs ex=>?_
  ·have n:H1 x=none:=n
   cases hx:H x with
   |none=>exact hx
   |some u =>
    have:=A1.kp x u (by rw[aj (ao hx hc)];exact hx) (A2.nfb n)
    rw[n] at this
    cases this
  ·have n:H1 x=none:=n
   rw[aj (λz=>by rw[z,h1] at n;cases n)]
   exact ex
  ·rw[aj (λz=>by rw[z,h2] at ex;cases ex)]
   exact ex
 |_=>exact t2.elim)
def Ov(neg:Bool):G2:=λ_ d1 _ d2 P=>match d1,d2 with
 |.int k,.dict ds=>∃m:IM,ds=kvD m/\P .imm (.bool (if neg then !(gn m k) else gn m k))
 |_,_=>False
def Rp.O4{ok:Addr->Prop}{H:Hp}{v:V}{ds:List (D×D)}(r:Rp ok H v (.dict ds)):∃a kvs,v=.ref a/\ok a/\H a=some (.dK kvs)/\Rkv ok H kvs ds:=by
 cases r with
 |dct o h r=>exact⟨_,_,rfl,o,h,r⟩
def yS:∀σ H Q,aV (t2 (Ov true) ta tb) σ H Q->Dy (aV ta) (aV tb) σ H Q:=by
 rintro σ H Q ⟨p,H0,own,ρ,P,E,t,q⟩
 refine⟨p,H0,own,ρ,_,E,t,λk1 d1 v1 H1 t1 A1 r1=>?_⟩
 refine⟨p,H0,own,ρ,_,E.go A1.kp A1.pen,t1,λk2 d2 v2 H2 t2 A2 r2=>?_⟩
 have A:=A1.base A2
 unfold Ov at t2
 split at t2
 ·rename_i k ds
  obtain⟨m,rfl,t2⟩:=t2
  have e1:=Rp.int' r1
  subst e1
  obtain⟨c,kvs,rfl,o,hc,rk⟩:=Rp.O4 r2
  obtain⟨vs,rfl,rs⟩:=rk.kv
  refine⟨c,_,rfl,xH.k (k:=û k) hc,?_⟩
  rw[Im,wz k (by rw[rs.length,Ä])]
  exact q _ _ _ _ t2 A (.bl _)
 ·exact t2.elim
def hu1(hu:X.A.units+64<cLine):X.A.units+1<cLine:=by omega
def fV(hu:X.A.units+64<cLine)(ha:PD X a ta)(hb:PD X b tb)(hm:behindInMarks .NotIn b=false:=by rfl):PDT X (.Compare a [.NotIn] [b] pos) (cJ (t2 (Ov true) ta tb)):=PT.wk (Rj (GD (hu1 hu) ha hb) hm) λσ H Q q=>yS σ H _ (by
 obtain⟨p,H0,own,ρ,P,E,t,q⟩:=q
 refine⟨p,H0,own,ρ,_,E,t,λk d v H' h A r=>?_⟩
 cases d with
 |bool b=>exact⟨b,Rp.bl' r,q b H' h A⟩
 |_=>exact h.elim)
def KJ:G2:=λk1 d1 _ d2 P=>match d1,d2 with
 |.dict ds,.int k=>∃(m:IM) (d:D),ds=kvD m/\mF m k=some d/\P (norm k1 d) d
 |_,_=>False
def qb(hu:X.A.units+64<cLine)(ha:PD X a ta)(hb:PD X b tb)(hs:Ph b:=by exact λ_ _=>rfl):PD X (.Subscript a b pos) (t2 KJ ta tb):=PE.wk (Nh (hu1 hu) ha hb hs) (by
 rintro σ H Q ⟨p,H0,own,ρ,P,E,t,q⟩
 refine⟨p,H0,own,ρ,_,E,t,λk1 d1 v1 H1 t1 A1 r1=>?_⟩
 refine⟨p,H0,own,ρ,_,E.go A1.kp A1.pen,t1,λk2 d2 v2 H2 t2 A2 r2=>?_⟩
 have A:=A1.base A2
 unfold KJ at t2
 split at t2
 ·rename_i ds k
  obtain⟨m,d,rfl,hg,t2⟩:=t2
  have e2:=Rp.int' r2
  subst e2
  obtain⟨c,kvs,rfl,o,hc,rk⟩:=Rp.O4 (gM A1 A2.kp r1)
  obtain⟨vs,rfl,rs⟩:=rk.kv
  obtain⟨v,ev,rv⟩:=Fj rs hg
  refine⟨c,v,rfl,?_,q _ _ _ _ t2 A (bx rv)⟩
  rw[←ev]
  exact xH.k (k:=û k) hc
 ·exact t2.elim)
def Lh(i:Nat)(tk tv:DE):DS:=λP ρ=>match ρ[i]? with
 |some (.dw r (.dict ds))=>tv ρ λ_ dv=>tk ρ λ_ dk=>match dk with
  |.int k=>∃m:IM,ds=kvD m/\cL dv=true/\Km m=true/\m.length<1000/\P.nx ((forget r ρ).set i (.dw r (.dict (kvD (qU m k dv)))))
  |_=>False
 |_=>False
theorem yZ{ok:Addr->Prop}{H:Hp}:∀{m:IM}{vs:List V},Km m=true->Rps ok H vs (m.map (·.2))->Rps (λ_=>False) H vs (m.map (·.2))
 |[],_,_,.nil=>.nil
 |p::m,_,h,.cons r t=>by
  unfold Km at h
  rw[Ū,Õ] at h
  exact .cons (r.imm h.1) (yZ (m:=m) h.2 t)
def wL{i:Nat}{tk tv:DE}(h:PS X st (PK (j9 i) (aV tk) (aV tv))):PDS X st (Lh i tk tv):=PS.wk' h (by
 rintro Q σ H ⟨p,H0,own,ρ,P,E,t,w⟩
 unfold Lh at t
 split at t
 ·rename_i r ds hr
  obtain⟨v,hv,_⟩:=E.slot i _ hr
  refine⟨p,H0,own,ρ,_,E,t,λkv dv vv H1 t1 A1 r1=>?_⟩
  have E1:=E.go A1.kp A1.pen
  refine⟨v,hv,p,H0,own,ρ,_,E1,t1,λkk dk vk H2 t2 A2 r2=>?_⟩
  have E2:=E1.go A2.kp A2.pen
  cases dk with
  |int k =>
   obtain⟨m,rfl,im,imm,hlen,nx⟩:=t2
   obtain⟨v',hv',x⟩:=E2.slot i _ hr
   rw[hv] at hv'
   cases hv'
   obtain⟨l,kvs,rfl,o,hl,rk⟩:=Rp.O4 x
   obtain⟨vs,rfl,rs⟩:=rk.kv
   have ek:=Rp.int' r2
   subst ek
   have h24:=ą
   have rs0:=yZ imm rs
   have rv0:Rp (λ_=>False) H2 vv dv:=(gM A1 A2.kp r1).imm im
   have ln:((m.map (·.1)).zipWith (λi v=>((û i:Key),v)) vs).length=m.length:=by
    rw[List.length_zipWith,Ä,rs.length,Ä,Nat.min_self]
   refine⟨l,_,rfl,LR.k (k:=û k) hl (by rw[ln];omega),?_⟩
   have rp:=Oc (k:=k) rs0 rv0
   generalize putK ((m.map (·.1)).zipWith (λi v=>((û i:Key),v)) vs) (û k) vv=kvs' at rp
   have tp:∀a xs,H2 a=some (.tup xs)->upd H2 l (.dK kvs') a=some (.tup xs):=λa xs e=>by
    rw[aj (λz=>by rw[z,hl] at e;cases e)];exact e
   have E3:=(E2.write (o':=.dK kvs') o hl λxs z=>nomatch z).put (v:=.ref l) (i:=i) (s:=.dw r (.dict (kvD (qU m k dv)))) ⟨_,hv,.dct o aq (rp.mono (λ_ o=>o.elim) (λ_ _ o=>o.elim) tp)⟩
   exact w.nx _ σ _ _ E3 ((A1.frs.trans A2.frs).trans (jl o hl λxs z=>nomatch z)) nx
  |_=>exact t2.elim
 ·exact t.elim)
def TY(te:DE):DT:=λρ P=>te ρ λ_ d=>match d with
 |.list ds=>P (!ds.isEmpty)
 |.tuple ds=>P (!ds.isEmpty)
 |.bool b=>P b
 |_=>False
def La{ok:Addr->Prop}{H:Hp}{vs:List V}{ds:List D}(r:Rps ok H vs ds):(!vs.isEmpty)=!ds.isEmpty:=by
 cases r <;> rfl
def pU(h:PD X e te)(he:∀whole,isTrue e X.env whole=(do let v ←whole;standAt e.pos;holding [v] (truthy v)):=by intro _;rfl):PDT X e (TY te):=PT.wk (Jr h he) (by
 rintro σ H Q ⟨p,H0,own,ρ,P,E,t,q⟩
 refine⟨p,H0,own,ρ,_,E,t,λk d v H' h A r=>?_⟩
 cases d with
 |list ds =>
  obtain⟨c,vs,rfl,o,hc,rs⟩:=Rp.aX r
  exact⟨_,.inl ⟨vs,SqL.of hc,rfl⟩,by rw[La rs];exact q _ _ h A⟩
 |tuple ds =>
  obtain⟨c,vs,rfl,hc,rs⟩:=Rp.dG r
  exact⟨_,.inr (.inl ⟨vs,SqT.of hc,rfl⟩),by rw[La rs];exact q _ _ h A⟩
 |bool b =>
  have e:=Rp.bl' r
  subst e
  exact⟨b,rfl,q _ _ h A⟩
 |_=>exact h.elim)
end
variable [Gr]
section
variable {X:Cx}{te te1 te2 tj tm:DE}{st st2:Stmt}{rest:List Stmt}{t:DS}
end
variable [Gr]
section
variable {X:Cx}{te tj:DE}{st:Stmt}{t:DS}
end
end Dl
namespace L2
open PySem PySem.Spec PyProof.Rows
def Pj(K:Ý)(a:Addr):It :=
 ⟨λi H=>∃xs x,SqL K H a xs/\xs[i]?=some x,λi H x H'=>∃t v,x=.ref t/\H t=none/\H'=upd H t (.tup [.int i,v])/\∀xs,SqL K H a xs->xs[i]?=some v,λi H=>∃xs,SqL K H a xs/\xs.length<=i⟩
def Al{P:Program}{w:World}{K:Ý}{elts:List Expr}{kk:Nat}{pos:Pos}(a e it:Addr)(hei:e≠it) :
  Turn P w K (.Tuple elts kk pos) (Pj K a) [e,it] e (λi h=>(∃old,IsEnum h e it i old)/\h.IsListIter it a i) where
 mem:=by simp
 obj:=λi h st b hb=>by
  obtain⟨⟨old,he⟩,o,ho,hc,hd⟩:=st
  rcases Ü.mp hb with rfl|hb
  ·exact⟨_,he,λv z=>nomatch z⟩
  ·have e1:b=it:=by simpa using hb
   subst e1
   exact⟨o,ho,λv z=>by rw[hd] at z;cases z⟩
 keep:=λi h h' st k=>by
  obtain⟨⟨old,he⟩,o,ho,r⟩:=st
  exact⟨⟨old,k e (by simp) _ he⟩,o,k it (by simp) _ ho,r⟩
 item:=by
  intro X hP hw hK hc i pins s σ H E I hf st hg
  subst hP hw hK
  obtain⟨xs,x,hq,hx⟩:=hg
  obtain⟨its,rv,p,hz⟩:=I.list hq
  obtain⟨u,hu,ru⟩:=rv.get hx
  obtain⟨⟨old,he⟩,hit⟩:=st
  have hai:a≠it:=λz=>by
   obtain⟨o,_,ho,hc1,_⟩:=p
   obtain⟨o',ho',hc2,_⟩:=hit
   rw[z,ho'] at ho
   cases ho
   rw[hc2] at hc1
   injection hc1 with z2
   exact absurd z2 (by decide)
  have hae:e≠a:=λz=>by
   obtain⟨o,_,ho,hc1,_⟩:=p
   have he':s.heap.get? e=some _:=he
   rw[z,ho] at he'
   cases he'
   have z1:ĉ "enumerate"=ĉ "list":=hc1
   injection z1 with z2
   exact absurd z2 (by decide)
  have hlt:i<its.toArray.size:=by have:=(Ç.mp hu).1;simpa using this
  obtain⟨e0,e1,e2,e3,e4,e5⟩:=hf e (by simp)
  obtain⟨f0,f1,f2,f3,f4,f5⟩:=hf it (by simp)
  have D:=Draws.list (prog:=X.prog) (w:=X.w) (A:=X.A.in1) (I.ok.hd hc) it a hai its.toArray
  refine wpAny_pyNext_enum_itemD D he ⟨hit,p.isList⟩ hlt hei (by simp[hei,hae]) λx' h' tk hP ho hs' hT hsz hk=>⟨_,rfl,?_⟩
  have ex:x'=u:=by
   have hP':its[i]?=some x':=by simpa using hP
   rw[hu] at hP'
   exact(Ø hP').symm
  subst ex
  refine wpAny_letOwnedTupleGo_enum ho λh2 he2 hs2=>?_
  have hTn:H s.heap.objs.size=none:=I.hok.fresh (Ô _)
  have keep2:∀b o,b≠e->b≠it->s.heap.get? b=some o->h2.get? b=some o:=λb o hb1 hb2 q=>(hs2.2 b hb1).trans (hk b o hb1 hb2 q)
  have hTe:s.heap.objs.size≠e:=Ļ (Ï he)
  have hTup:h2.get? s.heap.objs.size=some { cls:=.type "tuple",data:=.seq #[.int i tk,x'] }:=(hs2.2 _ hTe).trans hT
  have J:Inv X pins σ (upd H s.heap.objs.size (.tup [.int i,x])) { s with heap:=h2,toks:=tk+1 }:=by
   refine I.step (g':=s.gens) (d':=s.drawn) (t':=tk+1) (ch:=[e,it]) (λb hb=>?_) (λb o _ _ hcb q _=>keep2 b o (λz=>hcb (by simp[z])) (λz=>hcb (by simp[z])) q)
    (λb o _ _ hcb q _=>⟨o.slots,keep2 b o (λz=>hcb (by simp[z])) (λz=>hcb (by simp[z])) q⟩) (λb o _ q n=>by rw[aj (ä (Ï q))];exact n)
    (λb o hcb q=>⟨o,keep2 b o (λz=>hcb (by simp[z])) (λz=>hcb (by simp[z])) q⟩) (λb ys q=>by rw[aj (ao q hTn)];exact q) (λb o y q=>by rw[aj (ao q hTn)];exact q)
    (λb ps q=>⟨#[],by rw[aj (ao q hTn),q];simp⟩) (λm hm=>?_) ?_ I.bare
   ·rcases Ü.mp hb with rfl|hb
    ·exact⟨e3,e1,e4,e5⟩
    ·have z:b=it:=by simpa using hb
     subst z
     exact⟨f3,f1,f4,f5⟩
   ·obtain⟨o,es,ep,ho',r⟩:=hm
    exact⟨o,es,ep,keep2 _ o (ġ e1) (ġ f1) ho',r⟩
   ·intro b u' q
    have nT:∀{c y},H c=some y->c≠e/\c≠it:=λ{c y} z=>⟨λv=>(by rw[v,e0] at z;exact nomatch z),λv=>(by rw[v,f0] at z;exact nomatch z)⟩
    by_cases hb:b=s.heap.objs.size
    ·subst hb
     rw[aq] at q
     cases q
     exact⟨(by show 2<=sizeLine;decide),[.int i tk,x'],.cons ⟨_,rfl⟩ (.cons ru .nil),_,hTup,rfl,_,rfl⟩
    ·rw[aj hb] at q
     refine(I.hok b u' q).stay (λc v hcv y=>keep2 c v ?_ ?_ y) (λc y=>by rw[aj (ao y hTn)];exact y) λc ys y=>by rw[aj (ao y hTn)];exact y
     ·rcases hcv with rfl|z
      ·exact(nT q).1
      ·exact(nT z).1
     ·rcases hcv with rfl|z
      ·exact(nT q).2
      ·exact(nT z).2
  refine⟨.ref s.heap.objs.size,_,J,rfl,⟨_,x,rfl,hTn,rfl,λys hy=>by rw[I.lX hy hq];exact hx⟩,⟨⟨x',?_⟩,?_⟩,λb hb=>?_⟩
  ·have he3:IsEnum h2 e it ((i:Int)+1) x':=by simpa using he2
   have ec:((i+1:Nat):Int)=(i:Int)+1:=by omega
   rw[ec]
   exact he3
  ·obtain⟨o,ho2,r⟩:=hs'.1
   exact⟨o,(hs2.2 it (ġ hei)).trans ho2,r⟩
  ·rw[aj]
   ·exact(hf b hb).1
   ·rcases Ü.mp hb with rfl|hb
    ·exact ġ hTe
    ·have z:b=it:=by simpa using hb
     subst z
     obtain⟨o,ho2,_⟩:=hit
     exact ä (Ï ho2)
 done:=by
  intro X hP hw hK hc i pins s σ H E I hf st hg
  subst hP hw hK
  obtain⟨xs,hq,hx⟩:=hg
  obtain⟨its,rv,p,hz⟩:=I.list hq
  obtain⟨⟨old,he⟩,hit⟩:=st
  obtain⟨f0,f1,f2,f3,f4,f5⟩:=hf it (by simp)
  have hl:=rv.length
  have hT:s.TypeIs (.ref e) "enumerate":=⟨_,he,rfl⟩
  unfold pyNext
  refine Æ (wpAny_attempt (Ł (name:=Ś "__next__") hT ļ
   (ĵ ļ hT PySem.F.entry_enumerate_next ?_ (PySem.F.args_enumerate_next_1 _))))
  show wpAny _ _ (field (.ref e) 2 >>= _) _ _ _
  refine Æ (ů he rfl (x:=.ref it) rfl ?_)
  refine Æ (wpAny_nextOf_list_end (I.ok.hd hc) hit p.isList (by simp;omega) λh' x he' hx'=>?_)
  obtain⟨o,ho,hc'⟩:=hx'
  refine Æ (wpAny_isInstance (T:="StopIteration") (b:=true) ⟨o,ho,hc'⟩ isSubtype_stop ?_)
  exact Ö ⟨rfl,I.turned (t':=s.toks) (λb o hb e=>he' b o hb e) f0 f1 f3 f4 f5⟩
 self:=λA i s Q E st h=>by
  obtain⟨⟨old,he⟩,_⟩:=st
  have hT:s.TypeIs (.ref e) "enumerate":=⟨_,he,rfl⟩
  refine wpAny_pyIter_slot hT Ÿ (ĵ Ÿ hT PySem.F.entry_enumerate_iter ?_ (PySem.F.args_enumerate_iter_1 _))
  show wpAny _ _ (ret (.ref e)) _ _ s
  exact Ö ⟨_,rfl,"enumerate",_,hT,ļ.lookup,h⟩
def SN(K:Ý)(ta:TA):TI:=λσ H R=>ta σ H λvs H1=>∃a,vs=[.ref a]/\(∃xs,SqL K H1 a xs)/\R (Pj K a) H1
def Jy{X:Cx}{elts:List Expr}{kk:Nat}{tpos:Pos}{a:Expr}{ta:TA}{p pos:Pos}(hg:Gl X "enumerate")(hm:X.mg "enumerate"=none)(ha:PA X [a] ta)(hs:starEach [a] X.env=[(false,eval a X.env)]:=by rfl):PI X (.Tuple elts kk tpos) (.Call (.Name "enumerate" p) [a] [] pos) (SN X.K ta):=by
 intro pins s σ H R I h
 refine Call_ (dJ I hg hm boot_enumerate (ć (thn (ha pos pins s σ H _ I h) λus s1 ⟨vs,H1,I1,r1,q1⟩=>?_) hs rfl))
 obtain⟨b,e,⟨xs,hq⟩,q⟩:=q1
 subst e
 obtain⟨u,rfl,rx⟩:=vals1 r1
 cases rx
 obtain⟨its,rv,pt,hz⟩:=I1.list hq
 refine call_enumerate_list pt.isList λh' he hit hsz hk=>?_
 have I2:Inv X pins σ H1 { s1 with heap:=h' }:=I1.kept (t':=s1.toks) hk
 have T:Turn X.prog X.w X.K (.Tuple elts kk tpos) (Pj X.K b) [s1.heap.objs.size+1,s1.heap.objs.size] (s1.heap.objs.size+1) (λi h=>(∃old,IsEnum h (s1.heap.objs.size+1) s1.heap.objs.size i old)/\h.IsListIter s1.heap.objs.size b i):=Al b _ _ (Ļ (ō _))
 refine T.self _ 0 _ _ _ ⟨⟨_,he⟩,hit⟩ ⟨_,_,_,_,H1,rfl,I2,T,⟨⟨_,he⟩,hit⟩,λc hc=>?_,q⟩
 rcases Ü.mp hc with rfl|hc
 ·exact I1.zA (Ň _) (I1.hok.fresh (Ň _))
 ·have z:c=s1.heap.objs.size:=by simpa using hc
  subst z
  exact I1.zA (Ô _) (I1.hok.fresh (Ô _))
end L2
namespace Dl
open PySem L2 PyProof.Rows
variable [Gr]
section
variable {X:Cx}{tg:Expr}{pos:Pos}{ta:DA}
def Ai{K:Ý}{ok:Addr->Prop}{a:Addr}{ds:List D}:Wlk (λH=>Rp ok H (.ref a) (.list ds)) (Pj K a) (mJ ds) ok where
 go:=λi H r hi=>by
  obtain⟨b,vs,e,_,h,rs⟩:=r.aX
  cases e
  have:i<vs.length:=by rw[rs.length];rw[cI] at hi;exact hi
  exact⟨vs,vs[i],SqL.of h,by simp[this]⟩
 stop:=λH r=>by
  obtain⟨b,vs,e,_,h,rs⟩:=r.aX
  cases e
  exact⟨vs,SqL.of h,by rw[rs.length,cI];exact Ô _⟩
 yld:=λi H x H' r y=>by
  obtain⟨t,v,rfl,ht,rfl,y⟩:=y
  have sm:Same H (upd H t (.tup [.int i,v])):=λb u q=>by rw[aj (ao q ht)];exact q
  refine⟨sm,λd hd=>?_⟩
  obtain⟨b,vs,e,_,h,rs⟩:=r.aX
  cases e
  rw[cX] at hd
  cases he:ds[i]? with
  |none=>rw[he] at hd;cases hd
  |some d0 =>
   rw[he] at hd
   have e:=Ø hd
   subst e
   obtain⟨v',hv,rv⟩:=rs.getD he
   have:=y vs (SqL.of h)
   rw[hv] at this
   cases this
   exact .tup aq (.cons (.int _) (.cons (rv.mono (λ_ o=>o) (λa o _ e=>sm a o e) λa xs e=>sm a _ e) .nil))
 stab:=λH H' r f t=>r.bQ (λa o n e=>⟨n,f a o n e⟩) t
def Vf(ta:DA):DI:=λρ P=>ta ρ λks=>match ks with
 |[(k,.list ds)]=>P k (mJ ds)
 |_=>False
def mL{elts:List Expr}{kk:Nat}{tpos:Pos}{a:Expr}{ps:Pos}(hm:X.mg "enumerate"=none)(ha:PDA X [a] ta)(hg:Gl X "enumerate":=by rfl)(hs:starEach [a] X.env=[(false,eval a X.env)]:=by rfl):PDI X (.Tuple elts kk tpos) (.Call (.Name "enumerate" ps) [a] [] pos) (Vf ta):=PI.wk (Jy hg hm ha hs) (by
 rintro σ H R ⟨p,H0,own,ρ,P,E,t,q⟩
 refine⟨p,H0,own,ρ,_,E,t,λks vs H1 h A r=>?_⟩
 split at h
 ·rename_i k ds
  obtain⟨v,rfl,r'⟩:=cj r
  obtain⟨a,vs,e,_,ha,rs⟩:=Rp.aX r'
  subst e
  exact⟨a,rfl,⟨vs,SqL.of ha⟩,q k _ _ H1 _ h A Ai (rpA r')⟩
 ·exact h.elim)
end
section
variable {X:Cx}
def Hw(hc:X.calm=true):aP X (.builtin "min") (λxs H Q=>∃(p:Addr) (ns:List Int),xs=[.ref p]/\SqL X.K H p (ns.map V.int)/\ns≠[]/\∀M,M∈ns->(∀a∈ns,M<=a)->Q (.int M) H):=by
 intro pins s σ H xs us Q I r h
 obtain⟨p,ns,rfl,hp,hne,q⟩:=h
 obtain⟨u,rfl,rx⟩:=vals1 r
 cases rx
 obtain⟨its,rv,pl,hz⟩:=I.list hp
 have hi:IntsAre its ns:=intsAre_of rv
 obtain⟨zs,e⟩:=hi.allInts.items
 have hns:ns=zs.toList.map (·.1):=by rw[←hi.numsOf,←nums_intItems,←e]
 have hsz:0<zs.size:=by
  have h3:=Ĵ.mpr hne
  rw[hns,Ä,Ę] at h3;exact h3
 have hl:=pl.isList
 rw[e] at hl
 refine min_intList (I.ok.hd hc) hl hsz λv h' tk hv hk=>?_
 obtain⟨t,rfl⟩:=intItems_at hv
 obtain⟨h1,h2⟩:=argBest_lt (numAt zs) (zs.size - 1)
 refine⟨.int _,H,I.kept λb o eb=>hk b o eb,⟨_,rfl⟩,q _ ?_ λa ha=>?_⟩
 ·rw[hns,numAt_eq];refine getD_mem ?_;rw[Ä,Ę];omega
 ·rw[hns] at ha
  obtain⟨j,hj,rfl⟩:=mem_getD ha
  rw[Ä,Ę] at hj
  have h3:=h2 j (by omega)
  rw[←numAt_eq];exact h3
def Hy(hc:X.calm=true):aP X (.builtin "max") (λxs H Q=>∃(p:Addr) (ns:List Int),xs=[.ref p]/\SqL X.K H p (ns.map V.int)/\ns≠[]/\∀M,M∈ns->(∀a∈ns,a<=M)->Q (.int M) H):=by
 intro pins s σ H xs us Q I r h
 obtain⟨p,ns,rfl,hp,hne,q⟩:=h
 obtain⟨u,rfl,rx⟩:=vals1 r
 cases rx
 obtain⟨its,rv,pl,hz⟩:=I.list hp
 have hi:IntsAre its ns:=intsAre_of rv
 obtain⟨zs,e⟩:=hi.allInts.items
 have hns:ns=zs.toList.map (·.1):=by rw[←hi.numsOf,←nums_intItems,←e]
 have hsz:0<zs.size:=by
  have h3:=Ĵ.mpr hne
  rw[hns,Ä,Ę] at h3;exact h3
 have hl:=pl.isList
 rw[e] at hl
 refine max_intList (I.ok.hd hc) hl hsz λv h' tk hv hk=>?_
 obtain⟨t,rfl⟩:=intItems_at hv
 obtain⟨h1,h2⟩:=argBest_gt (numAt zs) (zs.size - 1)
 refine⟨.int _,H,I.kept λb o eb=>hk b o eb,⟨_,rfl⟩,q _ ?_ λa ha=>?_⟩
 ·rw[hns,numAt_eq];refine getD_mem ?_;rw[Ä,Ę];omega
 ·rw[hns] at ha
  obtain⟨j,hj,rfl⟩:=mem_getD ha
  rw[Ä,Ę] at hj
  have h3:=h2 j (by omega)
  rw[←numAt_eq];exact h3
def Hs(hc:X.calm=true):aP X (.builtin "sum") (λxs H Q=>∃(p:Addr) (ns:List Int),xs=[.ref p]/\SqT X.K H p (ns.map V.int)/\ns.length<=1000/\(∀x∈ns,-1000000<=x/\x<=1000000)/\Q (.int ns.sum) H):=by
 intro pins s σ H xs us Q I r h
 obtain⟨p,ns,rfl,hp,hl,hs,q⟩:=h
 obtain⟨u,rfl,rx⟩:=vals1 r
 cases rx
 obtain⟨its,rv,pl,hz⟩:=I.tuple hp
 have hlen:its.length=ns.length:=by have:=rv.length;rw[Ä] at this;exact this.symm
 have hltp:p<s.heap.objs.size:=by obtain⟨o,ho,_⟩:=pl;exact Ï ho
 have at':∀i v,its[i]?=some v->∃t,v=œ (ns.getD i 0) t:=λi v e=>by
  have hi:i<its.length:=(Ç.mp e).1
  have hv:(ns.map V.int)[i]?=some (V.int ns[i]):=by rw[Û,É (show i<ns.length by omega)];rfl
  obtain⟨u,eu,ru⟩:=rv.get hv
  rw[e] at eu
  cases eu
  obtain⟨t,rfl⟩:=ru
  exact⟨t,by rw[ö,É (show i<ns.length by omega)];rfl⟩
 refine call_sum_walk (ţ pl ?_)
 refine⟨_,_,_,_,_,_,λi=>ns.getD i 0,rfl,Walks.tuple (A:=X.A.in1) (I.ok.hd hc) _ p (ä hltp) _,⟨⟨_,Þ _ rfl,rfl,rfl⟩,pl.push _⟩,?_,λi v e=>at' i v (by simpa using e),λj hj=>?_,λh' tk t' hk=>?_⟩
 ·intro b hb
  show b<(s.heap.push _).objs.size
  rw[ĸ]
  simp at hb
  rcases hb with rfl|rfl
  ·exact ō _
  ·exact ď hltp
 ·have hj:j<ns.length:=by simpa[hlen] using hj
  have e:ns.getD j 0=ns[j]:=by rw[ö,É hj];rfl
  have b1:=hs _ (į hj)
  have b2:=mY (ns.take (j+1)) 1000000 λx hx=>hs x (Ő hx)
  have b3:(ns.take (j+1)).length<=1000:=by rw[ě];omega
  rw[lD ns (j+1) hj]
  refine⟨?_,?_⟩
  ·show -(2 ^ 63)<=ns.getD j 0/\ns.getD j 0<2 ^ 63
   rw[e]
   omega
  ·show -(2 ^ 63)<=(ns.take (j+1)).sum/\(ns.take (j+1)).sum<2 ^ 63
   omega
 ·have e:PySem.preSum (λi=>ns.getD i 0) its.toArray.size=ns.sum:=by
   rw[Ò,hlen,lD ns ns.length (Ô _),Į]
  rw[e]
  refine⟨.int ns.sum,H,I.kept λb o eb=>hk b o ?_ (Î _ eb),⟨_,rfl⟩,q⟩
  intro hm
  have:b=s.heap.objs.size:=by simpa using hm
  exact absurd (this ▸ Ï eb) (ċ _)
end
section
variable {prog:Program}{w:World}{A:Around}{E:Value->Shared->Prop}
theorem zN{it l:Addr}{items:Array Value}(hne:l≠it):∀(n i:Nat) (s:Shared) (Q:List Value->Shared->Prop),s.heap.IsListIter it l i->s.heap.IsList l items->i+n<=items.size ->
  (∀h',h'.IsListIter it l (i+n)->Heap.SameBut it s.heap h'->Q ((items.toList.drop i).take n) { s with heap:=h' })->wpAny (model prog w) A (draw (.ref it) n) Q E s
 |0,i,s,Q,hit,_,_,hQ=>by
  show wpAny _ _ (pure []) Q E s
  exact Ö (by simpa using hQ s.heap hit (Heap.SameBut.refl ..))
 |n+1,i,s,Q,hit,hl,hle,hQ=>by
  have hlt:i<items.size:=by omega
  show wpAny _ _ (pyNext (.ref it) >>= _) Q E s
  refine Æ (wpAny_pyNext_list_item hit hl (x:=items[i]) (by simp[hlt]) λh₁ hit₁ hs₁=>?_)
  refine Æ (Ě (zN hne n (i+1) _ _ hit₁ (hl.extBut hs₁.extBut hne) (by omega) λh₂ hit₂ hs₂=>Ö ?_))
  have hd:items.toList.drop i=items[i]::items.toList.drop (i+1):=by simp[Ţ,hlt]
  have z:=hQ h₂ (by rw[show i+(n+1)=i+1+n by omega];exact hit₂) (hs₁.trans hs₂)
  rw[hd,List.take_succ_cons] at z
  exact z
def pB{s:Shared}{l:Addr}{items:Array Value}{Q:List Value->Shared->Prop}(hh:A.handled=none)(hl:s.heap.IsList l items)(hQ:∀h',Heap.ExtBut s.heap.objs.size s.heap h'->Q items.toList { s with heap:=h' }):wpAny (model prog w) A (unpackItems (.ref l) items.size none) Q E s:=by
 have hlt:l≠s.heap.objs.size:=by obtain⟨o,ho,_⟩:=hl;exact ä (Ï ho)
 unfold unpackItems
 refine Æ ?_
 unfold notIterableAtAll
 refine Æ (wpAny_specialOf hl.typeIs slot_list_iter.lookup ?_)
 refine Ö ?_
 simp only[if_false,Ĭ]
 refine Æ (Ě (wpAny_pyIter_list hl ?_))
 refine Æ (Ě (zN hlt items.size 0 _ _ ⟨_,Þ _ rfl,rfl,rfl⟩ (hl.push _) (by omega) λh₁ hit₁ hs₁=>?_))
 have hall:List.take items.size (List.drop 0 items.toList)=items.toList:=by rw[List.drop_zero];refine Ŵ ?_;simp
 rw[hall,if_neg (by simp)]
 have hl₁:h₁.IsList l items:=(hl.push _).extBut hs₁.extBut hlt
 refine Æ (Ě (wpAny_pyNext_list_end hh hit₁ hl₁ (by simp) λh₂ he₂=>?_))
 simp only[if_false,Option.isSome_none,Ĭ]
 exact Ö (hQ h₂ λb o hb e=>he₂ b o hb (hs₁.extBut b o hb (Î _ e)))
def oK{s:Shared}{env:Env}{elts:List Expr}{x1}{pos:Pos}{l:Addr}{items:Array Value}{Q:Unit->Shared->Prop}(hh:A.handled=none)(hl:s.heap.IsList l items)(hn:(assignEach elts env).length=items.size)(hstar:(assignEach elts env).findIdx? (·.1)=none)(h:∀h',Heap.ExtBut s.heap.objs.size s.heap h'->wpAny (model prog w) A (assignInOrder ((assignEach elts env).map (·.2)) items.toList) Q E { s with heap:=h' }) :
  wpAny (model prog w) A (assign (.Tuple elts x1 pos) env (.ref l)) Q E s:=by
 rw[assign_Tuple]
 refine Æ (wpAny_standAt ?_)
 unfold unpack
 rw[hn,hstar]
 exact Æ (Ě (pB hh hl h))
end
section
variable {X:Cx}{pos:Pos}
def Ws(K:Ý)(n:Nat)(t:TGs):TG:=λv σ H Q=>∃a xs,v=.ref a/\SqL K H a xs/\xs.length=n/\t xs σ H Q
def Rv{es:List Expr}{k:Nat}{t:TGs}{n:Nat}(hc:X.calm=true)(h:PGs X es t)(hn:(assignEach es X.env).length=n:=by rfl)(hst:(assignEach es X.env).findIdx? (·.1)=none:=by rfl):PG X (.Tuple es k pos) (Ws X.K n t):=by
 intro pins s σ H v u Q I r hw
 obtain⟨a,xs,e1,hq,hl,hw⟩:=hw
 subst e1
 cases r
 obtain⟨its,rv,pl,hz⟩:=I.list hq
 refine oK (I.ok.hd hc) pl.isList (by simp[hn,←hl,rv.length]) hst λh' hx=>?_
 have I1:Inv X pins σ H { s with heap:=h' }:=I.kept (t':=s.toks) λb o e=>hx b o (ä (Ï e)) e
 exact h pins _ σ H xs _ Q I1 (by simpa using rv) hw
variable [Gr]
def gTL(n:Nat)(gs:DGs):DG:=λk d ρ P=>match d with
 |.list ds=>ds.length=n/\gs k ds ρ P
 |_=>False
def CZ{es:List Expr}{gs:DGs}{k n:Nat}(hc:X.calm=true)(h:PGs X es (nU gs))(hn:(assignEach es X.env).length=n:=by rfl)(hst:(assignEach es X.env).findIdx? (·.1)=none:=by rfl):PDG X (.Tuple es k pos) (gTL n gs):=PG.wk (Rv hc h hn hst) (by
 rintro v σ H Q ⟨p,H0,own,ρ,k,d,P,E,r,t,q⟩
 cases d with
 |list ds =>
  obtain⟨a,vs,rfl,_,ha,rs⟩:=r.aX
  exact⟨a,vs,rfl,SqL.of ha,by rw[rs.length];exact t.1,p,H0,own,ρ,k,ds,P,E,rs,t.2,q⟩
 |_=>exact t.elim)
end
section
variable {X:Cx}{pos:Pos}{a:Expr}{t:DA} [Gr]
def Hh(f:Int->Int->Int)(le:Int->Int->Prop):GC:=λks P=>match ks with
 |[(_,.tuple [.int i,.int j])]=>P .imm (.int (f i j))
 |[(_,.list ds)]=>∃ns:List Int,ds=ns.map Â/\ns≠[]/\∀M,M∈ns->(∀a∈ns,le M a)->P .imm (.int M)
 |_=>False
def vP{ps:Pos}(hc:X.calm=true)(hm:X.mg "min"=none)(ha:PDA X [a] t)(hg:Gl X "min":=by rfl)(he:zS X a []:=by rfl)(hpl:zP X pos []:=by rfl):PD X (.Call (.Name "min" ps) [a] [] pos) (tCl (Hh (λi j=>if j<i then j else i) (λM a=>M<=a)) t) :=
 bT (aP.or (Hv hc) (Hw hc)) (by
  intro p H0 own Hb H vs ks P Q A r t q
  unfold Hh at t
  split at t
  ·rename_i k i j
   obtain⟨v,rfl,r'⟩:=cj r
   obtain⟨x,xs,e1,h1,rs1⟩:=Rp.dG r'
   obtain⟨v1,v2,e2,q1,q2⟩:=Rps.two rs1
   subst e1 e2
   rw[q1.int',q2.int'] at h1
   exact .inl ⟨x,i,j,rfl,SqT.of h1,q _ _ _ _ t Kp.refl A.pen (.int _)⟩
  ·obtain⟨ns,rfl,hne,t⟩:=t
   obtain⟨v,rfl,r'⟩:=cj r
   obtain⟨x,xs,e1,o1,h1,rs1⟩:=Rp.aX r'
   subst e1
   have e2:=Rps.ints rs1
   subst e2
   exact .inr ⟨x,ns,rfl,SqL.of h1,hne,λM h1 h2=>q _ _ _ _ (t M h1 h2) Kp.refl A.pen (.int _)⟩
  ·exact t.elim) hg hm boot_min ha (by decide) (by decide) he hpl
def vQ{ps:Pos}(hc:X.calm=true)(hm:X.mg "max"=none)(ha:PDA X [a] t)(hg:Gl X "max":=by rfl)(he:zS X a []:=by rfl)(hpl:zP X pos []:=by rfl):PD X (.Call (.Name "max" ps) [a] [] pos) (tCl (Hh (λi j=>if j > i then j else i) (λM a=>a<=M)) t) :=
 bT (aP.or (Hx hc) (Hy hc)) (by
  intro p H0 own Hb H vs ks P Q A r t q
  unfold Hh at t
  split at t
  ·rename_i k i j
   obtain⟨v,rfl,r'⟩:=cj r
   obtain⟨x,xs,e1,h1,rs1⟩:=Rp.dG r'
   obtain⟨v1,v2,e2,q1,q2⟩:=Rps.two rs1
   subst e1 e2
   rw[q1.int',q2.int'] at h1
   exact .inl ⟨x,i,j,rfl,SqT.of h1,q _ _ _ _ t Kp.refl A.pen (.int _)⟩
  ·obtain⟨ns,rfl,hne,t⟩:=t
   obtain⟨v,rfl,r'⟩:=cj r
   obtain⟨x,xs,e1,o1,h1,rs1⟩:=Rp.aX r'
   subst e1
   have e2:=Rps.ints rs1
   subst e2
   exact .inr ⟨x,ns,rfl,SqL.of h1,hne,λM h1 h2=>q _ _ _ _ (t M h1 h2) Kp.refl A.pen (.int _)⟩
  ·exact t.elim) hg hm boot_max ha (by decide) (by decide) he hpl
def Kz:GC:=λks P=>match ks with
 |[(_,.list ds)]=>∃ns:List Int,ds=ns.map Â/\ns.length<=1000/\(∀x∈ns,-1000000<=x/\x<=1000000)/\P .imm (.int ns.sum)
 |[(_,.tuple ds)]=>∃ns:List Int,ds=ns.map Â/\ns.length<=1000/\(∀x∈ns,-1000000<=x/\x<=1000000)/\P .imm (.int ns.sum)
 |_=>False
def pX{ps:Pos}(hc:X.calm=true)(hm:X.mg "sum"=none)(ha:PDA X [a] t)(hg:Gl X "sum":=by rfl)(he:zS X a []:=by rfl)(hpl:zP X pos []:=by rfl):PD X (.Call (.Name "sum" ps) [a] [] pos) (tCl Kz t) :=
 bT (aP.or (Ht hc) (Hs hc)) (by
  intro p H0 own Hb H vs ks P Q A r t q
  unfold Kz at t
  split at t
  ·obtain⟨ns,rfl,hl,hb,t⟩:=t
   obtain⟨v,rfl,r'⟩:=cj r
   obtain⟨x,xs,e1,o1,h1,rs1⟩:=Rp.aX r'
   subst e1
   have e2:=Rps.ints rs1
   subst e2
   exact .inl ⟨x,ns,rfl,SqL.of h1,hl,hb,q _ _ _ _ t Kp.refl A.pen (.int _)⟩
  ·obtain⟨ns,rfl,hl,hb,t⟩:=t
   obtain⟨v,rfl,r'⟩:=cj r
   obtain⟨x,xs,e1,h1,rs1⟩:=Rp.dG r'
   subst e1
   have e2:=Rps.ints rs1
   subst e2
   exact .inr ⟨x,ns,rfl,SqT.of h1,hl,hb,q _ _ _ _ t Kp.refl A.pen (.int _)⟩
  ·exact t.elim) hg hm boot_sum ha (by decide) (by decide) he hpl
def Cr:GC:=λks P=>match ks with
 |[(_,.dict ds)]=>∃m:IM,ds=kvD m/\m.length<64/\∀out:List Int,out.Perm (m.map (·.1))->out.Pairwise (·<=·)->P .new (.list (out.map Â))
 |_=>False
theorem yh{ok:Addr->Prop}{H:Hp}:∀{kvs:List (Key×V)}{ds:List (D×D)}{m:IM},Rkv ok H kvs ds->ds=kvD m->kvs.map (·.1)=(m.map (·.1)).map û
 |_,_,[],.nil,_=>rfl
 |_,_,p::m,.cons h t,e=>by
  have e1:kD _=Â p.1:=congrArg Prod.fst (List.cons.inj e).1
  have e2:=Kh e1
  rw[ò,ò,ò,yh (m:=m) t (List.cons.inj e).2,←e2]
 |_,_,[],.cons _ _,e=>nomatch e
 |_,_,_::_,.nil,e=>nomatch e
def rm{ps:Pos}(hc:X.calm=true)(hm:X.mg "sorted"=none)(ha:PDA X [a] t)(hg:Gl X "sorted":=by rfl)(he:zS X a []:=by rfl)(hpl:zP X pos []:=by rfl):PD X (.Call (.Name "sorted" ps) [a] [] pos) (tCl Cr t) :=
 bT (wY hc) (by
  intro p H0 own Hb H vs ks P Q A r t q
  unfold Cr at t
  split at t
  ·obtain⟨m,rfl,hl,t⟩:=t
   obtain⟨v,rfl,r'⟩:=cj r
   obtain⟨x,kvs,e1,o1,h1,rs1⟩:=Rp.O4 r'
   subst e1
   refine⟨x,kvs,m.map (·.1),rfl,h1,yh rs1 rfl,by rw[Ä];exact hl,λl out hl' hp hs=>?_⟩
   obtain⟨k2,i2,nw⟩:=A.new hl' (.lst (out.map V.int))
   exact q _ _ _ _ (t out hp hs) k2 i2 (.lst nw aq (Rps.ofMap (λi=>.int i) out))
  ·exact t.elim) hg hm boot_sorted ha (by decide) (by decide) he hpl
def Fv:G2:=λ_ d1 _ d2 P=>match d2 with
 |.none=>P .imm (.bool (!NQ d1))
 |_=>False
def R6:Ok2 Fv (λx y H Q=>y=.non/\Q (.bl (!decide (x=.non))) H):=by
 intro p H0 own Hb H x y k1 d1 k2 d2 P Q A r1 r2 t q
 unfold Fv at t
 split at t
 ·cases r2
  rw[Ej r1]
  exact⟨rfl,q _ _ _ _ t Kp.refl A.pen (.bl _)⟩
 ·exact t.elim
variable {b:Expr}{ta tb:DE}
def jW(ha:PD X a ta)(hb:PD X b tb):PDT X (.Compare a [.IsNot] [b] pos) (cJ (t2 Fv ta tb)):=dg Nr R6 ha hb (cP _)
end
section
variable {X:Cx}
def HD(hc:X.calm=true):aP X (.builtin "any") (λxs H Q=>∃(p:Addr) (bs:List Bool),xs=[.ref p]/\SqL X.K H p (bs.map V.bl)/\Q (.bl (bs.any id)) H):=by
 intro pins s σ H xs us Q I r h
 obtain⟨p,bs,rfl,hp,q⟩:=h
 obtain⟨u,rfl,rx⟩:=vals1 r
 cases rx
 obtain⟨its,rv,pl,hz⟩:=I.list hp
 have e:=u6 rv
 subst e
 have hlt:p≠s.heap.objs.size:=by obtain⟨o,ho,_⟩:=pl.isList;exact ä (Ï ho)
 refine call_any_walk (wpAny_pyIter_list pl.isList ?_)
 refine⟨_,_,_,_,_,_,λi=>bs.getD i false,rfl,Walks.list (A:=X.A.in1) (I.ok.hd hc) _ p hlt _,⟨⟨_,Þ _ rfl,rfl,rfl⟩,pl.isList.push _⟩,?_,λh' tk hk=>?_⟩
 ·intro i v s Q E hP hQ
  have hP':(bs.map Value.bool)[i]?=some v:=by simpa using hP
  rw[Û] at hP'
  cases hb:bs[i]? with
  |none=>rw[hb] at hP';cases hP'
  |some b =>
   rw[hb] at hP'
   cases hP'
   refine ģ ?_
   have e:bs.getD i false=b:=by rw[ö,hb];rfl
   have hQ':Q (bs.getD i false) s:=hQ
   rw[e] at hQ'
   exact hQ'
 ·have e:(ê (bs.map Value.bool).toArray.size).any (λi=>bs.getD i false)=bs.any id:=by
   rw[Ò,Ä,ĕ]
   simp only[List.any_eq_true,Ħ]
   constructor
   ·rintro⟨i,hi,h⟩
    simp[hi] at h
    exact⟨bs[i],į hi,h⟩
   ·rintro⟨x,hx,h⟩
    obtain⟨i,hi,e⟩:=Ŧ.mp hx
    exact⟨i,hi,by simp[hi,e];exact h⟩
  rw[e]
  refine⟨.bl (bs.any id),H,I.kept λb o eb=>hk b o ?_ (Î _ eb),rfl,q⟩
  intro hm
  have:b=s.heap.objs.size:=by simpa using hm
  exact absurd (Ï eb) (by rw[this];exact ċ _)
end
section
variable {X:Cx}{pos:Pos}{a e:Expr}{te ta:DE}{t:DA}{st st2:Stmt}{rest:List Stmt} [Gr]
def boot_any:bootBuiltins "any"=some (.builtin "any"):=by decide +kernel
def S8:GC:=λks P=>match ks with
 |[(_,.list ds)]=>∃bs:List Bool,ds=bs.map PyData.bool/\P .imm (.bool (bs.any id))
 |_=>False
def Bs{ps:Pos}(hc:X.calm=true)(hm:X.mg "any"=none)(ha:PDA X [a] t)(hg:Gl X "any":=by rfl)(he:zS X a []:=by rfl)(hpl:zP X pos []:=by rfl):PD X (.Call (.Name "any" ps) [a] [] pos) (tCl S8 t) :=
 bT (HD hc) (by
  intro p H0 own Hb H vs ks P Q A r t q
  unfold S8 at t
  split at t
  ·obtain⟨bs,rfl,t⟩:=t
   obtain⟨v,rfl,r'⟩:=cj r
   obtain⟨x,xs,e1,o1,h1,rs1⟩:=Rp.aX r'
   subst e1
   have e2:=Rps.bools rs1
   subst e2
   exact⟨x,bs,rfl,SqL.of h1,q _ _ _ _ t Kp.refl A.pen (.bl _)⟩
  ·exact t.elim) hg hm boot_any ha (by decide) (by decide) he hpl
end
section
variable {X:Cx}{tg iter c:Expr}{pos pos1:Pos}{ret:Stmt}{ti:DI}{g:DG}{tc:DT} [Gr]
end
end Dl
namespace L2
open PySem PySem.Spec PyProof.Rows
def G4{P:Program}{w:World}{K:Ý}{mg mb:Str->Option Value}{CX:CXT}{k:Nat}{fa a:Addr}{fd:FuncData}{x:Str}{sp:Sp}{s₁:Shared}{vs:List Value}{ns:List Int}(KX:K.In s₁.heap)(hns:s₁.heap.Ns mainGlobals mg)(hb:s₁.heap.Ns builtinsNs mb)(hbb:∀x:Str,x≠"__name__"->mb x=bootBuiltins x)(hlim:s₁.heap.NoLimit)(hg:s₁.gens=#[])(ha:s₁.heap.get? a=some { cls:=.type "list",data:=.seq vs.toArray })(hi:IntsAre vs ns)(hl:ns.length<=sizeLine)(hr:Room k callerA)(F:∀base:Heap,K.In base->base.Ns mainGlobals mg->(∀b m,s₁.heap.Ns b m->base.Ns b m)->FnOk P w K mg base CX k fa fd [x] sp)(hbind:∀(s:Shared) (u:Value),BindsTo s fd ⟨[u],[]⟩ [(x,u)])(hsp:∀H:Hp,Only H->SqL K H a (ns.map V.int)->sp [.ref a] H (λv _=>v=.bl true) λ_ _ _=>False)(hCX:∀H e s',CX [] H s₁ (λ_ _ _=>False) e s'->False) :
  codeAny (model P w) callerA (.call (.ref fa) ⟨[.ref a],[]⟩) (λr s'=>r=.ok (.ret (.bool true))/\OldK s₁.heap s'.heap/\s'.os=s₁.os/\AllBare s'.gens) s₁:=by
 have rv:=jm hi
 have lenV:=hi.length
 -- from an abstract heap in which nothing but the script may be tracked
 have core:∀H:Hp,Only H->SqL K H a (ns.map V.int)->HOk P w H s₁.heap->(∀b,H b≠none->b=a)->(H a≠none->K.lookup a=none) ->
   codeAny (model P w) callerA (.call (.ref fa) ⟨[.ref a],[]⟩) (λr s'=>r=.ok (.ret (.bool true))/\OldK s₁.heap s'.heap/\s'.os=s₁.os/\AllBare s'.gens) s₁:=by
  intro H hO hS hok hA hK
  have base_of:∀{b:Addr}{o:Obj},s₁.heap.get? b=some o->H b=none->(wG s₁.heap H).get? b=some o:=λe n=>Ko e n
  have noA:∀{b:Addr}{o:Obj}{es:Array DictEntry}{ep:Nat},s₁.heap.get? b=some o->o.data=.dict es ep->H b=none:=λ{b o es ep} e d=>by
   cases q:H b with
   |none=>rfl
   |some u =>
    have e':b=a:=hA b (by rw[q];simp)
    subst e'
    rw[ha] at e;cases e
    have d':Data.seq vs.toArray _=Data.dict es ep:=d
    cases d'
  have nsK:∀{b:Addr}{m:Str->Option Value},s₁.heap.Ns b m->(wG s₁.heap H).Ns b m:=λ{b m} ⟨o,es,ep,e,d,r⟩=>⟨o,es,ep,base_of e (noA e d),d,r⟩
  have hKb:K.In (wG s₁.heap H):=λb o e=>base_of (KX b o e) (by
   cases q:H b with
   |none=>rfl
   |some u =>
    have e':b=a:=hA b (by rw[q];simp)
    subst e'
    rw[hK (by rw[q];simp)] at e;cases e)
  have hM:Mod K mg (wG s₁.heap H):=⟨hKb,nsK hns,⟨mb,nsK hb,hbb⟩,let ⟨mc,h1,h2⟩:=hlim;⟨mc,nsK h1,h2⟩⟩
  have e0:Env0 P w K mg (wG s₁.heap H) callerA [] s₁ H:=⟨rfl,hM,λb o e=>NP e,Nat.le_of_eq (Hg _ _),trivial,λb hb=>absurd (show b∈([]:List Addr) from hb) (by simp),hok,.of_eq hg⟩
  refine codeAny_mono ((F _ hKb (nsK hns) λ_ _ h=>nsK h).run callerA [] s₁ H ⟨[.ref a],[]⟩ [.ref a] [.ref a] _ _ hr e0 (hbind s₁ (.ref a)) (.cons rfl .nil) (hsp H hO hS)) λr s' h=>?_
  cases r with
  |error e=>exact(hCX H e s' h).elim
  |ok fl =>
   cases fl with
   |next=>exact Ũ h
   |brk=>exact Ũ h
   |cont=>exact Ũ h
   |ret u =>
    obtain⟨v,H',os,bare,un,hok',r',q⟩:=h
    have q':v=.bl true:=q
    subst q'
    obtain rfl:u=Value.bool true:=r'
    refine⟨rfl,OldK.of_keep λb o e=>?_,os,bare⟩
    cases q:H b with
    |none=>exact un.keep b o e q (by intro z;exact absurd (show b∈([]:List Addr) from z) (by simp)) (by simp)
    |some u =>
     rcases hO b with z|⟨ob,xs,z⟩
     ·rw[q] at z;cases z
     ·have z2:=un.frzs b ob _ z
      obtain⟨e1,_⟩:=hok b _ z
      obtain⟨e2,_⟩:=hok' b _ z2
      rw[e] at e1;cases e1
      exact e2
 cases hk:K.lookup a with
 |some o =>
  -- the script is one of the module's own objects
  have e:=KX a o hk
  rw[ha] at e
  cases e
  refine core (λ_=>none) (λ_=>.inl rfl) (.inr ⟨_,vs.toArray,_,hk,rfl,rfl,rfl,by rw[Ò,lenV];exact hl,by simpa using rv⟩) (λb u z=>by have z':(none:Option HO)=some u:=z;cases z') (λb z=>absurd rfl z) λz=>absurd rfl z
 |none =>
  refine core (λb=>if b=a then some (.frz { cls:=.type "list",data:=.seq vs.toArray } (.lst (ns.map V.int))) else none) (λb=>?_) (.inl (.inr ⟨{ cls:=.type "list",data:=.seq vs.toArray },if_pos rfl⟩)) (λb u z=>?_) (λb z=>?_) λ_=>hk
  ·by_cases hb:b=a
   ·exact .inr ⟨_,_,if_pos hb⟩
   ·exact .inl (if_neg hb)
  ·by_cases hb:b=a
   ·have z':=(if_pos hb).symm.trans z
    cases z'
    subst hb
    exact⟨ha,by rw[Ä];exact hl,vs,_,rv,ha⟩
   ·have z':=(if_neg hb).symm.trans z
    cases z'
  ·by_cases hb:b=a
   ·exact hb
   ·exact absurd (if_neg hb) z
def Ik{l:W.OpenLaw}{n k:Nat}{q:Program}{loose:List Str}{XP:(Str->Option Value)->Heap->Prop}{YP:World->Heap->Prop}{d:DefRec}{K:Params->Ý}{CX:World->CXT}{sp:World->Sp}{x:Str}(hi:importsNone q=true)(hn:l.most=some n)(hn2:n<=sizeLine)(hdf:d.params.defaults=[])(hr:Room k callerA)(hY:∀(w:World) (h:Heap),YP w h->(K w.params).In h)(F:∀(w:World) (mg:Str->Option Value) (fa:Addr) (h:Heap),(K w.params).In h->h.Ns mainGlobals mg->mg d.name=some (.ref fa) ->
   ∃fd:FuncData,(∀(s:Shared) (u:Value),BindsTo s fd ⟨[u],[]⟩ [(x,u)]) /\
    ∀base:Heap,(K w.params).In base->base.Ns mainGlobals mg->(∃o,base.get? sysModules=some o)->FnOk l.prog w (K w.params) mg base (CX w) k fa fd [x] (sp w))(hsp:∀(w:World) (H:Hp) (a:Addr) (ns:List Int),ns.length<=n->Only H->SqL (K w.params) H a (ns.map V.int)->sp w [.ref a] H (λv _=>v=.bl true) λ_ _ _=>False)(hCX:∀(w:World) (H:Hp) (s:Shared) (e:Value) (s':Shared),CX w [] H s (λ_ _ _=>False) e s'->False) :
  W.WalkO q loose XP YP l.row.toRowW d [] (λf vs=>PySem.call f vs):=by
 refine Att.Ae hn hdf λw s₀ s₁ mg mb fa o pm cd doc a vs ns G Y ho hd hcd hmg hobj hints hlen hg=>?_
 have KX:=hY w _ Y
 obtain⟨fd,hb,hF⟩:=F w mg fa _ KX G.T.g hmg
 obtain⟨mm,hm,_⟩:=(G.T.seer hi).mods
 exact G4 KX G.T.g G.T.b G.T.builtins G.T.nolimit hg hobj hints (õ hlen hn2) hr (λbase h1 h2 h3=>hF base h1 h2 (let ⟨o,_,_,e,_⟩:=h3 _ _ hm;⟨o,e⟩)) hb (λH hO hS=>hsp w H a ns hlen hO hS) λH e s'=>hCX w H s₁ e s'
end L2
set_option autoImplicit true
set_option relaxedAutoImplicit true
namespace Wr
open PySem L2 PyProof.Rows Dl
structure WD[Gr](X:Cx)(e:Expr)(t:DE):Prop where
 h:PD X e t
structure WDT[Gr](X:Cx)(e:Expr)(t:DT):Prop where
 h:PDT X e t
structure WDW[Gr](X:Cx)(e:Expr)(t:DT):Prop where
 h:PDW X e t
structure WDA[Gr](X:Cx)(e:List Expr)(t:DA):Prop where
 h:PDA X e t
structure WDS[Gr](X:Cx)(e:Stmt)(t:DS):Prop where
 h:PDS X e t
structure WDSs[Gr](X:Cx)(e:List Stmt)(t:DS):Prop where
 h:j6 X e t
structure WDI[Gr](X:Cx)(tg e:Expr)(t:DI):Prop where
 h:PDI X tg e t
structure WDG[Gr](X:Cx)(e:Expr)(t:DG):Prop where
 h:PDG X e t
structure WDGs[Gr](X:Cx)(e:List Expr)(t:DGs):Prop where
 h:PGs X e (nU t)
structure WDTs[Gr](X:Cx)(e:List Expr)(t:DT):Prop where
 h:LK X e t
structure WDO[Gr](X:Cx)(e:Option Expr)(t:DO):Prop where
 h:PO X e (sy t)
structure WV(X:Cx)(e:Expr)(i:Nat):Prop where
 h:PE X e (j9 i)
structure WC(X:Cx)(e:Expr)(v:V):Prop where
 h:PE X e (tC v)
section
variable [Gr]
def wv(i:Nat){x:Str}{pos:Pos}(hN:X.N[i]?=some x:=by rfl)(hv:Vis X.env.scope x:=by first|exact Or.inl rfl|exact Or.inr (Or.inl rfl)|exact Or.inr (Or.inr rfl))(hd:zB x:=by decide)(hcd:(x == ("__classdict__":Str))=false:=by decide):WV X (.Name x pos) i:=⟨pv i hN hv hd hcd⟩
def wpt{t:DT}(h:WDW X e t):WDT X e t:=⟨PDW.pt h.h⟩
def jw{op op':CmpOp}{f f':Int->Int->Bool}(ho:OpR X (compareOp op) (rI0 λi j=>.bl (f i j)))(ho':OpR X (compareOp op') (rI0 λi j=>.bl (f' i j)))(ha:WD X a ta)(hb:WD X b tb)(hc:WD X c tc)(hm:lastMarks [op,op'] [b,c]=false:=by with_unfolding_all rfl):WDT X (.Compare a [op,op'] [b,c] pos) (cJ (tCh f f' ta tb tc)):=⟨Dl.jw (Js ho ho' ha.h hb.h hc.h hm) Fb⟩
def wty{x:Str}{T:String}(hg:Gl X x)(hm:X.mg x=none)(hv:bootBuiltins x=some (.type T))(hn:x≠"__name__":=by decide)(hd:zB x:=by decide):WC X (.Name x ps) (.ty T):=⟨vA hg hm hv rfl hn hd⟩
def wJ{i:Nat}{x:Str}{e:Expr}{te:DE}{pos' pos:Pos}(rg:Option Nat)(hN:X.N.Nodup)(hi:X.N[i]?=some x)(hx:Loc X.env.scope x)(he:WD X e te)(hs:swapsWith e (some (.Name x pos')) pos.line X.env=pure false:=by rfl)(hf:zL X x:=by first|exact .inl rfl|exact .inr rfl|assumption) :
  WDS X (.Assign [.Name x pos'] e pos) (Dc i rg te):=⟨Dl.wJ rg (fQ hN hi hx he.h hs hf)⟩
def jd(rg:Option Nat)(own:List Str){i:Nat}{y:Str}{py spos:Pos}(hc:X.calm=true)(hN:X.N.Nodup)(hiN:X.N[i]?=some y)(hx:Loc X.env.scope y)(hi:WDI X tg iter ti)(hg:∀c,WDG (X.comp own scope c) tg g)(ht:∀c,WDTs (X.comp own scope c) ifs tt)(he:∀c,WD (X.comp own scope c) elt te)(hsw:swapsWith (.ListComp elt [⟨tg,iter,ifs,0⟩] scope pos) (some (.Name y py)) spos.line X.env=pure true:=by rfl)(hk:d8 X.env scope X.N=true:=by rfl)(hs:zF X iter:=by intro _;rfl)(hf:zL X y:=by first|exact .inl rfl|exact .inr rfl|assumption) :
  WDS X (.Assign [.Name y py] (.ListComp elt [⟨tg,iter,ifs,0⟩] scope pos) spos) (Dc i rg (dLC own.length ti g tt te)):=⟨Dl.wJ rg (Rm own hc hN hiN hx hi.h (λc=>(hg c).h) (λc=>(ht c).h) (λc=>(he c).h) hsw hk hs hf)⟩
def je(r:Nat)(own:List Str){i j:Nat}{y z:Str}{py spos zp lp:Pos}(hc:X.calm=true)(hN:X.N.Nodup)(hiN:X.N[i]?=some y)(hx:Loc X.env.scope y)(hi:WDI X (.Name z zp) iter ti)(hg:∀c,WDG (X.comp own scope c) (.Name z zp) (gNm j))(hsw:swapsWith (.ListComp (.List [] lp) [⟨.Name z zp,iter,[],0⟩] scope pos) (some (.Name y py)) spos.line X.env=pure true:=by rfl)(hk:d8 X.env scope X.N=true:=by rfl)(hs:zF X iter:=by intro _;rfl)(hf:zL X y:=by first|exact .inl rfl|exact .inr rfl|assumption) :
  WDS X (.Assign [.Name y py] (.ListComp (.List [] lp) [⟨.Name z zp,iter,[],0⟩] scope pos) spos) (Lg i r ti):=⟨Dl.je r (Qc own hc hN hiN hx hi.h (λc=>(hg c).h) (λc=>ql) (λc=>Bh dZ) hsw hk hs hf)⟩
def sX{tg e:Expr}{te:DE}{g:DG}(he:WD X e te)(hg:WDG X tg g)(hs:swapsWithSole [tg] e pos.line X.env=pure false:=by rfl)(hw:swappedStores [tg] e X.env=pure none:=by rfl)(h1:(assignEach [tg] X.env).map (·.2)=[assign tg X.env]:=by rfl):WDS X (.Assign [tg] e pos) (Vy te g):=⟨Dl.sX (qX he.h hg.h hs hw h1)⟩
def oA{i:Nat}{x:Str}{e:Expr}{es:List Expr}{apos cpos np pos:Pos}(hv:WV X (.Name x np) i)(ha:WDA X (e::es) (bO te gC))(hbase:attributeBase (.Name x np) "append" X.env (eval (.Name x np) X.env)=eval (.Name x np) X.env:=by rfl)(hfew:zW X cpos (e::es):=by rfl)(hline:(apos.endLine == cpos.line)=true:=by rfl)(hst:zS X e es:=by rfl)(hplain:zP X cpos es:=by rfl)(hs:swapsWith (.Call (.Attribute (.Name x np) "append" apos) (e::es) [] cpos) none pos.line X.env=pure false:=by rfl) :
  WDS X (.Expr (.Call (.Attribute (.Name x np) "append" apos) (e::es) [] cpos) pos) (Tp i te):=⟨Dl.oA (ju (yw ŏ PySem.F.slot_list_append PySem.F.type_list_append uK hv.h ha.h hbase hfew hline hst hplain) hs)⟩
def ou{i:Nat}{x:Str}{e:Expr}{es:List Expr}{apos cpos np pos:Pos}(hv:WV X (.Name x np) i)(ha:WDA X (e::es) (bO tj (bO te gC)))(hbase:attributeBase (.Name x np) "insert" X.env (eval (.Name x np) X.env)=eval (.Name x np) X.env:=by rfl)(hfew:zW X cpos (e::es):=by rfl)(hline:(apos.endLine == cpos.line)=true:=by rfl)(hst:zS X e es:=by rfl)(hplain:zP X cpos es:=by rfl)(hs:swapsWith (.Call (.Attribute (.Name x np) "insert" apos) (e::es) [] cpos) none pos.line X.env=pure false:=by rfl) :
  WDS X (.Expr (.Call (.Attribute (.Name x np) "insert" apos) (e::es) [] cpos) pos) (Tj i tj te):=⟨Dl.ou (ju (yw ŏ PySem.F.slot_list_insert PySem.F.type_list_insert GR hv.h ha.h hbase hfew hline hst hplain) hs)⟩
def cY{i:Nat}{x:Str}{e ej:Expr}{es:List Expr}{apos cpos np sp pos:Pos}(hv:WV X (.Name x np) i)(hj:WD X ej tj)(ha:WDA X (e::es) (bO te gC))(hpx:qp ej:=by exact λ_ _=>rfl)(hbase:attributeBase (.Subscript (.Name x np) ej sp) "append" X.env (eval (.Subscript (.Name x np) ej sp) X.env)=eval (.Subscript (.Name x np) ej sp) X.env:=by rfl)(hfew:zW X cpos (e::es):=by rfl)(hline:(apos.endLine == cpos.line)=true:=by rfl)(hst:zS X e es:=by rfl)(hplain:zP X cpos es:=by rfl)(hs:swapsWith (.Call (.Attribute (.Subscript (.Name x np) ej sp) "append" apos) (e::es) [] cpos) none pos.line X.env=pure false:=by rfl) :
  WDS X (.Expr (.Call (.Attribute (.Subscript (.Name x np) ej sp) "append" apos) (e::es) [] cpos) pos) (wU i tj te):=⟨Dl.cY (ju (yw ŏ PySem.F.slot_list_append PySem.F.type_list_append uK (iG cQ hv.h hj.h hpx) ha.h hbase hfew hline hst hplain) hs)⟩
def wL{i:Nat}{x:Str}{ek e:Expr}{np pos' pos:Pos}(hu:X.A.units+64<cLine)(hv:WV X (.Name x np) i)(hk:WD X ek tk)(he:WD X e tv)(hs:swapsWith e (some (.Subscript (.Name x np) ek pos')) pos.line X.env=pure false:=by rfl) :
  WDS X (.Assign [.Subscript (.Name x np) ek pos'] e pos) (Lh i tk tv):=⟨Dl.wL (MP (hu1 hu) hv.h hk.h he.h hs)⟩
def wO{i:Nat}{x:Str}(hN:X.N.Nodup)(hi:X.N[i]?=some x)(hx:Loc X.env.scope x)(hf:zL X x:=by first|exact .inl rfl|exact .inr rfl|assumption):WDG X (.Name x pos) (gNm i):=⟨Dl.wO (M9 hN hi hx hf)⟩
def iH{i:Int}{j:Nat}:WD X (.Constant (.int i) j pos) (tK (.int i)):=⟨Dl.iH ⟩
def Eu{i:Bool}{j:Nat}:WD X (.Constant (.bool i) j pos) (tK (.bool i)):=⟨Dl.Eu ⟩
def vO{j:Nat}:WD X (.Constant .none j pos) (tK .none):=⟨Dl.vO ⟩
def vL{x:Str}{j:Nat}:WD X (.Constant (.str x) j pos) (tK (.str x)):=⟨Dl.vL ⟩
def vD{e:Expr}{t:DE}(h:WD X e t)(he:∀whole,isTrue e X.env whole=(do let v ←whole;standAt e.pos;holding [v] (truthy v)):=by intro _;rfl):WDT X e (cJ t):=⟨Dl.vD (h:=h.h) (he:=he)⟩
def vG{t:DT}(ha:WDT X a t):WDT X (.UnaryOp .Not a pos) (Vw t):=⟨Dl.vG (ha:=ha.h)⟩
def qZ(ha:WDT X a t):WDW X (.BoolOp .And [a] pos) t:=⟨Dl.qZ (ha:=ha.h)⟩
def vB(ha:WDT X a t):WDW X (.BoolOp .Or [a] pos) t:=⟨Dl.vB (ha:=ha.h)⟩
def vC{rest:List Expr}(ha:WDT X a t)(hb:WDW X (.BoolOp .And (b::rest) pos) u):WDW X (.BoolOp .And (a::b::rest) pos) (O7 t u):=⟨Dl.vC (ha:=ha.h) (hb:=hb.h)⟩
def Bl{rest:List Expr}(ha:WDT X a t)(hb:WDW X (.BoolOp .Or (b::rest) pos) u):WDW X (.BoolOp .Or (a::b::rest) pos) (dOr t u):=⟨Dl.Bl (ha:=ha.h) (hb:=hb.h)⟩
def jx :WDA X [] gC:=⟨Dl.jx ⟩
def dD(ha:WD X e te)(hr:WDA X es t)(hs:zS X e es:=by rfl):WDA X (e::es) (bO te t):=⟨Dl.dD (ha:=ha.h) (hr:=hr.h) (hs:=hs)⟩
def p8(h:WDA X es t):WD X (.List es pos) (PB t):=⟨Dl.p8 (h:=h.h)⟩
def lF{x1}(h:WDA X es t):WD X (.Tuple es x1 pos) (qz t):=⟨Dl.lF (h:=h.h)⟩
def dI(ha:WD X a ta)(hb:WD X b tb):WD X (.BinOp a .Sub b pos) (t2 (gI0 λi j=>.int (i - j)) ta tb):=⟨Dl.dI (ha:=ha.h) (hb:=hb.h)⟩
def vU(ha:WD X a ta)(hb:WD X b tb):WD X (.BinOp a .FloorDiv b pos) (t2 (gI TJ λi j=>.int (i / j)) ta tb):=⟨Dl.vU (ha:=ha.h) (hb:=hb.h)⟩
def rB(ha:WD X a ta)(hb:WD X b tb):WD X (.BinOp a .Mod b pos) (t2 (gI (λ_ j=>0<j) λi j=>.int (i % j)) ta tb):=⟨Dl.rB (ha:=ha.h) (hb:=hb.h)⟩
def Et(ha:WD X a ta)(hb:WD X b tb):WD X (.Compare a [.Gt] [b] pos) (t2 (gI0 λi j=>.bool (decide (j<i))) ta tb):=⟨Dl.Et (ha:=ha.h) (hb:=hb.h)⟩
def jV(ha:WD X a ta)(hb:WD X b tb):WDT X (.Compare a [.Lt] [b] pos) (cJ (t2 (gI0 λi j=>.bool (decide (i<j))) ta tb)):=⟨Dl.jV (ha:=ha.h) (hb:=hb.h)⟩
def Bm(ha:WD X a ta)(hb:WD X b tb):WDT X (.Compare a [.Gt] [b] pos) (cJ (t2 (gI0 λi j=>.bool (decide (j<i))) ta tb)):=⟨Dl.Bm (ha:=ha.h) (hb:=hb.h)⟩
def Bo(ha:WD X a ta)(hb:WD X b tb):WDT X (.Compare a [.GtE] [b] pos) (cJ (t2 (gI0 λi j=>.bool (decide (j<=i))) ta tb)):=⟨Dl.Bo (ha:=ha.h) (hb:=hb.h)⟩
def Bq{ps:Pos}(hm:X.mg "len"=none)(ha:WDA X [a] t)(hg:Gl X "len":=by rfl)(he:zS X a []:=by rfl)(hpl:zP X pos []:=by rfl):WD X (.Call (.Name "len" ps) [a] [] pos) (tCl Ot t):=⟨Dl.Bq (hm:=hm) (ha:=ha.h) (hg:=hg) (he:=he) (hpl:=hpl)⟩
def lJ{ps:Pos}(hm:X.mg "int"=none)(hv:bootBuiltins "int"=some (.type "int"))(ha:WDA X [a] t)(hg:Gl X "int":=by rfl)(he:zS X a []:=by rfl)(hpl:zP X pos []:=by rfl):WD X (.Call (.Name "int" ps) [a] [] pos) (tCl S6 t):=⟨Dl.lJ (hm:=hm) (hv:=hv) (ha:=ha.h) (hg:=hg) (he:=he) (hpl:=hpl)⟩
def CK :WDSs X [] Gd:=⟨Dl.CK ⟩
def wM{st:Stmt}{rest:List Stmt}(h1:WDS X st t)(h2:WDSs X rest u):WDSs X (st::rest) (wR t u):=⟨Dl.wM (h1:=h1.h) (h2:=h2.h)⟩
def oh{st:Stmt}(h1:WDS X st t):WDSs X [st] t:=⟨Dl.oh (h1:=h1.h)⟩
def mK{st:Stmt}:WDS X st (λ_ _=>False):=⟨Dl.mK ⟩
def n8(he:WD X e te):WDS X (.Return (some e) pos) (Dd te):=⟨Dl.n8 (he:=he.h)⟩
def Lb{c:Expr}{a b:List Stmt}{tc:DT}(hc:WDT X c tc)(ha:WDSs X a t)(hb:WDSs X b u):WDS X (.If c a b pos) (dIf tc t u):=⟨Dl.Lb (hc:=hc.h) (ha:=ha.h) (hb:=hb.h)⟩
def dB(he:WD X e te)(hs:swapsWith e none pos.line X.env=pure false:=by rfl):WDS X (.Expr e pos) (QD te):=⟨Dl.dB (he:=he.h) (hs:=hs)⟩
def wN :WDGs X [] Qo:=⟨Dl.wN ⟩
def sY{g:DG}{gs:DGs}(h1:WDG X e g)(h2:WDGs X es gs)(hs:(assignEach (e::es) X.env).map (·.2)=assign e X.env::(assignEach es X.env).map (·.2):=by rfl):WDGs X (e::es) (Ks g gs):=⟨Dl.sY (h1:=h1.h) (h2:=h2.h) (hs:=hs)⟩
def cZ{gs:DGs}{k n:Nat}(hc:X.calm=true)(h:WDGs X es gs)(hn:(assignEach es X.env).length=n:=by rfl)(hst:(assignEach es X.env).findIdx? (·.1)=none:=by rfl):WDG X (.Tuple es k pos) (gTp n gs):=⟨Dl.cZ (hc:=hc) (h:=h.h) (hn:=hn) (hst:=hst)⟩
def CW(hl:WD X l tl):WDI X tg l (iSq tl):=⟨Dl.CW (hl:=hl.h)⟩
def oF{a:Expr}{ps:Pos}(hm:X.mg "range"=none)(ha:WDA X [a] ta)(hg:Gl X "range":=by rfl)(hs:starEach [a] X.env=[(false,eval a X.env)]:=by rfl):WDI X tg (.Call (.Name "range" ps) [a] [] pos) (iR1 ta):=⟨Dl.oF (hm:=hm) (ha:=ha.h) (hg:=hg) (hs:=hs)⟩
def oE{a b:Expr}{ps:Pos}(hm:X.mg "range"=none)(ha:WDA X [a,b] ta)(hg:Gl X "range":=by rfl)(hs:starEach [a,b] X.env=[(false,eval a X.env),(false,eval b X.env)]:=by rfl)(hs2:starEach [b] X.env=[(false,eval b X.env)]:=by rfl):WDI X tg (.Call (.Name "range" ps) [a,b] [] pos) (iR2 ta):=⟨Dl.oE (hm:=hm) (ha:=ha.h) (hg:=hg) (hs:=hs) (hs2:=hs2)⟩
def mO{elts:List Expr}{kk:Nat}{tpos:Pos}{a:Expr}{ps:Pos}(hm:X.mg "enumerate"=none)(ha:WDA X [a] ta)(hg:Gl X "enumerate":=by rfl)(hs:starEach [a] X.env=[(false,eval a X.env)]:=by rfl):WDI X (.Tuple elts kk tpos) (.Call (.Name "enumerate" ps) [a] [] pos) (iEn ta):=⟨Dl.mO (hm:=hm) (ha:=ha.h) (hg:=hg) (hs:=hs)⟩
def CT{body:List Stmt}(hp:PassesOwn (model X.prog X.w) X.A X.env X.xe)(hc:X.calm=true)(hi:WDI X tg iter ti)(hg:WDG X tg g)(hb:WDSs X body tb)(hs:zF X iter:=by intro _;rfl):WDS X (.For tg iter body [] pos) (Vx ti g tb):=⟨Dl.CT (hp:=hp) (hc:=hc) (hi:=hi.h) (hg:=hg.h) (hb:=hb.h) (hs:=hs)⟩
def jc{body:List Stmt}{c:Expr}{tc:DT}(hp:PassesOwn (model X.prog X.w) X.A X.env X.xe)(hc:WDT X c tc)(hb:WDSs X body tb):WDS X (.While c body [] pos) (Lf tc tb):=⟨Dl.jc (hp:=hp) (hc:=hc.h) (hb:=hb.h)⟩
def ql{X:Cx}:WDTs X [] (λ_ P=>P true):=⟨Dl.ql ⟩
def dz{X:Cx}{c:Expr}{t:DT}(hc:WDT X c t):WDTs X [c] t:=⟨Dl.dz (hc:=hc.h)⟩
def JH(own:List Str)(hc:X.calm=true)(hi:WDI X tg iter ti)(hg:∀c,WDG (X.comp own scope c) tg g)(ht:∀c,WDTs (X.comp own scope c) ifs tt)(he:∀c,WD (X.comp own scope c) elt te)(hk:d8 X.env scope X.N=true:=by rfl)(hs:zF X iter:=by intro _;rfl):WD X (.ListComp elt [⟨tg,iter,ifs,0⟩] scope pos) (dLC own.length ti g tt te):=⟨Dl.JH (own:=own) (hc:=hc) (hi:=hi.h) (hg:=λc=>(hg c).h) (ht:=λc=>(ht c).h) (he:=λc=>(he c).h) (hk:=hk) (hs:=hs)⟩
def vN(ha:WD X a ta):WD X (.UnaryOp .Not a pos) (Pz ta):=⟨Dl.vN (ha:=ha.h)⟩
def rA{op}(h:WD X a ta):WD X (.BoolOp op [a] pos) ta:=⟨Dl.rA (h:=h.h)⟩
def rE{rest:List Expr}(ha:WD X a ta)(hb:WD X (.BoolOp .And (b::rest) pos) tb):WD X (.BoolOp .And (a::b::rest) pos) (DN ta tb):=⟨Dl.rE (ha:=ha.h) (hb:=hb.h)⟩
def yx{rest:List Expr}(ha:WD X a ta)(hb:WD X (.BoolOp .Or (b::rest) pos) tb):WD X (.BoolOp .Or (a::b::rest) pos) (T8 ta tb):=⟨Dl.yx (ha:=ha.h) (hb:=hb.h)⟩
def nC{ps:Pos}(hc:X.calm=true)(hm:X.mg "all"=none)(hv:bootBuiltins "all"=some (.builtin "all"))(ha:WDA X [a] t)(hg:Gl X "all":=by rfl)(he:zS X a []:=by rfl)(hpl:zP X pos []:=by rfl):WD X (.Call (.Name "all" ps) [a] [] pos) (tCl S9 t):=⟨Dl.nC (hc:=hc) (hm:=hm) (hv:=hv) (ha:=ha.h) (hg:=hg) (he:=he) (hpl:=hpl)⟩
def pZ{ps:Pos}(hc:X.calm=true)(hm:X.mg "max"=none)(ha:WDA X [a,b] t)(hg:Gl X "max":=by rfl)(he:starEach [a,b] X.env=(false,eval a X.env)::starEach [b] X.env:=by rfl)(hpl:(backTo pos (starEach [b] X.env)).any (·.1)=false:=by rfl):WD X (.Call (.Name "max" ps) [a,b] [] pos) (tCl (gMM λi j=>if j > i then j else i) t):=⟨Dl.pZ (hc:=hc) (hm:=hm) (ha:=ha.h) (hg:=hg) (he:=he) (hpl:=hpl)⟩
def p7{ps:Pos}(hm:X.mg "list"=none)(ha:WDA X [a] t)(hg:Gl X "list":=by rfl)(he:zS X a []:=by rfl)(hpl:zP X pos []:=by rfl):WD X (.Call (.Name "list" ps) [a] [] pos) (tCl Oq t):=⟨Dl.p7 (hm:=hm) (ha:=ha.h) (hg:=hg) (he:=he) (hpl:=hpl)⟩
def jy{ps:Pos}(hm:X.mg "tuple"=none)(ha:WDA X [a] t)(hg:Gl X "tuple":=by rfl)(he:zS X a []:=by rfl)(hpl:zP X pos []:=by rfl):WD X (.Call (.Name "tuple" ps) [a] [] pos) (tCl Kw t):=⟨Dl.jy (hm:=hm) (ha:=ha.h) (hg:=hg) (he:=he) (hpl:=hpl)⟩
def fD{ps:Pos}(hm:X.mg "sorted"=none)(ha:WDA X [a] t)(hg:Gl X "sorted":=by rfl)(he:zS X a []:=by rfl)(hpl:zP X pos []:=by rfl):WD X (.Call (.Name "sorted" ps) [a] [] pos) (tCl Cq t):=⟨Dl.fD (hm:=hm) (ha:=ha.h) (hg:=hg) (he:=he) (hpl:=hpl)⟩
def q9{ps:Pos}(hm:X.mg "sorted"=none)(ha:WDA X [a] t)(hg:Gl X "sorted":=by rfl)(he:zS X a []:=by rfl)(hpl:zP X pos []:=by rfl):WD X (.Call (.Name "sorted" ps) [a] [] pos) (tCl Cp t):=⟨Dl.q9 (hm:=hm) (ha:=ha.h) (hg:=hg) (he:=he) (hpl:=hpl)⟩
def uG(hu:X.A.units+64<cLine)(ha:WD X a ta)(hb:WD X b tb)(hm:behindInMarks .In b=false:=by rfl):WD X (.Compare a [.In] [b] pos) (t2 (gIn false) ta tb):=⟨Dl.uG (hu:=hu) (ha:=ha.h) (hb:=hb.h) (hm:=hm)⟩
def fG(hu:X.A.units+64<cLine)(ha:WD X a ta)(hb:WD X b tb)(hm:behindInMarks .NotIn b=false:=by rfl):WD X (.Compare a [.NotIn] [b] pos) (t2 (gIn true) ta tb):=⟨Dl.fG (hu:=hu) (ha:=ha.h) (hb:=hb.h) (hm:=hm)⟩
def jY(hu:X.A.units+64<cLine)(ha:WD X a ta)(hb:WD X b tb)(hm:behindInMarks .In b=false:=by rfl):WDT X (.Compare a [.In] [b] pos) (cJ (t2 (gIn false) ta tb)):=⟨Dl.jY (hu:=hu) (ha:=ha.h) (hb:=hb.h) (hm:=hm)⟩
def nA(hu:X.A.units+64<cLine)(ha:WD X a ta)(hb:WD X b tb)(hm:behindInMarks .NotIn b=false:=by rfl):WDT X (.Compare a [.NotIn] [b] pos) (cJ (t2 (gIn true) ta tb)):=⟨Dl.nA (hu:=hu) (ha:=ha.h) (hb:=hb.h) (hm:=hm)⟩
def cR :WDO X none Qj:=⟨Dl.cR ⟩
def bY(h:WD X e te):WDO X (some e) (Qi te):=⟨Dl.bY (h:=h.h)⟩
def cV(ha:WD X a ta):WD X (.UnaryOp .USub a pos) (Ub ta):=⟨Dl.cV (ha:=ha.h)⟩
def dc{f:List D->(D->Prop)->Prop}(C:Cal X.prog X.w X.K X.mg X.base k x ps (spD f))(hr:Room j X.A)(ha:WDA X (e::es) t)(hk:k<=j:=by decide)(hg:Gl X x:=by rfl)(hdb:zB x:=by decide)(he:zS X e es:=by rfl)(hpl:zP X pos es:=by rfl):WD X (.Call (.Name x p) (e::es) [] pos) (tFn f t):=⟨Dl.dc (C:=C) (hr:=hr) (ha:=ha.h) (hk:=hk) (hg:=hg) (hdb:=hdb) (he:=he) (hpl:=hpl)⟩
def dcP{C:Pn->Prop}{i:Nat}{f:List D->(D->Prop)->Prop}{y:Str}{py:Pos}(CC:Cal X.prog X.w X.K X.mg X.base k x ps (spP C f))(hr:Room j X.A)(hi:WV X (.Name y py) i)(ha:WDA X es t)(hk:k<=j:=by decide)(hg:Gl X x:=by rfl)(hdb:zB x:=by decide)(he:starEach (.Name y py::es) X.env=(false,eval (.Name y py) X.env)::starEach es X.env:=by rfl)(hpl:zP X pos es:=by rfl):WD X (.Call (.Name x p) (.Name y py::es) [] pos) (Gm C f i t):=⟨Dl.dcP (CC:=CC) (hr:=hr) (hi:=hi.h) (ha:=ha.h) (hk:=hk) (hg:=hg) (hdb:=hdb) (he:=he) (hpl:=hpl)⟩
def dv(i:Nat){x:Str}{pos:Pos}(hN:X.N[i]?=some x:=by rfl)(hv:Vis X.env.scope x:=by first|exact Or.inl rfl|exact Or.inr (Or.inl rfl)|exact Or.inr (Or.inr rfl))(hd:zB x:=by decide)(hcd:(x == ("__classdict__":Str))=false:=by decide):WD X (.Name x pos) (tV i):=⟨Dl.dv (i:=i) (hN:=hN) (hv:=hv) (hd:=hd) (hcd:=hcd)⟩
def jX(ha:WD X a ta)(hb:WD X b tb):WDT X (.Compare a [.IsNot] [b] pos) (cJ (t2 Fw ta tb)):=⟨Dl.jX (ha:=ha.h) (hb:=hb.h)⟩
def lE(ha:WD X a ta)(hb:WD X b tb):WDT X (.Compare a [.Is] [b] pos) (cJ (t2 Ou ta tb)):=⟨Dl.lE (ha:=ha.h) (hb:=hb.h)⟩
def jz{ps ps':Pos}(hc:X.calm=true)(hs:X.mg "set"=none)(hl:X.mg "len"=none)(ha:WDA X [a] t)(hgs:Gl X "set":=by rfl)(hgl:Gl X "len":=by rfl)(he:zS X a []:=by rfl)(hpl:zP X pos []:=by rfl)(he':starEach [Expr.Call (.Name "set" ps) [a] [] pos] X.env=(false,eval (Expr.Call (.Name "set" ps) [a] [] pos) X.env)::starEach [] X.env:=by rfl)(hpl':(backTo pos' (starEach [] X.env)).any (·.1)=false:=by rfl):WD X (.Call (.Name "len" ps') [.Call (.Name "set" ps) [a] [] pos] [] pos') (tCl Fx t):=⟨Dl.jz (hc:=hc) (hs:=hs) (hl:=hl) (ha:=ha.h) (hgs:=hgs) (hgl:=hgl) (he:=he) (hpl:=hpl) (he':=he') (hpl':=hpl')⟩
def JK(ha:WD X a ta)(hb:WD X b tb)(hs:qp b:=by exact λ_ _=>rfl):WD X (.Subscript a b pos) (t2 gIx ta tb):=⟨Dl.JK (ha:=ha.h) (hb:=hb.h) (hs:=hs)⟩
def vM(ha:WD X a ta)(hb:WD X b tb):WD X (.BinOp a .Add b pos) (t2 sI ta tb):=⟨Dl.vM (ha:=ha.h) (hb:=hb.h)⟩
def lG(ha:WD X a ta)(hb:WD X b tb):WD X (.BinOp a .Mult b pos) (t2 Ky ta tb):=⟨Dl.lG (ha:=ha.h) (hb:=hb.h)⟩
def Br(hu:X.A.units+64<cLine)(ha:WD X a ta)(hb:WD X b tb):WD X (.Compare a [.Eq] [b] pos) (t2 (nZ false) ta tb):=⟨Dl.Br (hu:=hu) (ha:=ha.h) (hb:=hb.h)⟩
def vI(hu:X.A.units+64<cLine)(ha:WD X a ta)(hb:WD X b tb):WDT X (.Compare a [.Eq] [b] pos) (cJ (t2 (nZ false) ta tb)):=⟨Dl.vI (hu:=hu) (ha:=ha.h) (hb:=hb.h)⟩
def vH(hu:X.A.units+64<cLine)(ha:WD X a ta)(hb:WD X b tb):WDT X (.Compare a [.NotEq] [b] pos) (cJ (t2 (nZ true) ta tb)):=⟨Dl.vH (hu:=hu) (ha:=ha.h) (hb:=hb.h)⟩
def CQ{rest:List Stmt}(i:Nat)(h:WDSs X rest t):WDSs X rest (Tn i t):=⟨Dl.CQ (i:=i) (h:=h.h)⟩
def sW{rest:List Stmt}(js:List Nat)(h:WDSs X rest t):WDSs X rest (Df js t):=⟨Dl.sW (js:=js) (h:=h.h)⟩
def vR(N:List Str)(sc:Scope)(tm:Tm)(h:okT N sc tm e=true)(hN:X.N=N:=by rfl)(hs:X.env.scope=sc:=by rfl)(s:smT tm=true:=by decide +kernel):WD X e (QZ tm):=⟨Dl.vR (N:=N) (sc:=sc) (tm:=tm) (h:=h) (hN:=hN) (hs:=hs) (s:=s)⟩
def pW(n:Nat)(N:List Str)(sc:Scope)(ts:Tms){t2:DA}(h2:WDA X (es.drop n) t2)(h:j5 N sc ts (es.take n)=true)(hN:X.N=N:=by rfl)(hs:X.env.scope=sc:=by rfl)(s:jH 1000 ts=true:=by decide +kernel):WDA X es (Tw ts t2):=⟨Dl.pW (n:=n) (N:=N) (sc:=sc) (ts:=ts) (h2:=h2.h) (h:=h) (hN:=hN) (hs:=hs) (s:=s)⟩
def pY(he:WD X e te):WD X (.Subscript e (.Slice none none (some (.UnaryOp .USub (.Constant (.int 1) 0 p1) p2)) p3) pos) (T5 te):=⟨Dl.pY (he:=he.h)⟩
def jP{lo hi:Option Expr}{tl th:DO}(he:WD X e te)(hl:WDO X lo tl)(hh:WDO X hi th):WD X (.Subscript e (.Slice lo hi none p2) pos) (T3 te tl th):=⟨Dl.jP (he:=he.h) (hl:=hl.h) (hh:=hh.h)⟩
def rD(ha:WD X a ta)(hb:WD X b tb):WD X (.Dict [some a] [b] pos) (tD1 ta tb):=⟨Dl.rD (ha:=ha.h) (hb:=hb.h)⟩
def fV(hu:X.A.units+64<cLine)(ha:WD X a ta)(hb:WD X b tb)(hm:behindInMarks .NotIn b=false:=by rfl):WDT X (.Compare a [.NotIn] [b] pos) (cJ (t2 (Ov true) ta tb)):=⟨Dl.fV (hu:=hu) (ha:=ha.h) (hb:=hb.h) (hm:=hm)⟩
def qb(hu:X.A.units+64<cLine)(ha:WD X a ta)(hb:WD X b tb)(hs:Ph b:=by exact λ_ _=>rfl):WD X (.Subscript a b pos) (t2 KJ ta tb):=⟨Dl.qb (hu:=hu) (ha:=ha.h) (hb:=hb.h) (hs:=hs)⟩
def pU(h:WD X e te)(he:∀whole,isTrue e X.env whole=(do let v ←whole;standAt e.pos;holding [v] (truthy v)):=by intro _;rfl):WDT X e (TY te):=⟨Dl.pU (h:=h.h) (he:=he)⟩
def CZ{es:List Expr}{gs:DGs}{k n:Nat}(hc:X.calm=true)(h:WDGs X es gs)(hn:(assignEach es X.env).length=n:=by rfl)(hst:(assignEach es X.env).findIdx? (·.1)=none:=by rfl):WDG X (.Tuple es k pos) (gTL n gs):=⟨Dl.CZ (hc:=hc) (h:=h.h) (hn:=hn) (hst:=hst)⟩
def vP{ps:Pos}(hc:X.calm=true)(hm:X.mg "min"=none)(ha:WDA X [a] t)(hg:Gl X "min":=by rfl)(he:zS X a []:=by rfl)(hpl:zP X pos []:=by rfl):WD X (.Call (.Name "min" ps) [a] [] pos) (tCl (Hh (λi j=>if j<i then j else i) (λM a=>M<=a)) t):=⟨Dl.vP (hc:=hc) (hm:=hm) (ha:=ha.h) (hg:=hg) (he:=he) (hpl:=hpl)⟩
def vQ{ps:Pos}(hc:X.calm=true)(hm:X.mg "max"=none)(ha:WDA X [a] t)(hg:Gl X "max":=by rfl)(he:zS X a []:=by rfl)(hpl:zP X pos []:=by rfl):WD X (.Call (.Name "max" ps) [a] [] pos) (tCl (Hh (λi j=>if j > i then j else i) (λM a=>a<=M)) t):=⟨Dl.vQ (hc:=hc) (hm:=hm) (ha:=ha.h) (hg:=hg) (he:=he) (hpl:=hpl)⟩
def pX{ps:Pos}(hc:X.calm=true)(hm:X.mg "sum"=none)(ha:WDA X [a] t)(hg:Gl X "sum":=by rfl)(he:zS X a []:=by rfl)(hpl:zP X pos []:=by rfl):WD X (.Call (.Name "sum" ps) [a] [] pos) (tCl Kz t):=⟨Dl.pX (hc:=hc) (hm:=hm) (ha:=ha.h) (hg:=hg) (he:=he) (hpl:=hpl)⟩
def rm{ps:Pos}(hc:X.calm=true)(hm:X.mg "sorted"=none)(ha:WDA X [a] t)(hg:Gl X "sorted":=by rfl)(he:zS X a []:=by rfl)(hpl:zP X pos []:=by rfl):WD X (.Call (.Name "sorted" ps) [a] [] pos) (tCl Cr t):=⟨Dl.rm (hc:=hc) (hm:=hm) (ha:=ha.h) (hg:=hg) (he:=he) (hpl:=hpl)⟩
def jW(ha:WD X a ta)(hb:WD X b tb):WDT X (.Compare a [.IsNot] [b] pos) (cJ (t2 Fv ta tb)):=⟨Dl.jW (ha:=ha.h) (hb:=hb.h)⟩
def Bs{ps:Pos}(hc:X.calm=true)(hm:X.mg "any"=none)(ha:WDA X [a] t)(hg:Gl X "any":=by rfl)(he:zS X a []:=by rfl)(hpl:zP X pos []:=by rfl):WD X (.Call (.Name "any" ps) [a] [] pos) (tCl S8 t):=⟨Dl.Bs (hc:=hc) (hm:=hm) (ha:=ha.h) (hg:=hg) (he:=he) (hpl:=hpl)⟩
end
section
def fH[Gr]{T:String}{x:Str}{e:Expr}{te:DE}{ps pt pos:Pos}(hk:∀t:Value,(t=.type "NoneType"\/t=.type "bool"\/t=.type "int"\/t=.type "str"\/t=.type "list"\/t=.type "tuple"\/t=.type "dict")->∃n,t=.type n/\W.kitOne X.K t (.type T)=some (n == T || (T == "int"&&n == "bool")))(hm:X.mg "isinstance"=none)(he:WD X e te)(hT:WC X (.Name x pt) (.ty T))(hg:Gl X "isinstance":=by rfl)(h1:starEach [e,.Name x pt] X.env=(false,eval e X.env)::starEach [.Name x pt] X.env:=by rfl)(h2:starEach [.Name x pt] X.env=(false,eval (.Name x pt) X.env)::starEach [] X.env:=by rfl)(hpl:(backTo pos (starEach [.Name x pt] X.env)).any (·.1)=false:=by rfl) :
  WD X (.Call (.Name "isinstance" ps) [e,.Name x pt] [] pos) (tIs T te):=⟨Dl.fH hk hm he.h hT.h hg h1 h2 hpl⟩
end
end Wr
set_option autoImplicit false
set_option autoImplicit true
namespace Wr
open PySem L2 PyProof.Rows Dl
section
variable [Gr] {X:Cx}{tj te:DE}
def mL{elts:List Expr}{kk:Nat}{tpos pos:Pos}{a:Expr}{ps:Pos}(hm:X.mg "enumerate"=none)(ha:WDA X [a] ta)(hg:Gl X "enumerate":=by rfl)(hs:starEach [a] X.env=[(false,eval a X.env)]:=by rfl):WDI X (.Tuple elts kk tpos) (.Call (.Name "enumerate" ps) [a] [] pos) (Vf ta):=⟨Dl.mL hm ha.h hg hs⟩
end
section
variable [Gr] {X:Cx}{tj te te1 te2 ta:DE}{t:DS}
end
end Wr
namespace Dl
open PySem L2 PyProof.Rows
section
variable {X:Cx}{pins:List (Addr×Obj)}{σ:L2.St}{H:Hp}{s:Shared}{ok ok':Addr->Prop}
mutual
theorem Rp.eY(I:Inv X pins σ H s):∀{v:V}{d:D}{u:Value},Rp ok H v d->RelV v u->∃as,Reads s.heap u d as/\∀a∈as,H a≠none
 |_,_,_,.non,r=>by cases r;exact⟨_,.none,λ_ h=>nomatch h⟩
 |_,_,_,.bl b,r=>by cases r;exact⟨_,.bool b,λ_ h=>nomatch h⟩
 |_,_,_,.int i,r=>by obtain⟨t,rfl⟩:=r;exact⟨_,.int i t,λ_ h=>nomatch h⟩
 |_,_,_,.str x,r=>by obtain⟨t,rfl⟩:=r;exact⟨_,.str x t,λ_ h=>nomatch h⟩
 |_,_,_,.lst o h rs,r=>by
  cases r
  obtain⟨its,rv,pl,_⟩:=I.list (SqL.of h)
  obtain⟨as,ra,na⟩:=Rps.eY I rs rv
  obtain⟨ob,ho,hc,n,hd⟩:=pl.isList
  refine⟨_,.list ho hc hd (by simpa using ra),λb hb=>?_⟩
  rcases Ü.mp hb with rfl|hb
  ·rw[h];exact λz=>nomatch z
  ·exact na b hb
 |_,_,_,.tup h rs,r=>by
  cases r
  obtain⟨its,rv,pl,_⟩:=I.tuple (SqT.of h)
  obtain⟨as,ra,na⟩:=Rps.eY I rs rv
  obtain⟨ob,ho,hc,n,hd⟩:=pl
  exact⟨_,.tuple ho hc hd (by simpa using ra),na⟩
 |_,_,_,.dct (a:=a) (kvs:=kvs) (ds:=ds) o h rs,r=>by
  cases r
  obtain⟨_,_,vs,rel,ob,es,ep,ho,hc,hd,_,hp,_⟩:=FT I.hok h
  obtain⟨as,bs,ra,rb,na⟩:=Rkv.eY I rs rel hp
  refine⟨_,.dict ho hc.1 hd ra rb,λb hb=>?_⟩
  rcases à.mp hb with hb|hb
  ·rcases Ü.mp hb with rfl|hb
   ·rw[h];exact λz=>nomatch z
   ·exact na b (.inl hb)
  ·exact na b (.inr hb)
theorem Rps.eY(I:Inv X pins σ H s):∀{v:List V}{d:List D}{u:List Value},Rps ok H v d->Vals v u->∃as,ReadsAll s.heap u d as/\∀a∈as,H a≠none
 |_,_,_,.nil,r=>by cases r;exact⟨[],.nil,λ_ h=>nomatch h⟩
 |_,_,_,.cons h t,r=>by
  cases r with
  |cons a b =>
   obtain⟨as,ra,na⟩:=Rp.eY I h a
   obtain⟨bs,rb,nb⟩:=Rps.eY I t b
   exact⟨_,.cons ra rb,λc hc=>(à.mp hc).elim (na c) (nb c)⟩
theorem Rkv.eY(I:Inv X pins σ H s):∀{kvs:List (Key×V)}{ds:List (D×D)}{vs:List (Key×Value)}{es:List DictEntry},Rkv ok H kvs ds->KV kvs vs->Pairs (aW X.prog X.w) es vs->∃as bs,ReadsAll s.heap (es.map (·.key)) (ds.map (·.1)) as/\ReadsAll s.heap (es.map (·.val)) (ds.map (·.2)) bs/\∀a,a∈as\/a∈bs->H a≠none
 |_,_,_,_,.nil,r,p=>by
  cases r
  cases p
  exact⟨[],[],.nil,.nil,λ_ h=>h.elim (λh=>nomatch h) λh=>nomatch h⟩
 |_,_,_,_,.cons h t,r,p=>by
  cases r with
  |cons a b =>
   cases p with
   |cons p1 p2 p3 =>
    obtain⟨a1,a2⟩:=a
    obtain⟨as,bs,ra,rb,nb⟩:=Rkv.eY I t b p3
    obtain⟨cs,rc,nc⟩:=Rp.eY I h a2
    have p1':o8 _ _=true:=p1
    rw[←a1] at p1'
    rw[←p2] at rc
    rcases aO p1' with ⟨i,tk,e1,e2⟩|⟨x,tk,e1,e2⟩
    ·refine⟨_,_,.cons (as:=[]) ?_ ra,.cons rc rb,λc hc=>?_⟩
     ·dsimp only at e1 ⊢;rw[e2,e1]
      exact .int i tk
     ·rcases hc with hc|hc
      ·exact nb c (.inl hc)
      ·exact(à.mp hc).elim (nc c) λz=>nb c (.inr z)
    ·refine⟨_,_,.cons (as:=[]) ?_ ra,.cons rc rb,λc hc=>?_⟩
     ·dsimp only at e1 ⊢;rw[e2,e1]
      exact .str x tk
     ·rcases hc with hc|hc
      ·exact nb c (.inl hc)
      ·exact(à.mp hc).elim (nc c) λz=>nb c (.inr z)
end
mutual
theorem Rp.jQ(f:∀a o,ok a->((∀xs,o≠.tup xs)/\¬Fxd o)->H a=some o->ok' a):∀{v:V}{d:D},Rp ok H v d->Rp ok' H v d
 |_,_,.non=>.non
 |_,_,.bl b=>.bl b
 |_,_,.int i=>.int i
 |_,_,.str x=>.str x
 |_,_,.lst o h r=>.lst (f _ _ o ⟨(λ_ z=>by cases z),λ⟨_,_,z⟩=>by cases z⟩ h) h (Rps.jQ f r)
 |_,_,.tup h r=>.tup h (Rps.jQ f r)
 |_,_,.dct o h r=>.dct (f _ _ o ⟨(λ_ z=>by cases z),λ⟨_,_,z⟩=>by cases z⟩ h) h (Rkv.jQ f r)
theorem Rps.jQ(f:∀a o,ok a->((∀xs,o≠.tup xs)/\¬Fxd o)->H a=some o->ok' a):∀{v:List V}{d:List D},Rps ok H v d->Rps ok' H v d
 |_,_,.nil=>.nil
 |_,_,.cons h r=>.cons (Rp.jQ f h) (Rps.jQ f r)
theorem Rkv.jQ(f:∀a o,ok a->((∀xs,o≠.tup xs)/\¬Fxd o)->H a=some o->ok' a):∀{v:List (Key×V)}{d:List (D×D)},Rkv ok H v d->Rkv ok' H v d
 |_,_,.nil=>.nil
 |_,_,.cons h r=>.cons (Rp.jQ f h) (Rkv.jQ f r)
end
end
def Nz(d:D):Prop:=d.showable=true/\d.depth<=50/\d.shown.length<=sizeLine
def tO(base:Heap):Prop:=∃o,base.get? sysModules=some o
section
variable {X:Cx}{pos:Pos}{a e:Expr}{te:DE}{t:DA} [Gr]
def Dk(hS:tO X.base)(hg:X.A.guards=some [])(hu:X.A.units+64<cLine):aP X (.builtin "repr") (λxs H Q=>∃ok v d,xs=[v]/\Rp ok H v d/\Nz d/\Q (.str d.shown) H):=by
 intro pins s σ H xs us Q I r h
 obtain⟨ok,v,d,rfl,rd,⟨o2,o3,o4⟩,q⟩:=h
 obtain⟨u,rfl,r1⟩:=vals1 r
 have fin:∀(x:Str) (tk:Tok),x=d.shown->EP X pins σ Q (.str x tk) { s with toks:=s.toks+1 }:=λx tk e=>by subst e;exact⟨.str d.shown,H,I.tok _,⟨tk,rfl⟩,q⟩
 have big:∀a,v=.ref a->wpAny (model X.prog X.w) X.A (call (.builtin "repr") [u]) (EP X pins σ Q) X.xe s:=λa ea=>by
  subst ea
  obtain⟨as,ra,na⟩:=rd.eY I r1
  cases r1
  obtain⟨o,ho⟩:=hS
  refine repr_of_reads' (h₀:=s.heap) ra o2 (λ_ hm=>na _ hm (I.bs _ _ ho).2) hg (by omega) (λ_ _ e=>e) (λh' u tk k=>?_) o4
  exact⟨.str d.shown,H,I.kept k,⟨_,rfl⟩,q⟩
 cases rd with
 |non=>cases r1;exact PySem.P.repr_of_none (fin _ _ rfl)
 |bl b=>cases r1;exact PySem.P.repr_of_bool (fin _ _ (by cases b <;> rfl))
 |int i =>
  obtain⟨t,rfl⟩:=r1
  exact PySem.P.repr_of_int (of_decide_eq_true o2) (fin _ _ rfl)
 |str x =>
  obtain⟨t,rfl⟩:=r1
  exact PySem.P.repr_of_str (fin _ _ rfl) o4
 |lst o h rs=>exact big _ rfl
 |tup h rs=>exact big _ rfl
 |dct o h rs=>exact big _ rfl
def KD:GC:=λks P=>∃k d,ks=[(k,d)]/\Nz d/\P .imm (.str d.shown)
def lH{ps:Pos}(hS:tO X.base)(hgd:X.A.guards=some [])(hu:X.A.units+64<cLine)(hm:X.mg "repr"=none)(ha:PDA X [a] t)(hg:Gl X "repr":=by rfl)(he:zS X a []:=by rfl)(hpl:zP X pos []:=by rfl):PD X (.Call (.Name "repr" ps) [a] [] pos) (tCl KD t) :=
 bT (Dk hS hgd hu) (by
  intro p H0 own Hb H vs ks P Q A r t q
  obtain⟨k,d,rfl,o,t⟩:=t
  obtain⟨v,rfl,r'⟩:=cj r
  exact⟨_,v,d,rfl,r',o,q _ _ _ _ t Kp.refl A.pen (.str _)⟩) hg hm boot_repr ha (by decide) (by decide) he hpl
end
section
variable [Gr]
abbrev DR:=(D->Prop)->List Sl->Prop
structure WishR(p:Pn)(own:Addr->Option Nat)(H:Hp)(P:D->Prop)(Q:Ends):Prop where
 rt:∀d v H',P d->p.PI H'->(∀b o,H b=some o->¬p.fp b->own b=none->H' b=some o)->Rp (λa=>¬p.fp a) H' v d->Q.rt v H'
def Qk(t:DR):TS:=λQ σ H=>∃p H0 own ρ P,EnvD p H0 own σ H ρ/\t P ρ/\WishR p own H P Q
structure WR(X:Cx)(ss:List Stmt)(t:DR):Prop where
 h:PSs X ss (Qk t)
def Ra(te:DE):DR:=λP ρ=>te ρ λ_ d=>P d
def Um(t:DS)(u:DR):DR:=λP ρ=>t { nx:=u P,rt:=λ_=>False } ρ
variable {X:Cx}{pos:Pos}{e:Expr}{te:DE}{st:Stmt}{rest:List Stmt}{t:DS}{u:DR}
def dH(he:Wr.WD X e te):WR X [.Return (some e) pos] (Ra te):=⟨PSs.wk' (jt (qW he.h)) (by
 rintro Q σ H ⟨p,H0,own,ρ,P,E,t,w⟩
 exact⟨p,H0,own,ρ,_,E,t,λk d v H' h A r=>w.rt d v H' h A.pen (λb o e n _=>A.kp b o e n) (r.mono (λa o=>fY A o) (λ_ _ _ e=>e) λ_ _ e=>e)⟩)⟩
def jo(h1:Wr.WDS X st t)(h2:WR X rest u):WR X (st::rest) (Um t u):=⟨PSs.wk' (aN h1.h h2.h) (by
 rintro Q σ H ⟨p,H0,own,ρ,P,E,t,w⟩
 refine⟨p,H0,own,ρ,_,E,t,⟨λo s h r e g n=>⟨p,H0,o,r,P,e,n,⟨λd v H' hP hI hk rp=>w.rt d v H' hP hI (λb ob e1 n1 o1=>?_) rp⟩⟩,λ_ _ _ n=>n.elim,λ_ _ _ _ _ _ n=>n.elim,λ_ _ _ _ _ _ n=>n.elim⟩⟩
 obtain⟨e2,o2⟩:=g.keep b ob e1 n1 o1
 exact hk b ob e2 n1 o2)⟩
def V8(f:List D->(D->Prop)->Prop)(t:DA):DE:=λρ P=>t ρ λks=>(ks.all λk=>k.1.le .shr)=true/\f (ks.map (·.2)) λd=>P (norm .shr d) d
theorem Ei{p:Pn}{H0 Hb H H2:Hp}{own:Addr->Option Nat}(A:At p H0 own Hb H):∀{vs:List V}{ks:List (Kd×D)},RpK p H0 own Hb H2 vs ks->(ks.all λk=>k.1.le .shr)=true->Rps (okK p H0 own Hb .shr) H2 vs (ks.map (·.2))
 |_,_,.nil,_=>.nil
 |_,_,.cons h t,q=>by
  rw[Ū,Õ] at q
  exact .cons (gK A q.1 h) (Ei A t q.2)
variable {k j:Nat}{x:Str}{ps:List Str}{es:List Expr}{ta:DA}{p:Pos}
end
end Dl
namespace Wr
open PySem L2 PyProof.Rows Dl
variable [Gr] {X:Cx}{pos:Pos}{a:Expr}{t:DA}
def lH{ps:Pos}(hS:tO X.base)(hgd:X.A.guards=some [])(hu:X.A.units+64<cLine)(hm:X.mg "repr"=none)(ha:WDA X [a] t)(hg:Gl X "repr":=by rfl)(he:zS X a []:=by rfl)(hpl:zP X pos []:=by rfl):WD X (.Call (.Name "repr" ps) [a] [] pos) (tCl KD t):=⟨Dl.lH hS hgd hu hm ha.h hg he hpl⟩
end Wr
namespace Dl
open PySem L2 PyProof.Rows
variable [Gr]
section
variable {X:Cx}{pos:Pos}{st:Stmt}{rest:List Stmt}{t u:DS}{te tj t1 t2:DE}
def O6(t u:DS):DS:=λP ρ=>∃M:List Sl->Prop,t { P with nx:=M } ρ/\∀ρ',M ρ'->u P ρ'
def cA(h1:PDS X st t)(h2:j6 X rest u):j6 X (st::rest) (O6 t u):=PSs.wk' (aN h1 h2) (by
 rintro Q σ H ⟨p,H0,own,ρ,P,E,⟨M,hM,hu⟩,w⟩
 exact⟨p,H0,own,ρ,_,E,hM,⟨λo s h r e g n=>⟨p,H0,o,r,P,e,hu r n,w.go g⟩,w.rt,w.bk,w.ct⟩⟩)
def Rps.erase{ok:Addr->Prop}{H:Hp}{vs:List V}{ds:List D}(m:Nat)(r:Rps ok H vs ds):Rps ok H (vs.eraseIdx m) (ds.eraseIdx m):=by
 rw[List.eraseIdx_eq_take_drop_succ,List.eraseIdx_eq_take_drop_succ]
 exact(r.take _).app (r.drop _)
end
end Dl
namespace Wr
open PySem L2 PyProof.Rows Dl
section
variable [Gr] {X:Cx}{tj te t1 t2:DE}{t u:DS}
def cA{st:Stmt}{rest:List Stmt}(h1:WDS X st t)(h2:WDSs X rest u):WDSs X (st::rest) (O6 t u):=⟨Dl.cA h1.h h2.h⟩
end
end Wr
set_option autoImplicit false
namespace L2
open PySem PySem.Spec PyProof.Rows
section
variable {X:Cx}{k:Nat}{f CF:Addr}{fd:FuncData}{ps:List Str}{sp:Sp}{E:XK}{x hx n:Str}{p np cpos epos hpos pos:Pos}{e:Expr}{es:List Expr}{t:TA}{b₀:Stmt}{suite:List Stmt}{ts:TS}{j:Nat}
end
section
variable {X:Cx}{k:Nat}{f CF:Addr}{fd:FuncData}{ps:List Str}{sp:Sp}{E:XK}{x hx n:Str}{p np cpos epos hpos pos:Pos}{e:Expr}{es:List Expr}{t:TA}{b₀:Stmt}{suite:List Stmt}{ts:TS}{j:Nat}
end
end L2
namespace Dl
open PySem L2 PyProof.Rows
section
variable [Gr] {X:Cx}{pos:Pos}{a:Expr}{t:DA}
def boot_str:bootBuiltins "str"=some (.type "str"):=by decide +kernel
def KC:GC:=λks P=>match ks with
 |[(_,.int i)]=>i.natAbs.log2<1920/\P .imm (.str (toString i))
 |_=>False
def vK{ps:Pos}(hm:X.mg "str"=none)(ha:PDA X [a] t)(hg:Gl X "str":=by rfl)(he:zS X a []:=by rfl)(hpl:zP X pos []:=by rfl):PD X (.Call (.Name "str" ps) [a] [] pos) (tCl KC t) :=
 iI wV (by
  intro p H0 own Hb H vs ks P Q A r t q
  unfold KC at t
  split at t
  ·rename_i k i
   obtain⟨v,rfl,r'⟩:=cj r
   rw[r'.int']
   exact⟨i,rfl,t.1,q _ _ _ _ t.2 Kp.refl A.pen (.str _)⟩
  ·exact t.elim) hg hm boot_str ha (by decide) (by decide) he hpl
end
end Dl
namespace Wr
open PySem L2 PyProof.Rows Dl
section
variable [Gr] {X:Cx}{pos:Pos}{a:Expr}{t:DA}
def vK{ps:Pos}(hm:X.mg "str"=none)(ha:WDA X [a] t)(hg:Gl X "str":=by rfl)(he:zS X a []:=by rfl)(hpl:zP X pos []:=by rfl):WD X (.Call (.Name "str" ps) [a] [] pos) (tCl KC t):=⟨Dl.vK hm ha.h hg he hpl⟩
end
end Wr
namespace Dl
open PySem L2 PyProof.Rows
structure Ext(p q:Pn):Prop where
 pv:q.pv=p.pv
 fp:∀a,p.fp a->q.fp a
 pi:∀H,q.PI H->p.PI H
 go:∀H H',q.PI H->Kp p H H'->p.PI H'->q.PI H'
def CE(C:Pn->Prop)(q:Pn):Prop:=∃p,C p/\Ext p q
def Mu{C:Pn->Prop}{f:List D->(D->Prop)->Prop}{vs:List V}{H:Hp}{Q:VK}{E:XK}(h:spP (CE C) f vs H Q E):spP C f vs H Q E:=by
 obtain⟨q,vs',ds,P,⟨p,c,x⟩,rfl,pi,r,t,k⟩:=h
 exact⟨p,vs',ds,P,c,by rw[x.pv],x.pi _ pi,r.mono (λa n z=>n (x.fp a z)) (λ_ _ _ e=>e) (λ_ _ e=>e),t,λd v H' hP kp pi' rp=>k d v H' hP (λb o e n=>kp b o e λz=>n (x.fp b z)) (x.go H H' pi kp pi') rp⟩
def Cal.ext{P:Program}{w:World}{K:Ý}{mg:Str->Option Value}{base:Heap}{k:Nat}{x:Str}{ps:List Str}{C:Pn->Prop}{f:List D->(D->Prop)->Prop}(h:Cal P w K mg base k x ps (spP C f)):Cal P w K mg base k x ps (spP (CE C) f):=by
 obtain⟨g,fd,F,r⟩:=h.ex
 exact⟨g,fd,F.imp λ_ _ _ _=>Mu,r⟩
def pC(C:Pn->Prop)(f:List D->(D->Prop)->Prop):Sp:=λvs H Q _=>∃(p:Pn) (ok:Addr->Prop) (vs':List V) (ds:List D) (P:D->Prop),C p/\vs=p.pv::vs'/\p.PI H/\Rps (λa=>ok a/\¬p.fp a) H vs' ds/\f ds P/\∀d v H',P d->Kp p H H'->p.PI H'->Rp (λa=>(ok a/\¬p.fp a)\/H a=none) H' v d->Q v H'
def yU{C:Pn->Prop}{f:List D->(D->Prop)->Prop}{n:Nat}(hn:∀ds P,f ds P->ds.length=n:=by intro _ _ h;repeat (first|(obtain⟨rfl,_⟩:=h;rfl)|obtain⟨_,h⟩:=h)):∀vs H Q E,pC C f vs H Q E->vs.length=n+1:=λvs H Q E h=>by
 obtain⟨p,ok,vs',ds,P,_,rfl,_,r,t,_⟩:=h
 rw[ï,r.length,hn ds P t]
section
variable [Gr]
def O1{C:Pn->Prop}{p:Pn}{H:Hp}{N:List Str}{vs':List V}{ds:List D}(g:Gr.G p H)(c:C p)(pi:p.PI H)(r:Rps (λa=>¬p.fp a) H vs' ds):EnvD p H (λ_=>none) (L2.start N (p.pv::vs')) H (.pen C::(ds.map aF++Ú (N.length - (ds.length+1)) .any)):=by
 have E0:=n6 (p:=p) (N:=N.drop 1) g pi r
 refine⟨λ_ _ e _=>e,pi,(λ_ _ e=>nomatch e),λj s e=>?_,by unfold L2.start;simp[r.length],g⟩
 cases j with
 |zero =>
  have e:=Ø e
  subst e
  exact⟨rfl,c⟩
 |succ j =>
  rw[List.getElem?_cons_succ] at e
  have hl:N.length - (ds.length+1)=(N.drop 1).length - vs'.length:=by rw[r.length,ŝ];omega
  rw[hl] at e
  have q:=E0.slot j s e
  have es:(L2.start N (p.pv::vs'))[j+1]?=(L2.start (N.drop 1) vs')[j]?:=by
   unfold L2.start
   have:N.length - (p.pv::vs').length=(N.drop 1).length - vs'.length:=by rw[ŝ,ï];omega
   rw[this]
   simp
  cases s <;> simp only[gD,es] at q ⊢ <;> exact q
def FJ{C:Pn->Prop}{f:List D->(D->Prop)->Prop}{T:DR}{N:List Str}{vs:List V}{H:Hp}{Q:VK}{E:XK}(h:pC C f vs H Q E)(body:∀ds P,f ds P->∃ρ,ds.map aF++Ú (N.length - (ds.length+1)) .any=ρ/\T P (.pen (CE C)::ρ))(g:∀p,Gr.G p H:=by intro _;trivial):Qk T { nx:=λ_ H'=>Q .non H',rt:=Q } (L2.start N vs) H:=by
 obtain⟨p,ok,vs',ds,P,c,rfl,pi,r,t,k⟩:=h
 obtain⟨ρ,e,b⟩:=body ds P t
 let q:Pn:=⟨λa=>p.fp a\/(¬ok a/\¬p.fp a/\∃o,H a=some o/\(∀xs,o≠.tup xs)/\¬Fxd o),λH'=>p.PI H'/\∀b o,¬ok b->¬p.fp b->H b=some o->((∀xs,o≠.tup xs)/\¬Fxd o)->H' b=some o,p.pv,
  λH1 H2 h1 h2=>⟨p.mono H1 H2 h1.1 λb o z e=>h2 b o (z.imp .inl id) e,λb o n m e1 e2=>h2 b o (.inl (.inr ⟨n,m,o,e1,e2⟩)) (h1.2 b o n m e1 e2)⟩,
  λH1 b h1 z=>z.elim (λz=>p.is H1 b h1.1 z) λ⟨n,m,o,e1,e2⟩=>⟨o,h1.2 b o n m e1 e2,e2⟩⟩
 have x:Ext p q:=⟨rfl,λ_ z=>.inl z,λ_ z=>z.1,λH1 H2 h1 kp h2=>⟨h2,λb o n m e1 e2=>kp b o (h1.2 b o n m e1 e2) m⟩⟩
 have E:=O1 (C:=CE C) (p:=q) (N:=N) (g q) ⟨p,c,x⟩ ⟨pi,λ_ _ _ _ e _=>e⟩ (r.mono (ok':=λa=>¬q.fp a) (λa o z=>z.elim o.2 λz=>z.1 o.1) (λ_ _ _ e=>e) λ_ _ e=>e)
 rw[e] at E
 refine⟨q,H,λ_=>none,_,_,E,b,⟨λd v H' hP hI hk rp=>?_⟩⟩
 have kp:Kp p H H':=λb o e n=>by
  by_cases hf:q.fp b
  ·rcases hf with z|⟨n1,m1,o',e1,e2⟩
   ·exact(n z).elim
   ·rw[e] at e1
    cases e1
    exact hI.2 b o n1 m1 e e2
  ·exact hk b o e hf rfl
 refine k d v H' hP kp hI.1 (rp.jQ λa o n1 n2 e1=>?_)
 have nf:¬p.fp a:=λz=>n1 (.inl z)
 cases hx:H a with
 |none=>exact .inr rfl
 |some o' =>
  have e2:=kp a o' hx nf
  rw[e1] at e2
  cases e2
  exact .inl ⟨Classical.byContradiction λz=>n1 (.inr ⟨z,nf,o,hx,n2⟩),nf⟩
def rIf(tc:DT)(t u:DR):DR:=λP ρ=>tc ρ λb=>if b=true then t P ρ else u P ρ
variable {X:Cx}{pos:Pos}{c:Expr}{a rest:List Stmt}{tc:DT}{t u:DR}
theorem jO(hc:Wr.WDT X c tc)(ha:WR X a t)(hb:WR X rest u):WR X (.If c a [] pos::rest) (rIf tc t u):=⟨PSs.wk' (aN (yt hc.h ha.h lC) hb.h) (by
 rintro Q σ H ⟨p,H0,own,ρ,P,E,t,w⟩
 refine⟨p,H0,own,ρ,_,E,t,λb H' h A=>?_⟩
 have w':∀Q',Q'.rt=Q.rt->WishR p own H' P Q':=λQ' e=>⟨λd v H2 hP hI hk rp=>by
  rw[e]
  exact w.rt d v H2 hP hI (λb o e n1 n2=>hk b o (A.frs.keep b o e n1 n2).1 n1 n2) rp⟩
 cases b with
 |true=>exact aA ⟨p,H0,own,ρ,P,E.go A.kp A.pen,by simpa using h,w' _ rfl⟩
 |false=>exact aC ⟨p,H0,own,ρ,P,E.go A.kp A.pen,by simpa using h,w' _ rfl⟩)⟩
def Ud(C:Pn->Prop)(f:List D->(D->Prop)->Prop)(i:Nat)(t:DA):DE:=λρ P=>ρ[i]?=some (.pen C)/\V8 f t ρ P
variable {k j i:Nat}{x y:Str}{ps:List Str}{es:List Expr}{ta:DA}{pp py:Pos}
def Tg{C:Pn->Prop}{f:List D->(D->Prop)->Prop}(CC:Cal X.prog X.w X.K X.mg X.base k x ps (pC C f))(hr:Room j X.A)(hi:Wr.WV X (.Name y py) i)(ha:Wr.WDA X es ta)(hk:k<=j:=by decide)(hg:Gl X x:=by rfl)(hdb:zB x:=by decide)(he:starEach (.Name y py::es) X.env=(false,eval (.Name y py) X.env)::starEach es X.env:=by rfl)(hpl:zP X pos es:=by rfl) :
  Wr.WD X (.Call (.Name x pp) (.Name y py::es) [] pos) (Ud C f i ta):=⟨PE.wk (pcS CC hr (bJ hi.h ha.h) hk hg hdb he hpl) (by
 rintro σ H Q ⟨p,H0,own,ρ,P,E,⟨hp,t⟩,q⟩
 obtain⟨hs,c⟩:=E.slot i _ hp
 refine⟨p.pv,hs,p,H0,own,ρ,_,E,t,λks vs H1 h A r=>?_⟩
 show pC C f ((p.pv::vs)++[]) H1 Q E0
 rw[Ŗ]
 have r2:=Ei A r h.1
 refine⟨p,okK p H0 own _ .shr,vs,ks.map (·.2),_,c,rfl,A.pen,r2.mono (λa o=>⟨o,fY A o⟩) (λ_ _ _ e=>e) (λ_ _ e=>e),h.2,λd v H' h2 k2 i2 r3=>?_⟩
 refine q _ d v H' h2 (A.go k2 i2) (bx ?_)
 refine r3.mono (λa o=>?_) (λ_ _ _ e=>e) λ_ _ e=>e
 rcases o with o|o
 ·exact o.1
 ·exact cC A (j:=.new) (k:=.shr) rfl (A.free o))⟩
end
end Dl
namespace L2
open PySem PySem.Spec PyProof.Rows Builtin
section
variable {X:Cx}
end
end L2
namespace Dl
open PySem L2 PyProof.Rows
section
variable [Gr]
variable {X:Cx}{pos:Pos}{a b e:Expr}{ta tb te:DE}{p1 p2 p3:Pos}
end
end Dl
namespace Wr
open PySem L2 PyProof.Rows Dl
section
variable [Gr] {X:Cx}{pos:Pos}{a b e:Expr}{ta tb te:DE}{p1 p2 p3:Pos}
end
end Wr
namespace L2
open PySem PySem.Spec PyProof.Rows Builtin
section
variable {X:Cx}
end
end L2
namespace Dl
open PySem L2 PyProof.Rows
section
variable [Gr] {X:Cx}{pos p2:Pos}{a b e:Expr}{t:DA}{ta tb te:DE}
end
end Dl
namespace Wr
open PySem L2 PyProof.Rows Dl
section
variable [Gr] {X:Cx}{pos p2:Pos}{a b e:Expr}{t:DA}{ta tb te:DE}
end
end Wr
namespace Dl
open PySem L2 PyProof.Rows
variable [Gr]
section
variable {X:Cx}{st st2:Stmt}{rest:List Stmt}{te1 te2:DE}{tt:DT}{tr:TS}{t:DS}
end
section
variable {X:Cx}{own:List Str}{scope:Scope}{tg iter elt:Expr}{ifs:List Expr}{pos:Pos}{g:DG}{tt:DT}{te:DE}
end
end Dl
namespace Wr
open PySem L2 PyProof.Rows Dl
variable [Gr]
section
variable {X:Cx}{te1 te2:DE}{tt:DT}{tr:TS}{t:DS}
end
end Wr
namespace PySem
open PySem.W PyProof.Rows PySem.Spec
def Bc:typeLookup (.type "list_reverseiterator") "__len__"=pure none:=by rw[typeLookup_type,builtinLookup_eq_fast];kernel_rfl
def Jf:typeLookup (.type "list_reverseiterator") "__length_hint__"=pure (some (.builtin "list_reverseiterator.__length_hint__")):=by rw[typeLookup_type,builtinLookup_eq_fast];kernel_rfl
section
variable {prog:Program}{w:World}{A:Around}{E:Value->Shared->Prop}{s:Shared}{it l:Addr}{items:Array Value}
def Gv{Q:Bool->Shared->Prop}(hT:s.TypeIs (.ref it) "list_reverseiterator")(h:Q false s):wpAny (model prog w) A (Builtin.List.listLengthHint (.ref it)) Q E s:=by
 unfold Builtin.List.listLengthHint
 refine Æ (wpAny_specialOf hT Bc ?_)
 show wpAny _ _ (specialOf (Ģ it) (Ś "__length_hint__") >>= _) _ _ _
 refine Æ (wpAny_specialOf hT Jf ?_)
 generalize hid:("list_reverseiterator.__length_hint__":String)=nm
 wp_delta
 rw[show splitId nm=some ("list_reverseiterator","__length_hint__") from by subst hid;decide +kernel]
 subst hid
 refine Æ (wpAny_isInstance (T:="list_reverseiterator") (b:=true) hT (by rw[isSubtype_type];kernel_rfl) ?_)
 refine wpAny_ite_split (λz=>absurd z (by decide)) (λ_=>?_)
 refine wpAny_ite_split (λ_=>?_) (λz=>absurd (by decide +kernel) z)
 refine wpAny_ite_split (λz=>absurd z (by decide +kernel)) (λ_=>?_)
 exact Ö h
def Je{Q:Value->Shared->Prop}(hh:A.handled=none)(hne:l≠it)(hit:s.heap.IsRevIter it l ((items.size:Int) - 1))(hl:s.heap.IsList l items)(hn:items.size<=sizeLine)(hQ:∀h' tk acc c,(∀b o,b≠it->s.heap.get? b=some o->h'.get? b=some o)->h'.get? s.heap.objs.size=some { cls:=.type "list",dict:=none,data:=.seq acc c,slots:=#[] }->ItemsOf (λi v=>items[items.size - 1 - i]?=some v) acc items.size->Q (.ref s.heap.objs.size) { s with heap:=h',toks:=tk }) :
  wpAny (model prog w) A (call (.type "list") [.ref it]) Q E s:=by
 obtain⟨oi,ei,_⟩:=id hit
 obtain⟨ol,el,_⟩:=id hl
 have lt:∀{b:Addr}{o:Obj},s.heap.get? b=some o->s.heap.objs.size≠b:=λe=>Ļ (Ï e)
 refine callType_codes (Q₁:=λobj s₁=>obj=.ref s.heap.objs.size/\s₁={ s with heap:=s.heap.push { cls:=.type "list",data:=.seq #[] } }) F.called_list (F.typeCall_list_1 _) F.entry_list_init (code_list_new _ ⟨rfl,rfl⟩) λobj s₁ hx=>?_
 obtain⟨rfl,rfl⟩:=hx
 have hS:(s.heap.push { cls:=.type "list",data:=.seq #[] }).get? s.heap.objs.size=some { cls:=.type "list",data:=.seq #[] }:=Þ _ rfl
 refine⟨⟨_,hS,rfl⟩,F.args_list_init_2 _ _,?_⟩
 show wpAny _ _ (Builtin.List.listItems (.ref s.heap.objs.size) >>= λold=>Builtin.List.listUpdate (.ref s.heap.objs.size) (λ_=>#[]) >>= λ_=>letGo old.toList.reverse >>= λ_=>ĥ (.ref s.heap.objs.size) (.ref it) .none) _ _ _
 have old:∀b o,s.heap.get? b=some o->(s.heap.push { cls:=.type "list",data:=.seq #[] }).get? b=some o:=λb o e=>Î _ e
 refine Æ ?_
 unfold Builtin.List.listItems
 refine Æ (wpAny_seqItems hS rfl (Ö ?_))
 refine Æ (m:=updateSeq s.heap.objs.size (λ_=>#[])) (wpAny_updateSeq hS rfl ?_)
 have hS2:=ň (ô (λ_=>(#[]:Array Value))) hS rfl
 refine Æ (wpAny_letGo ?_)
 generalize hg:(s.heap.push { cls:=.type "list",data:=.seq #[] }).update s.heap.objs.size (ô λ_=>(#[]:Array Value))=g at hS2
 have kg:∀b o,s.heap.get? b=some o->g.get? b=some o:=λb o e=>by rw[←hg];exact(ĭ _ _ (lt e)).trans (old b o e)
 have hit2:g.IsRevIter it l ((items.size:Int) - 1):=hit.at λo e=>kg _ o e
 have hl2:g.IsList l items:=hl.at λo e=>kg _ o e
 have hT:({ s with heap:=g }:Shared).TypeIs (.ref it) "list_reverseiterator":=⟨oi,kg _ _ ei,(id hit:_).elim λo x=>by rw[ei] at x;cases x.1;exact x.2.1⟩
 unfold ĥ
 refine Æ (wpAny_typeOf hT ?_)
 have q1:Builtin.List.listSameRef (.ref s.heap.objs.size) (.ref it)=false:=by simp[Builtin.List.listSameRef,lt ei]
 have q2:(ĉ "list_reverseiterator" == ĉ "list")=false:=by decide
 have q3:(ĉ "list_reverseiterator" == ĉ "tuple")=false:=by decide
 simp only[q1,q2,q3,Bool.or_false,Ĭ,if_false]
 refine Æ (wpAny_pyIter_revIter hit2 ?_)
 refine Æ (Ě (Gv hT ?_))
 refine wpAny_ite_split (λz=>absurd z (by decide)) (λ_=>?_)
 have W:=Walks.listRev (prog:=prog) (w:=w) (A:=A.in1.in1) hh it l hne items
 have hSf:s.heap.objs.size∉[it,l]:=by simp only[Ü,ý,or_false,not_or];exact⟨lt ei,lt el⟩
 refine Ö ⟨plainId_quiet F.plain_extend_loop _,codeAny_extend_loopS (A:=A.in1) W.toS hn s.heap.objs.size hSf .none items.size 0 _ #[] _ rfl (ü _) ⟨ü _,by simpa using hit2,hl2⟩ hS2 (ItemsOf.nil _) λs' acc c hm hS' hacc=>?_⟩
 rw[Moved.eq_with hm]
 refine⟨rfl,hQ s'.heap s'.toks acc c (λb o hb e=>hm.heap b o (λz=>?_) (kg b o e)) hS' hacc⟩
 rcases Ü.mp z with z|z
 ·exact lt e z.symm
 ·exact hb (Ë.mp z)
end
end PySem
namespace L2
open PySem PySem.Spec PyProof.Rows
section
variable {X:Cx}
def tLR(K:Ý)(ta:TA):TE:=λσ H Q=>ta σ H λvs H1=>∃p xs,vs=[.ref p]/\SqL K H1 p xs/\∀l,H1 l=none->Q (.ref l) (upd H1 l (.lst xs.reverse))
def G8{its:List Value}{acc:Array Value}(h:ItemsOf (λi v=>its.toArray[its.toArray.size - 1 - i]?=some v) acc its.toArray.size):acc.toList=its.reverse:=by
 have hs:acc.size=its.length:=by have:=h.1;simpa using this
 refine List.ext_getElem? λi=>?_
 by_cases hi:i<acc.size
 ·have e:acc.toList[i]?=some acc[i]:=by rw[Array.getElem?_toList];exact Array.getElem?_eq_getElem hi
  have q:=h.2 i acc[i] (Array.getElem?_eq_getElem hi)
  rw[e,List.getElem?_reverse (by omega)]
  simpa using q.symm
 ·rw[List.getElem?_eq_none (by rw[Ę];omega),List.getElem?_eq_none (by rw[ĳ];omega)]
def Bk{a:Expr}{ta:TA}{p1 p2 pos1 pos2:Pos}(hc:X.calm=true)(hgl:Gl X "list")(hml:X.mg "list"=none)(hgr:Gl X "reversed")(hmr:X.mg "reversed"=none)(ha:PA X [a] ta)(e1:starEach [.Call (.Name "reversed" p2) [a] [] pos2] X.env=[(false,eval (.Call (.Name "reversed" p2) [a] [] pos2) X.env)]:=by rfl)(e2:zS X a []:=by rfl)(e3:zP X pos2 []:=by rfl) :
  PE X (.Call (.Name "list" p1) [.Call (.Name "reversed" p2) [a] [] pos2] [] pos1) (tLR X.K ta):=by
 intro pins s σ H Q I h
 refine Ť (dJ I hgl hml boot_list ?_)
 refine ć ?_ e1 rfl
 rw[e1]
 refine Calls.spliced_cons ?_
 refine Ť (dJ I hgr hmr PyProof.Rows.boot_reversed ?_)
 refine ć (thn (ha pos2 pins s σ H _ I h) λus s1 ⟨vs,H1,I1,r1,q1⟩=>?_) e2 e3
 obtain⟨p,xs,rfl,hp,k⟩:=q1
 obtain⟨u,rfl,rx⟩:=vals1 r1
 cases rx
 obtain⟨its,rv,pl,hz⟩:=I1.list hp
 refine call_reversed_list pl.isList ?_
 refine Calls.spliced_nil ?_
 have hl1:=rv.length
 have lp:p<s1.heap.objs.size:=by obtain⟨o,e,_⟩:=pl.isList;exact Ï e
 refine Je (items:=its.toArray) (l:=p) (it:=s1.heap.objs.size) (s:={ s1 with heap:=s1.heap.push (revObj p ((its.toArray.size:Int) - 1)) }) (I1.ok.hd hc) (ä lp) ⟨_,Þ _ rfl,rfl,rfl⟩ (pl.isList.at λo e=>Î _ e) (by rw[Ò];omega) λh' tk acc c hk hS hacc=>?_
 have kept:∀b o,s1.heap.get? b=some o->h'.get? b=some o:=λb o e=>hk b o (ä (Ï e)) (Î _ e)
 have ea:=G8 hacc
 have sz:(s1.heap.push (revObj p ((its.toArray.size:Int) - 1))).objs.size=s1.heap.objs.size+1:=ĸ ..
 have hle:s1.heap.objs.size<=(s1.heap.push (revObj p ((its.toArray.size:Int) - 1))).objs.size:=by omega
 refine⟨.ref (s1.heap.push (revObj p ((its.toArray.size:Int) - 1))).objs.size,_,I1.laid (t':=tk) (o:=.lst xs.reverse) kept hle ⟨by rw[ĳ];omega,its.reverse,c,rv.reverse,?_⟩,rfl,k _ (I1.hok.fresh hle)⟩
 rw[←ea,Array.toArray_toList]
 exact hS
end
end L2
namespace Dl
open PySem L2 PyProof.Rows
section
variable [Gr] {X:Cx}{a:Expr}{t:DA}
def SQ:GC:=λks P=>match ks with
 |[(k,.list ds)]=>newP k ds.reverse λk'=>P k' (.list ds.reverse)
 |_=>False
def fW{p1 p2 pos1 pos2:Pos}(hc:X.calm=true)(hml:X.mg "list"=none)(hmr:X.mg "reversed"=none)(ha:PDA X [a] t)(hgl:Gl X "list":=by rfl)(hgr:Gl X "reversed":=by rfl)(e1:starEach [.Call (.Name "reversed" p2) [a] [] pos2] X.env=[(false,eval (.Call (.Name "reversed" p2) [a] [] pos2) X.env)]:=by rfl)(e2:zS X a []:=by rfl)(e3:zP X pos2 []:=by rfl) :
  PD X (.Call (.Name "list" p1) [.Call (.Name "reversed" p2) [a] [] pos2] [] pos1) (tCl SQ t):=PE.wk (Bk hc hgl hml hgr hmr ha e1 e2 e3) (by
 rintro σ H Q ⟨p,H0,own,ρ,P,E,t,q⟩
 refine⟨p,H0,own,ρ,_,E,t,λks vs H1 h A r=>?_⟩
 unfold SQ at h
 split at h
 ·rename_i k ds
  obtain⟨v,rfl,r'⟩:=cj r
  obtain⟨x,xs,rfl,o,h1,rs⟩:=r'.aX
  refine⟨x,xs,rfl,SqL.of h1,λl hl=>?_⟩
  obtain⟨k2,i2,nw⟩:=A.new hl (.lst xs.reverse)
  obtain⟨k',hk',rk'⟩:=eF A (bR A k2 rs.rev) nw aq h
  exact q _ _ _ _ hk' (A.go k2 i2) rk'
 ·exact h.elim)
end
end Dl
namespace Wr
open PySem L2 PyProof.Rows Dl
section
variable [Gr] {X:Cx}{a:Expr}{t:DA}
def fW{p1 p2 pos1 pos2:Pos}(hc:X.calm=true)(hml:X.mg "list"=none)(hmr:X.mg "reversed"=none)(ha:WDA X [a] t)(hgl:Gl X "list":=by rfl)(hgr:Gl X "reversed":=by rfl)(e1:starEach [.Call (.Name "reversed" p2) [a] [] pos2] X.env=[(false,eval (.Call (.Name "reversed" p2) [a] [] pos2) X.env)]:=by rfl)(e2:zS X a []:=by rfl)(e3:zP X pos2 []:=by rfl) :
  WD X (.Call (.Name "list" p1) [.Call (.Name "reversed" p2) [a] [] pos2] [] pos1) (tCl SQ t):=⟨Dl.fW hc hml hmr ha.h hgl hgr e1 e2 e3⟩
end
end Wr
set_option autoImplicit true
namespace Wr
open PySem L2 PyProof.Rows Dl
variable [Gr] {X:Cx}{pos:Pos}{a b:Expr}{ta tb:DE}
def Np(ha:WD X a ta)(hb:WD X b tb):WD X (.BinOp a .BitXor b pos) (t2 (gI0 λi j=>.int (Builtin.bitXor i j)) ta tb):=⟨Dl.uF RN (GQ λi j _=>.int _) ha.h hb.h⟩
end Wr
namespace L2
open PySem PySem.Spec PyProof.Rows
def TF(K:Ý)(a b:Addr):It :=
 ⟨λi H=>∃xs ys x y,SqL K H a xs/\SqL K H b ys/\xs[i]?=some x/\ys[i]?=some y,λi H v H'=>∃t x y,v=.ref t/\H t=none/\H'=upd H t (.tup [x,y])/\(∀xs,SqL K H a xs->xs[i]?=some x)/\∀ys,SqL K H b ys->ys[i]?=some y,λi H=>∃xs ys,SqL K H a xs/\SqL K H b ys/\(xs.length<=i\/ys.length<=i)⟩
def Ir{P:Program}{w:World}{K:Ý}{elts:List Expr}{kk:Nat}{pos:Pos}{a b z TI TO i1 i2:Addr}(D:ZipApart z TI TO i1 i2 a b) :
  Turn P w K (.Tuple elts kk pos) (TF K a b) [z,TI,TO,i1,i2] z (λi h=>IsZip h z TI TO .none/\IsPair h TI (.ref i1) (.ref i2)/\(∃u v,IsPair h TO u v)/\h.IsListIter i1 a i/\h.IsListIter i2 b i) where
 mem:=by simp
 obj:=λi h st c hc=>by
  obtain⟨hz,hTI,⟨u,v,hTO⟩,⟨o1,j1,c1,d1⟩,⟨o2,j2,c2,d2⟩⟩:=st
  simp only[Ü,ý,or_false] at hc
  rcases hc with rfl|rfl|rfl|rfl|rfl
  ·exact⟨_,hz,λv z=>nomatch z⟩
  ·exact⟨_,hTI,λv z=>nomatch z⟩
  ·exact⟨_,hTO,λv z=>nomatch z⟩
  ·exact⟨o1,j1,λv z=>by rw[d1] at z;cases z⟩
  ·exact⟨o2,j2,λv z=>by rw[d2] at z;cases z⟩
 keep:=λi h h' st k=>by
  obtain⟨hz,hTI,⟨u,v,hTO⟩,⟨o1,j1,r1⟩,⟨o2,j2,r2⟩⟩:=st
  exact⟨k z (by simp) _ hz,k TI (by simp) _ hTI,⟨u,v,k TO (by simp) _ hTO⟩,⟨o1,k i1 (by simp) _ j1,r1⟩,⟨o2,k i2 (by simp) _ j2,r2⟩⟩
 item:=by
  intro X hP hw hK hc i pins s σ H E I hf st hg
  subst hP hw hK
  obtain⟨xs,ys,x,y,hq,hq2,hx,hy⟩:=hg
  obtain⟨its,rv,pl,hz1⟩:=I.list hq
  obtain⟨its2,rv2,pl2,hz2⟩:=I.list hq2
  obtain⟨u,hu,ru⟩:=rv.get hx
  obtain⟨u2,hu2,ru2⟩:=rv2.get hy
  obtain⟨hz,hTI,hTO,h1,h2⟩:=st
  have W:=WalksT.zip2 (prog:=X.prog) (w:=X.w) (A:=X.A) (I.ok.hd hc) z TI TO i1 i2 a b D its.toArray its2.toArray
  have l1:=(Ç.mp hu).1
  have l2:=(Ç.mp hu2).1
  refine W.item i s _ _ (by simp;omega) ⟨hz,hTI,hTO,h1,h2,pl.isList,pl2.isList⟩ λT vals h' tk hP hTs hTup hMid hk=>⟨_,rfl,?_⟩
  obtain⟨x',y',e1,e2,rfl⟩:=hP
  have ex:x'=u:=by
   have:its[i]?=some x':=by simpa using e1
   rw[hu] at this
   exact(Ø this).symm
  have ey:y'=u2:=by
   have:its2[i]?=some y':=by simpa using e2
   rw[hu2] at this
   exact(Ø this).symm
  subst ex ey
  have ap:=W.apart i T h' hMid
  refine W.go elts kk pos i T _ _ _ hMid λh3 hst3 hk3=>?_
  have hTn:H T=none:=I.hok.fresh hTs
  have keep2:∀c o,c∉[z,TO,i1,i2]->s.heap.get? c=some o->h3.get? c=some o:=λc o hc q=>hk3 c o hc (hk c o hc q)
  have fz:∀c∈[z,TO,i1,i2],mW X pins H c:=λc hc=>hf c (by
   simp only[Ü,ý,or_false] at hc ⊢
   rcases hc with h|h|h|h <;> simp[h])
  have nT:∀{c:Addr}{y:HO},H c=some y->c∉[z,TO,i1,i2]:=λ{c y} q hc=>by
   have:=(fz c hc).1
   rw[this] at q
   cases q
  obtain⟨oT,hT1,hT2,nn,hT3⟩:=hTup
  have hTup3:IsTup h3 T #[x',y']:=⟨oT,hk3 T oT ap hT1,hT2,nn,hT3⟩
  have J:Inv X pins σ (upd H T (.tup [x,y])) { s with heap:=h3,toks:=tk }:=by
   refine I.step (g':=s.gens) (d':=s.drawn) (t':=tk) (ch:=[z,TO,i1,i2]) (λc hc=>?_) (λc o _ _ hcb q _=>keep2 c o hcb q)
    (λc o _ _ hcb q _=>⟨o.slots,keep2 c o hcb q⟩) (λc o _ q n=>by rw[aj (ä (ì (Ï q) hTs))];exact n)
    (λc o hcb q=>⟨o,keep2 c o hcb q⟩) (λc ys q=>by rw[aj (ao q hTn)];exact q) (λc o y q=>by rw[aj (ao q hTn)];exact q)
    (λc ps q=>⟨#[],by rw[aj (ao q hTn),q];simp⟩) (λm hm=>?_) ?_ I.bare
   ·obtain⟨e0,e1,e2,e3,e4,e5⟩:=fz c hc
    exact⟨e3,e1,e4,e5⟩
   ·obtain⟨o,es,ep,ho',r⟩:=hm
    refine⟨o,es,ep,keep2 _ o (λhc=>?_) ho',r⟩
    exact(fz _ hc).2.1 rfl
   ·intro c u' q
    by_cases hb:c=T
    ·subst hb
     rw[aq] at q
     cases q
     exact⟨(by show 2<=sizeLine;decide),[x',y'],.cons ru (.cons ru2 .nil),hTup3⟩
    ·rw[aj hb] at q
     refine(I.hok c u' q).stay (λd v hcv y=>keep2 d v ?_ y) (λd y=>by rw[aj (ao y hTn)];exact y) λd ys y=>by rw[aj (ao y hTn)];exact y
     rcases hcv with rfl|z
     ·exact nT q
     ·exact nT z
  obtain⟨a1,a2,a3,a4,a5,_,_⟩:=hst3
  refine⟨.ref T,_,J,rfl,⟨T,x,y,rfl,hTn,rfl,λxs' hy'=>by rw[I.lX hy' hq];exact hx,λys' hy'=>by rw[I.lX hy' hq2];exact hy⟩,⟨a1,a2,a3,a4,a5⟩,λc hc=>?_⟩
  rw[aj]
  ·exact(hf c hc).1
  ·rintro rfl
   simp only[Ü,ý,or_false] at hc
   have lt:∀{d:Addr}{o:Obj},s.heap.get? d=some o->c≠d:=λe=>Ļ (ì (Ï e) hTs)
   obtain⟨w1,w2,hTO'⟩:=hTO
   obtain⟨o1,j1,_⟩:=h1
   obtain⟨o2,j2,_⟩:=h2
   rcases hc with h|h|h|h|h
   ·exact lt hz h
   ·exact lt hTI h
   ·exact lt hTO' h
   ·exact lt j1 h
   ·exact lt j2 h
 done:=by
  intro X hP hw hK hc i pins s σ H E I hf st hg
  subst hP hw hK
  obtain⟨xs,ys,hq,hq2,he⟩:=hg
  obtain⟨its,rv,pl,hz1⟩:=I.list hq
  obtain⟨its2,rv2,pl2,hz2⟩:=I.list hq2
  obtain⟨hz,hTI,⟨u,v,hTO⟩,h1,h2⟩:=st
  have r1:=rv.length
  have r2:=rv2.length
  refine wpAny_pyNext_zip_end (I.ok.hd hc) D hz hTI hTO h1 h2 pl.isList pl2.isList (xs:=its.toArray) (ys:=its2.toArray) ?_ λh' hk=>⟨rfl,?_⟩
  ·rcases he with he|he
   ·left;simp;omega
   ·right;simp;omega
  have fz:∀c∈[z,TO,i1,i2],mW X pins H c:=λc hc=>hf c (by
   simp only[Ü,ý,or_false] at hc ⊢
   rcases hc with h|h|h|h <;> simp[h])
  have keep2:∀c o,c∉[z,TO,i1,i2]->s.heap.get? c=some o->h'.get? c=some o:=λc o hc q=>hk c o (λe=>hc (by simp[e])) (λe=>hc (by simp[e])) (λe=>hc (by simp[e])) (λe=>hc (by simp[e])) q
  have nT:∀{c:Addr}{y:HO},H c=some y->c∉[z,TO,i1,i2]:=λ{c y} q hc=>by
   have:=(fz c hc).1
   rw[this] at q
   cases q
  refine I.step (g':=s.gens) (d':=s.drawn) (t':=s.toks) (ch:=[z,TO,i1,i2]) (λc hc=>?_) (λc o _ _ hcb q _=>keep2 c o hcb q)
    (λc o _ _ hcb q _=>⟨o.slots,keep2 c o hcb q⟩) (λc o _ q n=>n)
    (λc o hcb q=>⟨o,keep2 c o hcb q⟩) (λc ys q=>q) (λc o y q=>q)
    (λc ps q=>⟨#[],by rw[q];simp⟩) (λm hm=>?_) ?_ I.bare
  ·obtain⟨e0,e1,e2,e3,e4,e5⟩:=fz c hc
   exact⟨e3,e1,e4,e5⟩
  ·obtain⟨o,es,ep,ho',r⟩:=hm
   refine⟨o,es,ep,keep2 _ o (λhc=>?_) ho',r⟩
   exact(fz _ hc).2.1 rfl
  ·intro c u' q
   refine(I.hok c u' q).stay (λd v hcv y=>keep2 d v ?_ y) (λd y=>y) λd ys y=>y
   rcases hcv with rfl|z
   ·exact nT q
   ·exact nT z
 self:=λA i s Q E st h=>by
  obtain⟨hz,_⟩:=st
  exact wpAny_pyIter_zip hz h
def Vb(K:Ý)(ta:TA):TI:=λσ H R=>ta σ H λvs H1=>∃a b xs ys,vs=[.ref a,.ref b]/\SqL K H1 a xs/\SqL K H1 b ys/\R (TF K a b) H1
def Rq{X:Cx}{elts:List Expr}{kk:Nat}{tpos:Pos}{a b:Expr}{ta:TA}{p pos:Pos}(hg:Gl X "zip")(hm:X.mg "zip"=none)(ha:PA X [a,b] ta)(e2:starEach [a,b] X.env=(false,eval a X.env)::starEach [b] X.env:=by rfl)(e3:(backTo pos (starEach [b] X.env)).any (·.1)=false:=by rfl):PI X (.Tuple elts kk tpos) (.Call (.Name "zip" p) [a,b] [] pos) (Vb X.K ta):=by
 intro pins s σ H R I h
 refine Call_ (dJ I hg hm PyProof.Rows.boot_zip (ć (thn (ha pos pins s σ H _ I h) λus s1 ⟨vs,H1,I1,r1,q1⟩=>?_) e2 e3))
 obtain⟨a,b,xs,ys,rfl,hp,hq,k⟩:=q1
 obtain⟨u,u2,rfl,rx,ry⟩:=vals2 r1
 cases rx
 cases ry
 obtain⟨its,rv,pl,_⟩:=I1.list hp
 obtain⟨its2,rv2,pl2,_⟩:=I1.list hq
 refine call_zip_2 pl.isList pl2.isList λh' hz hTI hTO hi1 hi2 hsz hk=>?_
 have lp:a<s1.heap.objs.size:=by obtain⟨o,e,_⟩:=pl.isList;exact Ï e
 have lq:b<s1.heap.objs.size:=by obtain⟨o,e,_⟩:=pl2.isList;exact Ï e
 have D:=zipApart_new lp lq
 have I2:Inv X pins σ H1 { s1 with heap:=h' }:=I1.kept (t':=s1.toks) hk
 have T:=Ir (P:=X.prog) (w:=X.w) (K:=X.K) (elts:=elts) (kk:=kk) (pos:=tpos) D
 refine T.self _ 0 _ _ _ ⟨hz,hTI,⟨_,_,hTO⟩,hi1,hi2⟩ ⟨_,_,_,_,H1,rfl,I2,T,⟨hz,hTI,⟨_,_,hTO⟩,hi1,hi2⟩,λc hc=>?_,k⟩
 have fr:∀j,mW X pins H1 (s1.heap.objs.size+j):=λj=>I1.zA (Nat.le_add_right _ _) (I1.hok.fresh (Nat.le_add_right _ _))
 simp only[Ü,ý,or_false] at hc
 rcases hc with h|h|h|h|h
 ·rw[h];exact fr 4
 ·rw[h];exact fr 2
 ·rw[h];exact fr 3
 ·rw[h];exact fr 0
 ·rw[h];exact fr 1
end L2
namespace Dl
open PySem L2 PyProof.Rows
variable [Gr]
section
variable {X:Cx}{tg:Expr}{pos:Pos}{ta:DA}
def Ii{K:Ý}{ok:Addr->Prop}{a b:Addr}{ds es:List D}:Wlk (λH=>Rp ok H (.ref a) (.list ds)/\Rp ok H (.ref b) (.list es)) (TF K a b) ((ds.zip es).map prD) ok where
 go:=λi H r hi=>by
  obtain⟨b,vs,e,_,h,rs⟩:=r.1.aX
  cases e
  obtain⟨b2,vs2,e,_,h2,rs2⟩:=r.2.aX
  cases e
  rw[Ä,List.length_zip] at hi
  have l1:i<vs.length:=by rw[rs.length];omega
  have l2:i<vs2.length:=by rw[rs2.length];omega
  exact⟨vs,vs2,vs[i],vs2[i],SqL.of h,SqL.of h2,by simp[l1],by simp[l2]⟩
 stop:=λH r=>by
  obtain⟨b,vs,e,_,h,rs⟩:=r.1.aX
  cases e
  obtain⟨b2,vs2,e,_,h2,rs2⟩:=r.2.aX
  cases e
  refine⟨vs,vs2,SqL.of h,SqL.of h2,?_⟩
  rw[Ä,List.length_zip,rs.length,rs2.length]
  omega
 yld:=λi H x H' r y=>by
  obtain⟨t,v,v2,rfl,ht,rfl,y1,y2⟩:=y
  have sm:Same H (upd H t (.tup [v,v2])):=λb u q=>by rw[aj (ao q ht)];exact q
  refine⟨sm,λd hd=>?_⟩
  obtain⟨b,vs,e,_,h,rs⟩:=r.1.aX
  cases e
  obtain⟨b2,vs2,e,_,h2,rs2⟩:=r.2.aX
  cases e
  rw[Û] at hd
  cases he:(ds.zip es)[i]? with
  |none=>rw[he] at hd;cases hd
  |some pq =>
   rw[he] at hd
   have e:=Ø hd
   subst e
   obtain⟨g1,g2⟩:=List.getElem?_zip_eq_some.mp he
   obtain⟨w1,hw1,rw1⟩:=rs.getD g1
   obtain⟨w2,hw2,rw2⟩:=rs2.getD g2
   have z1:=y1 vs (SqL.of h)
   rw[hw1] at z1
   cases z1
   have z2:=y2 vs2 (SqL.of h2)
   rw[hw2] at z2
   cases z2
   exact .tup aq (.cons (rw1.mono (λ_ o=>o) (λa o _ e=>sm a o e) λa xs e=>sm a _ e) (.cons (rw2.mono (λ_ o=>o) (λa o _ e=>sm a o e) λa xs e=>sm a _ e) .nil))
 stab:=λH H' r f t=>⟨r.1.bQ (λa o n e=>⟨n,f a o n e⟩) t,r.2.bQ (λa o n e=>⟨n,f a o n e⟩) t⟩
def iZp(ta:DA):DI:=λρ P=>ta ρ λks=>match ks with
 |[(k1,.list ds),(k2,.list es)]=>P (k1.join k2) ((ds.zip es).map prD)
 |_=>False
def CV{elts:List Expr}{kk:Nat}{tpos:Pos}{a b:Expr}{ps:Pos}(hm:X.mg "zip"=none)(ha:PDA X [a,b] ta)(hg:Gl X "zip":=by rfl)(e2:starEach [a,b] X.env=(false,eval a X.env)::starEach [b] X.env:=by rfl)(e3:(backTo pos (starEach [b] X.env)).any (·.1)=false:=by rfl):PDI X (.Tuple elts kk tpos) (.Call (.Name "zip" ps) [a,b] [] pos) (iZp ta):=PI.wk (Rq hg hm ha e2 e3) (by
 rintro σ H R ⟨p,H0,own,ρ,P,E,t,q⟩
 refine⟨p,H0,own,ρ,_,E,t,λks vs H1 h A r=>?_⟩
 split at h
 ·rename_i k1 ds k2 es
  obtain⟨v1,v2,rfl,r1,r2⟩:=Jh r
  have r1:=gK A (dh k1 k2).1 r1
  have r2:=gK A (dh k1 k2).2 r2
  obtain⟨a,vs,e,_,ha,rs⟩:=Rp.aX (id r1)
  subst e
  obtain⟨b,vs2,e,_,hb,rs2⟩:=Rp.aX (id r2)
  subst e
  exact⟨a,b,vs,vs2,rfl,SqL.of ha,SqL.of hb,q (k1.join k2) _ _ H1 _ h A Ii ⟨rpA r1,rpA r2⟩⟩
 ·exact h.elim)
end
end Dl
namespace Wr
open PySem L2 PyProof.Rows Dl
variable [Gr] {X:Cx}{pos:Pos}{ta:DA}
def CV{elts:List Expr}{kk:Nat}{tpos:Pos}{a b:Expr}{ps:Pos}(hm:X.mg "zip"=none)(ha:WDA X [a,b] ta)(hg:Gl X "zip":=by rfl)(e2:starEach [a,b] X.env=(false,eval a X.env)::starEach [b] X.env:=by rfl)(e3:(backTo pos (starEach [b] X.env)).any (·.1)=false:=by rfl):WDI X (.Tuple elts kk tpos) (.Call (.Name "zip" ps) [a,b] [] pos) (iZp ta):=⟨Dl.CV hm ha.h hg e2 e3⟩
end Wr
namespace L2
open PySem PyProof.Rows
def Asc(xs:Array Nat):Prop:=xs.toList.Pairwise (·<·)
structure Good(w:World)(t:SetTable):Prop where
 asc:Asc t.place
 dum:t.dummies=#[]
 led:t.led=!w.params.followText "set-order"
section
variable {w:World}{t:SetTable}
end
section
variable {P:Program}{w:World}{A:Around}{E:Value->Shared->Prop}{s:Shared}
end
section
variable {P:Program}{w:World}{A:Around}{R:Result->Shared->Prop}{I:Addr}{fp wr:List Addr}{G:Array GenState->Array GenState->Prop}{n:Nat}{W:Nat->Value->Prop}{St:Nat->Shared->Prop}
end
section
variable {P:Program}{w:World}{A:Around}{E:Value->Shared->Prop}{s:Shared}
end
section
variable {P:Program}{w:World}{A:Around}{E:Value->Shared->Prop}{s:Shared}{I a:Addr}{f:Value}{i n ep:Nat}{o:Obj}{es:Array (Int×Value)}{t:SetTable}
end
section
variable {P:Program}{w:World}{A:Around}{E:Value->Shared->Prop}{s:Shared}
variable {a:Addr}{i ep:Nat}{o:Obj}{es:Array (Int×Value)}{t:SetTable}
end
section
variable {P:Program}{w:World}{A:Around}{E:Value->Shared->Prop}{s:Shared}{I a:Addr}{ep:Nat}{o:Obj}{es:Array (Int×Value)}{t:SetTable}
end
end L2
namespace L2
open PySem PySem.Spec PyProof.Rows
section
variable {P:Program}{w:World}{A:Around}{E:Value->Shared->Prop}{s:Shared}{a:Addr}{S:Int->Bool}{n:Nat}
end
end L2
namespace L2
open PySem PyProof.Rows
section
variable {X:Cx}{pins:List (Addr×Obj)}{σ:List (Option V)}{H:Hp}{s:Shared}
end
end L2
namespace Dl
open PySem L2 PyProof.Rows
variable [Gr]
section
variable {X:Cx}{pos pos':Pos}{a:Expr}{t:DA}
end
end Dl
namespace Wr
open PySem L2 PyProof.Rows Dl
section
variable [Gr] {X:Cx}{pos pos':Pos}{a:Expr}{t:DA}
end
end Wr
namespace L2
open PySem PySem.Spec PyProof.Rows
open PySem.AutoSeq1 (wpAny_loadPart')
open PySem.MeetsSeq PySem.MeetsSeq3
section
variable {prog:Program}{w:World}{A:Around}{E:Value->Shared->Prop}{s:Shared}
end
section
variable {X:Cx}
end
end L2
namespace Dl
open PySem L2 PyProof.Rows
section
variable {X:Cx}{pos:Pos}{a:Expr}{t:DA} [Gr]
end
end Dl
namespace L2
open PySem PySem.Spec PyProof.Rows
section
variable {prog:Program}{w:World}{A:Around}{E:Value->Shared->Prop}{s:Shared}
end
section
variable {X:Cx}
end
end L2
namespace Dl
open PySem L2 PyProof.Rows
section
variable {X:Cx}{pos:Pos}{a e:Expr}{t:DA} [Gr]
end
end Dl
namespace L2
open PySem PySem.Spec PyProof.Rows
open AutoSeq1 in
section
variable {X:Cx}
end
end L2
namespace Dl
open PySem L2 PyProof.Rows
variable [Gr]
section
variable {X:Cx}{st:Stmt}{te:DE}{pos:Pos}{ta:DA}
end
end Dl
namespace Wr
open PySem L2 PyProof.Rows Dl
section
variable [Gr] {X:Cx}{pos:Pos}{a:Expr}{ta t:DA}{te:DE}
end
end Wr
namespace Dl
open PySem L2 PyProof.Rows
variable [Gr]
section
variable {X:Cx}{st st2:Stmt}{rest:List Stmt}{tj te1 te2:DE}{tt:DT}{t:DS}{K:Ý}
end
end Dl
namespace Wr
open PySem L2 PyProof.Rows Dl
section
variable [Gr] {X:Cx}{tj te1 te2:DE}
end
end Wr
namespace L2
open PySem PySem.Spec PyProof.Rows
structure LamScope(ps ys:List Str)(sc:Scope)(cl:List (Str×Addr)):Prop where
 kind:sc.kind=.function
 co:sc.isCoroutine=false
 gen:sc.isGenerator=false
 nd:(ps++ys).Nodup
 par:∀x∈ps,sc.names.lookup x=some .local
 fre:∀y∈ys,sc.names.lookup y=some .free
 nocell:∀x∈sc.names,x.2≠.cell
 all:∀x,sc.names.lookup x=some .free->∃c,cl.lookup x=some c
 inj:∀x y c,cl.lookup x=some c->cl.lookup y=some c->x=y
structure Caps(base:Heap)(cl:List (Str×Addr))(ys:List Str)(cvs:List V):Prop where
 len:cvs.length=ys.length
 cells:∀x c,cl.lookup x=some c->∃v,base.IsCell c v
 val:∀(j:Nat) (y:Str) (v:V),ys[j]?=some y->cvs[j]?=some v->∃c u,cl.lookup y=some c/\base.IsCell c (some u)/\RelV v u
def Vz(x:Obj)(qual:Str):Prop:=∃vs t,x.data=.fields vs/\vs[1]?=some (.str qual t)
def VN(H:Hp)(c':Addr)(qual:Str):Prop:=∃x φ,H c'=some (.frz x (.ext φ))/\Vz x qual
section
variable {X:Cx}{CX:CXT}{k i:Nat}{f:Addr}{fd:FuncData}{ps:List Str}{sp:Sp}{E:XK}{x:Str}{p pos:Pos}{e:Expr}{es:List Expr}{t:TA}
end
section
variable {X:Cx}{pins:List (Addr×Obj)}{σ:St}{H:Hp}{s:Shared}{c P:Addr}{pos:Pos}{qual:Str}{params:Arguments}{body:Expr}{scope:Scope}{cl:List (Str×Addr)}{Q:Value->Shared->Prop}{E:Value->Shared->Prop}
end
structure LamAt(base:Heap)(f c':Addr)(qual:Str)(params:Arguments)(body:Expr)(scope:Scope)(cl:List (Str×Addr))(ys:List Str)(cvs:List V)(H:Hp):Prop where
 fn:∃pm ctv,base.get? f=some (W.kla_obj "<lambda>" qual params body scope cl pm c' ctv)
 caps:Caps base cl ys cvs
 kn:VN H c' qual
section
variable {X:Cx}{k:Nat}{fh c P:Addr}{fdh:FuncData}{ps ys:List Str}{sp:Heap->Sp}{x:Str}{p pos lpos:Pos}{e:Expr}{te:TE}{qual:Str}{params:Arguments}{body:Expr}{scope:Scope}{cl:List (Str×Addr)}
end
end L2
namespace Dl
open PySem L2 PyProof.Rows
section
variable [Gr] {X:Cx}{k j:Nat}{x:Str}{ps:List Str}{e:Expr}{es:List Expr}{t:DA}{p pos:Pos}{C:Pn->Prop}{T:Pn}{i:Nat}{f:List D->(D->Prop)->Prop}
end
section
variable {X:Cx}{k j:Nat}{x:Str}{ps:List Str}{e:Expr}{es:List Expr}{t:DA}{p pos:Pos}{Z:Hp->Prop}{i:Nat}{f:Addr}{fd:FuncData}{g:List D->(D->Prop)->Prop}
end
end Dl
namespace Wr
open PySem L2 PyProof.Rows Dl
variable {X:Cx}{k j:Nat}{x:Str}{ps:List Str}{e:Expr}{es:List Expr}{t:DA}{p pos:Pos}{Z:Hp->Prop}{i:Nat}{f:Addr}{fd:FuncData}{g:List D->(D->Prop)->Prop}
end Wr
namespace Dl
open PySem L2 PyProof.Rows
section
variable {X:Cx}{k j:Nat}{x:Str}{ps:List Str}{e:Expr}{es:List Expr}{t:DA}{p pos:Pos}{T:Pn}{f:List D->(D->Prop)->Prop}
end
end Dl
namespace Wr
open PySem L2 PyProof.Rows Dl
variable {X:Cx}{k j:Nat}{x:Str}{ps:List Str}{e:Expr}{es:List Expr}{t:DA}{p pos:Pos}{T:Pn}{f:List D->(D->Prop)->Prop}
end Wr
namespace L2
open PySem PySem.Spec PyProof.Rows
section
variable {X:Cx}{k i:Nat}{f CF:Addr}{fd:FuncData}{sp:Sp}{E:XK}{x hx n:Str}{p np cpos epos hpos pos:Pos}{b₀:Stmt}{suite:List Stmt}{ts:TS}{j:Nat}
end
section
variable {X:Cx}{k:Nat}{fh c P:Addr}{fdh:FuncData}{ps ys:List Str}{sp:Heap->Sp}{x:Str}{p pos lpos:Pos}{qual:Str}{params:Arguments}{body:Expr}{scope:Scope}{cl:List (Str×Addr)}
end
end L2
namespace Dl
open PySem L2 PyProof.Rows
section
variable {X:Cx}
def Jo(K:Ý):V->List V->Hp->VK->Prop:=λx vs H Q=>∃(l:Addr) (ns:List Int) (k:Int),x=.ref l/\vs=[.int k]/\SqL K H l (ns.map V.int)/\(Ć (ns.map Â)).layable0=true/\k∈ns/\Q (.int ((ns.idxOf k:Nat):Int)) H
def J2:MtM X "list.index" (Jo X.K):=by
 intro pins s σ H x vs v us Q I rx rv h
 obtain⟨l,ns,k,rfl,rfl,hl,la,hk,q⟩:=h
 cases rx
 obtain⟨u,rfl,ru⟩:=rv.one
 obtain⟨t,rfl⟩:=ru
 obtain⟨its,rv,pl,hz⟩:=I.list hl
 exact index_list_ints pl.isList (intsAre_of rv) la hk ⟨.int _,H,I.tok _,⟨_,rfl⟩,q⟩
end
section
variable [Gr] {X:Cx}{e:Expr}{te ta:DE}
def Uc(te:DE)(ta:DE):DE:=λρ P=>te ρ λ_ d=>∃ns:List Int,d=.list (ns.map Â)/\ta ρ λ_ d2=>match d2 with
 |.int k=>(Ć (ns.map Â)).layable0=true/\k∈ns/\P .imm (.int ((ns.idxOf k:Nat):Int))
 |_=>False
theorem rC{o:Expr}{cpos:Pos}(h:PE X e (tBM X.K "list" (Jo X.K) (aV te) (lZ (bO ta gC)))):PD X e (Uc te ta):=PE.wk h (by
 rintro σ H Q ⟨p,H0,own,ρ,P,E,t,q⟩
 refine⟨p,H0,own,ρ,_,E,t,λk d v H1 h A r=>?_⟩
 obtain⟨ns,rfl,h⟩:=h
 obtain⟨l,vs,rfl,o1,hl,rs⟩:=Rp.aX r
 have e2:=Rps.ints rs
 subst e2
 refine⟨.inl ⟨rfl,_,SqL.of hl⟩,p,H0,own,ρ,_,E.go A.kp A.pen,vW h,?_⟩
 rintro ks us H2 ⟨k1,d1,rfl,q2⟩ A2 rk
 obtain⟨y,rfl,ry⟩:=cj rk
 have A3:=A.base A2
 cases d1 with
 |int i =>
  have ey:=Rp.int' ry
  subst ey
  have r2:=gM A A2.kp r
  obtain⟨l2,vs2,el,o2,hl2,rs2⟩:=Rp.aX r2
  cases el
  have e3:=Rps.ints rs2
  subst e3
  exact⟨l,ns,i,rfl,rfl,SqL.of hl2,q2.1,q2.2.1,q _ _ _ _ q2.2.2 A3 (.int _)⟩
 |_=>exact q2.elim)
end
end Dl
namespace Wr
open PySem L2 PyProof.Rows Dl
section
variable [Gr] {X:Cx}{te ta:DE}
def rC{o e:Expr}{es:List Expr}{apos cpos:Pos}(hv:WD X o te)(ha:WDA X (e::es) (bO ta gC))(hbase:attributeBase o "index" X.env (eval o X.env)=eval o X.env:=by rfl)(hfew:zW X cpos (e::es):=by rfl)(hline:(apos.endLine == cpos.line)=true:=by rfl)(hst:zS X e es:=by rfl)(hplain:zP X cpos es:=by rfl)
 :WD X (.Call (.Attribute o "index" apos) (e::es) [] cpos) (Uc te ta):=⟨Dl.rC (o:=o) (cpos:=cpos) (yw ŏ PySem.F.slot_list_index PySem.F.type_list_index J2 hv.h ha.h hbase hfew hline hst hplain)⟩
end
end Wr
namespace Dl
open PySem L2 PyProof.Rows
variable [Gr]
variable {X:Cx}{st:Stmt}{te tj:DE}
end Dl
namespace Wr
open PySem L2 PyProof.Rows Dl
variable [Gr] {X:Cx}
end Wr
namespace Dl
open PySem L2 PyProof.Rows
variable [Gr]
section
variable {X:Cx}{st:Stmt}{te tj:DE}
def Ti(i:Nat):DS:=λP ρ=>match ρ[i]? with
 |some (.dw r (.list ds))=>P.nx ((forget r ρ).set i (.dw r (.list ds.reverse)))
 |_=>False
def CJ{i:Nat}(h:PS X st (uo (Uh X.K "list" yq (j9 i)))):PDS X st (Ti i):=PS.wk' h (by
 rintro Q σ H ⟨p,H0,own,ρ,P,E,t,w⟩
 unfold Ti at t
 split at t
 ·rename_i r ds hr
  obtain⟨v,hv,x⟩:=E.slot i _ hr
  obtain⟨l,vs,rfl,hl,ho,rs⟩:=x.aX
  refine⟨.ref l,hv,.inl ⟨rfl,vs,SqL.of ho⟩,l,vs,rfl,rfl,ho,?_⟩
  obtain⟨E2,F2⟩:=E.qR (vs':=vs.reverse) (ds':=ds.reverse) E.at hv hl ho rs λH2 f g=>(jq f rs λd hd=>eZ hd).rev
  exact w.nx _ σ _ _ E2 F2 t
 ·exact t.elim)
def QC(i:Nat)(te tj:DE):DS:=λP ρ=>te ρ λk d=>∃(r:Nat) (ds:List D),ρ[i]?=some (.dw r (.list ds))/\(norm k d).le .new=true/\tj ρ λ_ dj=>match dj with
 |.int j=>∃m,ixN ds.length j=some m/\P.nx ((forget r ρ).set i (.dw r (.list (ds.set m d))))
 |_=>False
theorem qm{i:Nat}(h:PS X st (qD (aV te) (Vh (j9 i) (aV tj) P0))):PDS X st (QC i te tj):=PS.wk' h (by
 rintro Q σ H ⟨p,H0,own,ρ,P,E,t,w⟩
 refine⟨p,H0,own,ρ,_,E,t,λk d v H1 ⟨r,ds,hr,im,h⟩ A rv=>?_⟩
 obtain⟨u,hv,x⟩:=E.slot i _ hr
 obtain⟨l,vs,rfl,hl,ho,rs⟩:=x.aX
 have E1:=E.go A.kp A.pen
 refine⟨.ref l,hv,p,H0,own,ρ,_,E1,h,λk2 dj vj H2 h2 A2 r2=>?_⟩
 cases dj with
 |int j =>
  obtain⟨m,hm,hn⟩:=h2
  have ej:=Rp.int' r2
  have A12:=A.base A2
  have h1:H2 l=some (.lst vs):=A12.kp l _ ho (E.ow l r hl).2.1
  have rv2:=gM A A2.kp (gK A im (bx rv))
  refine⟨l,vs,j,m,rfl,ej,h1,by rw[rs.length];exact hm,?_⟩
  obtain⟨E2,F2⟩:=E.qR (vs':=vs.set m v) (ds':=ds.set m d) A12 hv hl ho rs λH3 f g=>Rps.set (g rv2) m (jq f rs λd hd=>eZ hd)
  exact w.nx _ σ _ _ E2 F2 hn
 |_=>exact h2.elim)
def Li(i:Nat)(tj:DE):DS:=λP ρ=>match ρ[i]? with
 |some (.dw r (.list ds))=>tj ρ λ_ dj=>match dj with
  |.int j=>-(2 ^ 63)<=j/\j<2 ^ 63/\∃m,seqIndex? j ds.length=some m/\m<ds.length/\P.nx ((forget r ρ).set i (.dw r (.list (ds.eraseIdx m))))
  |_=>False
 |_=>False
def wK{i:Nat}(h:PS X st (uo (tBM X.K "list" Jm (j9 i) (lZ (bO tj gC))))):PDS X st (Li i tj):=PS.wk' h (by
 rintro Q σ H ⟨p,H0,own,ρ,P,E,t,w⟩
 unfold Li at t
 split at t
 ·rename_i r ds hr
  obtain⟨v,hv,x⟩:=E.slot i _ hr
  obtain⟨l,vs,rfl,hl,ho,rs⟩:=x.aX
  refine⟨.ref l,hv,.inl ⟨rfl,vs,SqL.of ho⟩,p,H0,own,ρ,_,E,vW t,?_⟩
  rintro ks ws H1 ⟨k,dj,rfl,hh⟩ A rk
  obtain⟨y,rfl,ry⟩:=cj rk
  cases dj with
  |int j =>
   obtain⟨j0,j1,m,hm,ml,hn⟩:=hh
   have ej:=Rp.int' ry
   have h1:H1 l=some (.lst vs):=A.kp l _ ho (E.ow l r hl).2.1
   have hln:=rs.length
   refine⟨l,vs,j,m,vs[m]'(by omega),rfl,by rw[ej],h1,j0,j1,by rw[hln];exact hm,É _,?_⟩
   obtain⟨E2,F2⟩:=E.qR (vs':=vs.eraseIdx m) (ds':=ds.eraseIdx m) A hv hl ho rs λH2 f g=>(jq f rs λd hd=>eZ hd).erase m
   exact w.nx _ σ _ _ E2 F2 hn
  |_=>exact hh.elim
 ·exact t.elim)
end
section
variable {X:Cx}{pos:Pos}{a:Expr}{t:DA}
def Hu(hg:X.A.guards=some [])(hu:X.A.units+64<cLine):aP X (.type "str") Uo:=by
 intro pins s σ H xs us Q I r h
 obtain⟨ok,a,d,rfl,rd,⟨o1,o2,o3,o4⟩,q⟩:=h
 simp only[okD,Õ,decide_eq_true_eq] at o1
 cases r with
 |cons r1 r2 =>
  cases r2
  obtain⟨as,ra⟩:=rd.reads I r1 o1.1
  cases r1
  refine str_of_reads (h₀:=s.heap) ra o2 (λz=>by rw[o3] at z;cases z) hg (by omega) (λ_ _ e=>e) (λh' u tk k=>?_) o4
  exact⟨.str d.shown,H,I.kept k,⟨_,rfl⟩,q⟩
def vJ{ps:Pos}(hgd:X.A.guards=some [])(hu:X.A.units+64<cLine)(hm:X.mg "str"=none)(ha:PDA X [a] t)(hg:Gl X "str":=by rfl)(he:zS X a []:=by rfl)(hpl:zP X pos []:=by rfl):PD X (.Call (.Name "str" ps) [a] [] pos) (tCl KH t) :=
 iI (Hu hgd hu) (by
  intro p H0 own Hb H vs ks P Q A r t q
  unfold KH at t
  split at t
  ·obtain⟨v,rfl,r'⟩:=cj r
   obtain⟨c,ws,rfl,o,hc,rs⟩:=r'.aX
   exact⟨_,c,_,rfl,.lst (ok:=okK p H0 own Hb _) o hc rs,t.1,q _ _ _ _ t.2 Kp.refl A.pen (.str _)⟩
  ·obtain⟨v,rfl,r'⟩:=cj r
   obtain⟨c,ws,rfl,hc,rs⟩:=r'.dG
   exact⟨_,c,_,rfl,.tup (ok:=okK p H0 own Hb _) hc rs,t.1,q _ _ _ _ t.2 Kp.refl A.pen (.str _)⟩
  ·exact t.elim) hg hm boot_str ha (by decide) (by decide) he hpl
end
def IW{C:Pn->Prop}{f:List D->(D->Prop)->Prop}{vs:List V}{H:Hp}{Q:VK}{E:XK}(h:pC (CE C) f vs H Q E):pC C f vs H Q E:=by
 obtain⟨q,ok,vs',ds,P,⟨p,c,x⟩,rfl,pi,r,t,k⟩:=h
 exact⟨p,λa=>ok a/\¬q.fp a,vs',ds,P,c,by rw[x.pv],x.pi _ pi,r.mono (λa n=>⟨n,λz=>n.2 (x.fp a z)⟩) (λ_ _ _ e=>e) (λ_ _ e=>e),t,λd v H' hP kp pi' rp=>k d v H' hP (λb o e n=>kp b o e λz=>n (x.fp b z)) (x.go H H' pi kp pi') (rp.mono (λa o=>o.imp (λz=>z.1) id) (λ_ _ _ e=>e) λ_ _ e=>e)⟩
def Cal.Vu{P:Program}{w:World}{K:Ý}{mg:Str->Option Value}{base:Heap}{k:Nat}{x:Str}{ps:List Str}{C:Pn->Prop}{f:List D->(D->Prop)->Prop}(h:Cal P w K mg base k x ps (pC C f)):Cal P w K mg base k x ps (pC (CE C) f):=by
 obtain⟨g,fd,F,r⟩:=h.ex
 exact⟨g,fd,F.imp λ_ _ _ _=>IW,r⟩
end Dl
namespace Wr
open PySem L2 PyProof.Rows Dl
variable [Gr] {X:Cx}
def qm{i:Nat}{x:Str}{te tj:DE}{ej e:Expr}{np p1 pos:Pos}(hv:WV X (.Name x np) i)(hj:WD X ej tj)(he:WD X e te)(ha:∀v,assign (.Subscript (.Name x np) ej p1) X.env v=(do
   let ov ←holding [v] (eval (.Name x np) X.env)
   let iv ←holding [v,ov] (eval ej X.env)
   standAt p1
   holding [v,ov,iv] (setItem ov iv v)
   release [v,ov,iv] []):=by intro _;rfl)(hs:swapsWithSole [.Subscript (.Name x np) ej p1] e pos.line X.env=pure false:=by rfl)(hw:swappedStores [.Subscript (.Name x np) ej p1] e X.env=pure none:=by rfl)(h1:(assignEach [.Subscript (.Name x np) ej p1] X.env).map (·.2)=[assign (.Subscript (.Name x np) ej p1) X.env]:=by rfl) :
  WDS X (.Assign [.Subscript (.Name x np) ej p1] e pos) (QC i te tj):=⟨Dl.qm (qX he.h (vp hv.h hj.h set_list ha) hs hw h1)⟩
def wK{i:Nat}{x:Str}{e:Expr}{es:List Expr}{apos cpos np pos:Pos}(hv:WV X (.Name x np) i)(ha:WDA X (e::es) (bO tj gC))(hbase:attributeBase (.Name x np) "pop" X.env (eval (.Name x np) X.env)=eval (.Name x np) X.env:=by rfl)(hfew:zW X cpos (e::es):=by rfl)(hline:(apos.endLine == cpos.line)=true:=by rfl)(hst:zS X e es:=by rfl)(hplain:zP X cpos es:=by rfl)(hs:swapsWith (.Call (.Attribute (.Name x np) "pop" apos) (e::es) [] cpos) none pos.line X.env=pure false:=by rfl) :
  WDS X (.Expr (.Call (.Attribute (.Name x np) "pop" apos) (e::es) [] cpos) pos) (Li i tj):=⟨Dl.wK (ju (yw ŏ PySem.F.slot_list_pop PySem.F.type_list_pop J1 hv.h ha.h hbase hfew hline hst hplain) hs)⟩
def CJ{i:Nat}{x:Str}{np apos cpos pos:Pos}(hv:WV X (.Name x np) i)(hbase:attributeBase (.Name x np) "reverse" X.env (eval (.Name x np) X.env)=eval (.Name x np) X.env:=by rfl)(hline:(apos.endLine == cpos.line)=true:=by rfl)(hs:swapsWith (.Call (.Attribute (.Name x np) "reverse" apos) [] [] cpos) none pos.line X.env=pure false:=by rfl) :
  WDS X (.Expr (.Call (.Attribute (.Name x np) "reverse" apos) [] [] cpos) pos) (Ti i):=⟨Dl.CJ (ju (RK ŏ PySem.F.slot_list_reverse PySem.F.type_list_reverse BW hv.h hbase hline) hs)⟩
def vJ{pos:Pos}{a:Expr}{t:DA}{ps:Pos}(hgd:X.A.guards=some [])(hu:X.A.units+64<cLine)(hm:X.mg "str"=none)(ha:WDA X [a] t)(hg:Gl X "str":=by rfl)(he:zS X a []:=by rfl)(hpl:zP X pos []:=by rfl):WD X (.Call (.Name "str" ps) [a] [] pos) (tCl KH t):=⟨Dl.vJ hgd hu hm ha.h hg he hpl⟩
end Wr
open Wr renaming dD → À,jx → Á,dv → Ã,iH → Å,wM → È,JK → Ì,oh → Ù,n8 → ß,p8 → â,wO → ã,wJ → å,CK → æ,lF → ë,sW → î,Lb → ā,dc → Ă,wv → č,vG → Ď,vD → Đ,sY → đ,Bq → Ĝ,dcP → ĝ,vM → Ġ,vL → Ĥ,vI → Ĩ,Eu → Ĳ,CW → Ĺ,vH → Ľ,Bl → Ŀ,rE → ŀ,fH → Ń,oA → ń,oF → Ņ,CT → ņ,Br → ş,vO → ŧ,vB → ū,vC → Ŭ,wN → ŭ,wpt → ű,rA → Ų,qZ → ŵ,nA → Ŷ,ql → ŷ,JH → Ž
open Dl renaming Cal → í,N8 → ė,any_ints → Ğ,Bn → ī,Pb → ķ,Ey → š
open Wr.WDSs renaming h → ó
open L2 renaming JC → Ŏ
open Dl.Cal renaming ext → Ŕ
namespace Nf
open PySem PySem.W PyProof.Rows
def pP(tb:String->Option Builtin)(p:Program)(w:World)(m:Nat)(ann:Option Value):Nat->SharedT->Thread->Option SharedT
 |0,_,_=>none
 |n+1,s,t=>match through t with
  |true=>some s
  |false=>match stepOk m ann t with
   |false=>none
   |true=>match stepT (denote tb) p w s t with
    |none=>none
    |some r=>pP tb p w m ann n r.1 r.2
theorem uh{tb:String->Option Builtin}{p:Program}{w:World}{m:Nat}{ann:Option Value}:∀{n:Nat}{s s':SharedT}{t:Thread},pP tb p w m ann n s t=some s'->topRun tb p w m ann n s.abs t=some s'.abs
 |0,_,_,_,h=>by cases h
 |n+1,s,s',t,h=>by
  unfold pP at h
  unfold topRun
  cases he:through t with
  |true=>rw[he] at h;cases h;rfl
  |false =>
   rw[he] at h
   cases hk:stepOk m ann t with
   |false=>rw[hk] at h;cases h
   |true =>
    rw[hk] at h
    cases hs:stepT (denote tb) p w s t with
    |none=>rw[hs] at h;cases h
    |some r=>obtain⟨s2,t2⟩:=r;rw[hs] at h;rw[stepT_spec hs];exact uh h
def sV(P:Params):List DictEntry:=match (boot_o_0 P).data with|.dict es _=>es.toList|_=>[]
def fM(P:Params)(i:Nat):List DictEntry:=((sV P).drop i).take 16
def b0(P:Params):List DictEntry:=by
 refine(?f:(l:List DictEntry)->l=fM P 0->List DictEntry) ?l ?h
 case f=>exact λl _=>l
 case h=>unfold fM sV boot_o_0;dsimp only[List.drop,List.take];exact rfl
def b1(P:Params):List DictEntry:=by
 refine(?f:(l:List DictEntry)->l=fM P 16->List DictEntry) ?l ?h
 case f=>exact λl _=>l
 case h=>unfold fM sV boot_o_0;dsimp only[List.drop,List.take];exact rfl
def b2(P:Params):List DictEntry:=by
 refine(?f:(l:List DictEntry)->l=fM P 32->List DictEntry) ?l ?h
 case f=>exact λl _=>l
 case h=>unfold fM sV boot_o_0;dsimp only[List.drop,List.take];exact rfl
def b3(P:Params):List DictEntry:=by
 refine(?f:(l:List DictEntry)->l=fM P 48->List DictEntry) ?l ?h
 case f=>exact λl _=>l
 case h=>unfold fM sV boot_o_0;dsimp only[List.drop,List.take];exact rfl
def b4(P:Params):List DictEntry:=by
 refine(?f:(l:List DictEntry)->l=fM P 64->List DictEntry) ?l ?h
 case f=>exact λl _=>l
 case h=>unfold fM sV boot_o_0;dsimp only[List.drop,List.take];exact rfl
def b5(P:Params):List DictEntry:=by
 refine(?f:(l:List DictEntry)->l=fM P 80->List DictEntry) ?l ?h
 case f=>exact λl _=>l
 case h=>unfold fM sV boot_o_0;dsimp only[List.drop,List.take];exact rfl
def b6(P:Params):List DictEntry:=by
 refine(?f:(l:List DictEntry)->l=fM P 96->List DictEntry) ?l ?h
 case f=>exact λl _=>l
 case h=>unfold fM sV boot_o_0;dsimp only[List.drop,List.take];exact rfl
def b7(P:Params):List DictEntry:=by
 refine(?f:(l:List DictEntry)->l=fM P 112->List DictEntry) ?l ?h
 case f=>exact λl _=>l
 case h=>unfold fM sV boot_o_0;dsimp only[List.drop,List.take];exact rfl
def b8(P:Params):List DictEntry:=by
 refine(?f:(l:List DictEntry)->l=fM P 128->List DictEntry) ?l ?h
 case f=>exact λl _=>l
 case h=>unfold fM sV boot_o_0;dsimp only[List.drop,List.take];exact rfl
def b9(P:Params):List DictEntry:=by
 refine(?f:(l:List DictEntry)->l=fM P 144->List DictEntry) ?l ?h
 case f=>exact λl _=>l
 case h=>unfold fM sV boot_o_0;dsimp only[List.drop,List.take];exact rfl
def bo0(P:Params):Obj:={ cls:=.type "dict",data:=.dict ⟨b0 P++(b1 P++(b2 P++(b3 P++(b4 P++(b5 P++(b6 P++(b7 P++(b8 P++(b9 P)))))))))⟩ 159 }
def Tt:boot_o_0=bo0:=by funext P;kernel_rfl
def Lq(P:Params):Heap:={ objs:=⟨[bo0 P,boot_o_1 P,boot_o_2 P,boot_o_3 P,boot_o_4 P,boot_o_5 P,boot_o_6 P,boot_o_7 P,boot_o_8 P,boot_o_9 P,boot_o_10 P]⟩ }
def Ac:Ů=Lq:=by
 funext P
 show Heap.mk ⟨boot_o_0 P::_⟩ _=_
 rw[Tt]
 rfl
def Ab(P:Params):BT:=((((((((((BT.nil.ins 0 (bo0 P)).ins 1 (boot_o_1 P)).ins 2 (boot_o_2 P)).ins 3 (boot_o_3 P)).ins 4 (boot_o_4 P)).ins 5 (boot_o_5 P)).ins 6 (boot_o_6 P)).ins 7 (boot_o_7 P)).ins 8 (boot_o_8 P)).ins 9 (boot_o_9 P)).ins 10 (boot_o_10 P)
def Qm:Life:={}
def HJ(P:Params):absHeap (Ab P) 11 Qm=Ů P:=by rw[Ac];kernel_rfl
def Av(w:World)(os:OsState):SharedT:=⟨Ab w.params,11,Qm,#[],boot_drawn,boot_toks,os⟩
def Gp(w:World)(os:OsState):(Av w os).abs=⟨Ů w.params,#[],boot_drawn,boot_toks,os⟩:=by
 unfold Av SharedT.abs
 dsimp only
 rw[HJ]
def Ec(P:Params):=((Ů P).isNs mainGlobals,(Ů P).objs.size,(Ů P).nsMap mainGlobals "__annotations__")
def Ba:Ec=Ec:=rfl
end Nf
name_quick sizeQ for Nf.Ec by Nf.Ba
namespace Nf
open PySem PySem.W PyProof.Rows
def HN(w:World):((Ů w.params).isNs mainGlobals,(Ů w.params).objs.size,(Ů w.params).nsMap mainGlobals "__annotations__")=(true,11,some (.ref 6)):=by
 show Ec w.params=_
 rw[W.Fast.sizeQ_eq]
 kernel_rfl
def Gw(p:Program)(N:Nat)(w:World)(os:OsState):=pP treeTable p w 11 (some (.ref 6)) N (Av w os) (topStub p)
def Jb(p q:Program)(Xt:Shared->Bool)(w:World)(s:Shared) :=
 (staticsOk (importedModules p.main.body) (Lq w.params) s.heap&&namesBound p s.heap&&gensDone s&&laidKept (Lq w.params) s.heap,openSeen q [] (importedModules p.main.body) Xt true s)
def Oa{p q:Program}{Xt:Shared->Bool}{β:Type}{Yf:Shared->List β}{Ya:World->List β}{N:Nat}(k:Nat)(open_:∀w:World,(fencedOpening treeTable p w N).map (λs=>(s.heap,s.gens,s.drawn,s.toks))=some (Ů w.params,Array.mk [],boot_drawn,boot_toks))(look:∀(w:World) (os:OsState),(Gw p N w os).map (λs=>Jb p q Xt w s.abs)=some (true,openGood q []))(front:∀(w:World) (os:OsState),(Gw p N w os).map (λs=>(Yf s.abs).take k)=some ((Ya w).take k))(back:∀(w:World) (os:OsState),(Gw p N w os).map (λs=>(Yf s.abs).drop k)=some ((Ya w).drop k)):LeftO p q [] Xt Yf Ya N:=λw=>by
 obtain⟨⟨h,gs,d,j,os⟩,e,e'⟩:=Option.map_eq_some_iff.mp (open_ w)
 obtain⟨rfl,rfl,rfl,rfl⟩:h=Ů w.params/\gs=#[]/\d=boot_drawn/\j=boot_toks:=by simpa using e'
 obtain⟨z1,z2,z3⟩:_/\_/\_:=by simpa only[Prod.mk.injEq] using HN w
 obtain⟨s,hs,l⟩:=Option.map_eq_some_iff.mp (look w os)
 have l4:(Yf s.abs).take k=(Ya w).take k:=by
  have:=front w os
  rw[hs] at this
  exact Ø this
 have l5:(Yf s.abs).drop k=(Ya w).drop k:=by
  have:=back w os
  rw[hs] at this
  exact Ø this
 have l3:Yf s.abs=Ya w:=by rw[←ž k (Yf s.abs),l4,l5,ž]
 unfold Jb at l
 rw[←Ac] at l
 obtain⟨l1,l2⟩:=Prod.mk.inj l
 have r:=uh hs
 rw[Gp] at r
 have t:topFrom treeTable p w N ⟨Ů w.params,#[],boot_drawn,boot_toks,os⟩=some s.abs:=by
  unfold topFrom
  dsimp only
  rw[z1,z2,z3,r]
  show(match staticsOk (importedModules p.main.body) (Ů w.params) s.abs.heap&&namesBound p s.abs.heap&&gensDone s.abs&&laidKept (Ů w.params) s.abs.heap with|true=>_|false=>_)=_
  rw[l1]
 unfold openEnds
 rw[e]
 show(topFrom treeTable p w N _).map _=_
 rw[t]
 exact congrArg some (Prod.ext l2 l3)
end Nf
namespace Nf
open PySem L2 PyProof.Rows Dl
def top(i:Nat):Stmt:=PySem.Challenge.pw_nofall_k13_what_shows_by_ties.main.body.getD i (.Pass ⟨0,0,0,0⟩)
def aY(d:D):aF d=.im d\/aF d=.sh d:=by
 unfold aF
 by_cases h:cL d=true
 ·rw[if_pos h];exact .inl rfl
 ·rw[if_neg h];exact .inr rfl
def PSs.wk{X:Cx}{ss:List Stmt}{t t':TS}(h:PSs X ss t)(w:∀D σ H,t' D σ H->t D σ H):PSs X ss t':=λpins s σ H D I q=>h pins s σ H D I (w D σ H q)
def Rw(p sc:Addr)(ns:List Int)(b:Bool):Pn where
 fp:=λa=>a=p\/(b=true/\a=sc)
 PI:=λH=>(∃x y:Int,H p=some (.lst [.ref sc,.int x,.int y]))/\(b=true->Rd H sc (.lst (ns.map V.int)))
 pv:=.ref p
 mono:=λH H' ⟨⟨x,y,h⟩,r⟩ k=>⟨⟨x,y,k _ _ (.inl (.inl rfl)) h⟩,λe=>(r e).elim (λz=>.inl (k _ _ (.inl (.inr ⟨e,rfl⟩)) z)) λ⟨o,z⟩=>.inr ⟨o,k _ _ (.inl (.inr ⟨e,rfl⟩)) z⟩⟩
 is:=λH a ⟨⟨x,y,h⟩,r⟩ hb=>by
  rcases hb with rfl|⟨e,rfl⟩
  ·exact⟨_,h,(λxs z=>(nomatch z)),λ⟨_,_,z⟩=>(nomatch z)⟩
  ·rcases r e with z|⟨o,z⟩
   ·exact⟨_,z,(λxs z=>(nomatch z)),λ⟨_,_,z⟩=>(nomatch z)⟩
   ·exact⟨_,z,(λxs z=>(nomatch z)),λ⟨_,_,z⟩=>(nomatch z)⟩
def CP(K:Ý)(q:Pn):Prop:=∃p sc ns b,(b=true->p≠sc)/\(b=false->∀H,SqL K H sc (ns.map V.int))/\q=Rw p sc ns b
def JB{K:Ý}{H:Hp}{sc:Addr}{ns:List Int}{b:Bool}(r:b=true->Rd H sc (.lst (ns.map V.int)))(hb:b=false->∀H,SqL K H sc (ns.map V.int)):SqL K H sc (ns.map V.int):=by
 cases b with
 |true=>exact .inl (r rfl)
 |false=>exact hb rfl H
def Jl{H:Hp}{sc p:Addr}{u o:HO}(h:Rd H sc u)(n:p≠sc):Rd (upd H p o) sc u:=by
 rcases h with z|⟨o',z⟩
 ·exact .inl (by rw[aj (ġ n)];exact z)
 ·exact .inr ⟨o',by rw[aj (ġ n)];exact z⟩
def gO(ds:List D)(P:D->Prop):Prop:=∃m:Int,ds=[.int m]/\0<m/\m<1073741824/\∀r:Int,0<=r->r<m->P (.int r)
def gj{C:Pn->Prop}{f:List D->(D->Prop)->Prop}{n:Nat}(hn:∀ds P,f ds P->ds.length=n:=by intro _ _ h;repeat (first|(obtain⟨rfl,_⟩:=h;rfl)|obtain⟨_,h⟩:=h)):∀vs H Q E,spP C f vs H Q E->vs.length=n+1:=λvs H Q E h=>by
 obtain⟨p,vs',ds,P,_,rfl,_,r,t,_⟩:=h
 rw[ï,r.length,hn ds P t]
def J3{x m:Int}(hm:0<m)(hb:m<=2 ^ 32):-(2 ^ 64)<x % m/\x % m<2 ^ 64:=by
 have h1:=ż x (b:=m) (by omega)
 have h2:=Š x hm
 omega
def O2{i:Int}{ns:List Int}(h:(0:Int)<((ns.map V.int).length:Nat)):∃v:Int,atI (ns.map V.int) (i % (((ns.map V.int).length:Nat):Int))=some (.int v):=by
 rw[Ä] at h ⊢
 have h1:=ż i (b:=(ns.length:Int)) (by omega)
 have h2:=Š i h
 have hk:(i % (ns.length:Int)).toNat<ns.length:=by omega
 have ek:i % (ns.length:Int)=(((i % (ns.length:Int)).toNat:Nat):Int):=by omega
 have q:atI (ns.map V.int) (((i % (ns.length:Int)).toNat:Nat):Int)=some (.int ns[(i % (ns.length:Int)).toNat]):=bK (by rw[Û,É hk];rfl)
 rw[←ek] at q
 exact⟨_,q⟩
def tTk:TS:=λD σ H=>∃(a0 a2 a5:Option V) (m a cell:Int),σ=[a0,some (.int m),a2,some (.int a),some (.int cell),a5]/\0<m/\m<1073741824/\∀r:Int,0<=r->r<m->D.rt (.int r) H
def tCe(K:Ý)(p sc:Addr)(ns:List Int):TS:=λD σ H=>∃(a2 a5:Option V) (m a cell x y:Int),σ=[some (.ref p),some (.int m),a2,some (.int a),some (.int cell),a5]/\0<m/\m<1073741824/\H p=some (.lst [.ref sc,.int x,.int y])/\SqL K H sc (ns.map V.int) /\
 (∀r:Int,0<=r->r<m->D.rt (.int r) H)/\∀r z:Int,0<=r->r<m->D.rt (.int r) (upd H p (.lst [.ref sc,.int x,.int z]))
def Tf{K:Ý}{T:DS}{N:List Str}{H:Hp}{Q:VK}{sc:Addr}{ns:List Int}(hS:SqL K H sc (ns.map V.int))(q:∀H',Q (.bl true) H')(hN:2<=N.length)(body:T { nx:=λ_=>False,rt:=λd=>d=.bool true } (.any::.pen (CP K)::Ú (N.length - 2) .any)) :
  T4 (qD (QX (xU (j9 0) (xU (tC (.int 0)) (xU (tC (.int 0)) QV)))) (iY 1)) (lY T) { nx:=λ_ H'=>Q .non H',rt:=Q } (L2.start N [.ref sc]) H:=by
 refine⟨_,rfl,by show 3<=sizeLine;decide,λp hp=>?_⟩
 show lY T _ ((L2.start N [.ref sc]).set 1 (some (.ref p))) _
 have main:∀b,(b=true->p≠sc)->(b=false->∀H,SqL K H sc (ns.map V.int))->(b=true->Rd (upd H p (.lst [.ref sc,.int 0,.int 0])) sc (.lst (ns.map V.int)))->lY T { nx:=λ_ H'=>Q .non H',rt:=Q } ((L2.start N [.ref sc]).set 1 (some (.ref p))) (upd H p (.lst [.ref sc,.int 0,.int 0])):=by
  intro b h1 h2 h3
  refine⟨Rw p sc ns b,upd H p (.lst [.ref sc,.int 0,.int 0]),λ_=>none,_,_,?_,body,⟨λ_ _ _ _ _ _ n=>n.elim,λd v H' n w=>?_,λ_ _ _ _ _ _ n=>n.elim,λ_ _ _ _ _ _ n=>n.elim⟩⟩
  ·have hl:(L2.start N [.ref sc]).length=N.length:=by unfold L2.start;simp;omega
   refine⟨λb o e _=>e,⟨⟨0,0,aq⟩,h3⟩,λa r e=>(nomatch e),λj s e=>?_,by rw[Ż,hl,ï,ï,List.length_replicate];omega,trivial⟩
   rcases j with _|_|j
   ·cases e;trivial
   ·cases e
    exact⟨Ē (by rw[hl];omega),p,sc,ns,b,h1,h2,rfl⟩
   ·rw[List.getElem?_cons_succ,List.getElem?_cons_succ] at e
    have e2:=(List.mem_replicate.mp (Ð e)).2
    subst e2
    trivial
  ·have n:d=.bool true:=n
   subst n
   have r:=w.rp
   cases r
   exact q H'
 rcases hS with h|h
 ·have hn:p≠sc:=by
   rintro rfl
   rcases h with z|⟨o,z⟩ <;> rw[hp] at z <;> cases z
  exact main true (λ_=>hn) (λz=>nomatch z) λ_=>Jl h hn
 ·exact main false (λz=>nomatch z) (λ_ H=>.inr h) λz=>nomatch z
section
variable {P:Program}{w:World}{K:Ý}{mg:Str->Option Value}{base:Heap}{f:Addr}{fd:FuncData}
def Ef:FnScope ["_law_pen","_law_many","_law_digit","_law_at","_law_cell","_law_number"] ["_law_pen","_law_many"] (ak (top 41)):=zC
def Nx(F:Fun K "_law_take" "_law_take" (top 41) f fd)(B:ī mg):FnOk P w K mg base CX0 1 f fd ["_law_pen","_law_many"] (spP (CP K) gO):=by
 refine F.ok Ef gj (λcdv A outer s H vs Q E hr h=>?_)
 obtain⟨_,vs',ds,P,⟨p,sc,ns,b,hps,hbK,rfl⟩,rfl,⟨⟨x,y,hp⟩,hsc⟩,rp,⟨m,rfl,m0,m30,hP⟩,q⟩:=h
 obtain rfl:vs'=[.int m]:=by
  cases rp with
  |cons h1 t=>cases h1;cases t;rfl
 have nd:=Ef.nd
 have hS:=JB hsc hbK
 refine⟨_,aN (yt (lB Ew (iG cQ (pv 0) Ŏ (λ_ _=>rfl)) Ŏ (cP _))
   (aN (fQ (i:=2) nd rfl (Or.inl rfl) (bG fX (iG cQ (pv 0) Ŏ (λ_ _=>rfl)) (pv 1)))
   (aN (qX (bG qd (iG cQ (pv 0) Ŏ (λ_ _=>rfl)) (pv 1)) (vp (pv 0) Ŏ set_list))
   (jt (qW (pv 2))))) lC)
  (aN (fQ (i:=3) nd rfl (Or.inl rfl) (iG cQ (pv 0) Ŏ (λ_ _=>rfl)))
  (aN (qX (bG iJ (pv 3) Ŏ) (vp (pv 0) Ŏ set_list))
  (aN (fQ (i:=4) nd rfl (Or.inl rfl) Ŏ)
  (aN (yt (lB Ew (cO dU rfl B.len PySem.boot_len (bJ (iG cQ (pv 0) Ŏ (λ_ _=>rfl)) dZ)) Ŏ (cP _))
   (jt (fQ (i:=4) nd rfl (Or.inl rfl) (iG cQ (iG cQ (pv 0) Ŏ (λ_ _=>rfl)) (bG fX (pv 3) (cO dU rfl B.len PySem.boot_len (bJ (iG cQ (pv 0) Ŏ (λ_ _=>rfl)) dZ))) (λ_ _=>rfl)))) lC)
  (PSs.wk (t':=tCe K p sc ns) (aN (yt (PW.pt (Jq (lB yC (pv 3) (cO dU rfl B.len PySem.boot_len (bJ (iG cQ (pv 0) Ŏ (λ_ _=>rfl)) dZ)) (cP _)) (Ep (lB Qd (cO tL rfl B.abs Dl.boot_abs (bJ (pv 4) dZ)) (bG RT Ŏ Ŏ) (cP _)))))
   (aN (qX (bG qd (cO tL rfl B.abs Dl.boot_abs (bJ (pv 4) dZ)) (pv 1)) (vp (pv 0) Ŏ set_list))
   (jt (qW (bG fX (cO tL rfl B.abs Dl.boot_abs (bJ (pv 4) dZ)) (pv 1))))) lC)
  (PSs.wk (t':=tTk) (aN (fQ (i:=5) nd rfl (Or.inl rfl) (bG fX (bG jZ (bG iJ (bG iJ (bG fX (pv 4) Ŏ) (bG jZ Ŏ (pv 3))) Ŏ) Ŏ) Ŏ))
  (aN (fQ (i:=5) nd rfl (Or.inl rfl) (bG fX (bG iJ (bG iJ (bG jZ (pv 5) (pv 5)) (bG jZ Ŏ (pv 5))) (pv 3)) Ŏ))
  (aN (fQ (i:=5) nd rfl (Or.inl rfl) (bG fX (bG iJ (bG iJ (bG jZ (pv 5) (pv 5)) (bG jZ Ŏ (pv 5))) Ŏ) Ŏ))
  (jt (qW (bG fX (bG qd (pv 5) Ŏ) (pv 1))))))) ?tk)) ?ce))))),?_⟩
 case tk =>
  rintro D σ H' ⟨a0,a2,a5,m,a,cell,rfl,m0,m30,hq⟩
  have md:∀x:Int,0<=x % m/\x % m<m:=λx=>⟨ż _ (by omega),Š _ m0⟩
  refine⟨_,rfl,_,_,rfl,rfl,(by show(0:Int)<2147483629;decide),_,rfl,_,_,rfl,rfl,.inl ⟨by decide,by decide⟩,_,_,rfl,rfl,_,_,rfl,rfl,_,_,rfl,rfl,.inr ⟨by decide,by decide⟩,_,_,rfl,rfl,(by show(0:Int)<2147483647;decide),?_⟩
  refine⟨_,rfl,_,rfl,_,_,rfl,rfl,.inl (J3 (by decide) (by decide)),_,rfl,_,_,rfl,rfl,.inl ⟨by decide,by decide⟩,_,_,rfl,rfl,_,rfl,_,_,rfl,rfl,_,_,rfl,rfl,(by show(0:Int)<2147483587;decide),?_⟩
  refine⟨_,rfl,_,rfl,_,_,rfl,rfl,.inl (J3 (by decide) (by decide)),_,rfl,_,_,rfl,rfl,.inl ⟨by decide,by decide⟩,_,_,rfl,rfl,_,_,rfl,rfl,_,_,rfl,rfl,(by show(0:Int)<2147483563;decide),?_⟩
  exact⟨_,rfl,_,_,rfl,rfl,⟨by decide,by decide⟩,_,rfl,_,_,rfl,rfl,m0,hq _ (md _).1 (md _).2⟩
 case ce =>
  rintro D σ H' ⟨a2,a5,m,a,cell,x,y,rfl,m0,m30,hp,hS,hq,hq2⟩
  have md:∀x:Int,0<=x % m/\x % m<m:=λx=>⟨ż _ (by omega),Š _ m0⟩
  have el:tTk D [some (.ref p),some (.int m),a2,some (.int a),some (.int cell),a5] H':=⟨_,_,_,m,a,cell,rfl,m0,m30,hq⟩
  refine⟨_,rfl,_,rfl,p,_,_,_,rfl,rfl,SqL.of hp,rfl,sc,_,rfl,.inl hS,_,_,rfl,rfl,_,rfl,bB (λc1=>?_) (λc1=>aC el)⟩
  refine⟨_,rfl,cell,rfl,_,_,rfl,rfl,⟨by decide,by decide,by decide⟩,_,_,rfl,rfl,_,rfl,bB (λc2=>?_) (λc2=>el)⟩
  exact⟨_,rfl,cell,rfl,_,rfl,_,_,rfl,rfl,⟨m0,m30⟩,_,rfl,p,_,_,_,rfl,rfl,hp,rfl,_,rfl,cell,rfl,_,rfl,_,_,rfl,rfl,m0,hq2 _ _ (md _).1 (md _).2⟩
 have md:∀x:Int,0<=x % m/\x % m<m:=λx=>⟨ż _ (by omega),Š _ m0⟩
 have rdk:∀(H':Hp) (o:HO),(b=true->Rd H' sc (.lst (ns.map V.int)))->b=true->Rd (upd H' p o) sc (.lst (ns.map V.int)):=λH' o r e=>Jl (r e) (hps e)
 have fin:∀(H':Hp) (r:Int),0<=r->r<m->(∀a o,H a=some o->a≠p->H' a=some o)->(Rw p sc ns b).PI H'->Q (.int r) H':=λH' r h1 h2 k e =>
  q _ _ _ (hP r h1 h2) (λa o e n=>k a o e λz=>n (.inl z)) e (.int r)
 have kU:∀(H1:Hp) (o:HO),(∀a o,H a=some o->a≠p->H1 a=some o)->∀a u,H a=some u->a≠p->upd H1 p o a=some u:=λH1 o k a u e n=>by rw[aj n];exact k a u e n
 refine⟨_,rfl,p,_,_,_,rfl,rfl,SqL.of hp,rfl,_,_,rfl,rfl,_,rfl,bB (λc1=>?_) (λc1=>?_)⟩
 ·exact⟨_,rfl,p,_,_,_,rfl,rfl,SqL.of hp,rfl,_,rfl,_,_,rfl,rfl,m0,_,rfl,p,_,_,_,rfl,rfl,SqL.of hp,rfl,_,rfl,_,_,rfl,rfl,⟨m0,m30⟩,_,rfl,p,_,_,_,rfl,rfl,hp,rfl,_,rfl,fin _ _ (md _).1 (md _).2 (kU _ _ λb o e _=>e) ⟨⟨_,_,aq⟩,rdk _ _ hsc⟩⟩
 ·have hp1:upd H p (.lst [.ref sc,.int (x+1),.int y]) p=some (.lst [.ref sc,.int (x+1),.int y]):=aq
  have r1:=rdk H (.lst [.ref sc,.int (x+1),.int y]) hsc
  have k1:=kU H (.lst [.ref sc,.int (x+1),.int y]) λb o e _=>e
  have hS1:=JB r1 hbK
  have en:∀(a4:Int) (a2 a5:Option V),tCe K p sc ns { nx:=λ_ H'=>Q .non H',rt:=Q } [some (.ref p),some (.int m),a2,some (.int x),some (.int a4),a5] (upd H p (.lst [.ref sc,.int (x+1),.int y])):=λa4 a2 a5 =>
   ⟨a2,a5,m,x,a4,x+1,y,rfl,m0,m30,hp1,hS1,λr r0 r1'=>fin _ r r0 r1' k1 ⟨⟨_,_,hp1⟩,r1⟩,λr z r0 r1'=>fin _ r r0 r1' (kU _ _ k1) ⟨⟨_,_,aq⟩,rdk _ _ r1⟩⟩
  refine⟨_,rfl,p,_,_,_,rfl,rfl,SqL.of hp,rfl,?_⟩
  refine⟨_,rfl,_,_,rfl,rfl,_,rfl,p,_,_,_,rfl,rfl,hp,rfl,?_⟩
  refine⟨_,rfl,p,_,_,_,rfl,rfl,SqL.of hp1,rfl,sc,_,rfl,.inl hS1,_,_,rfl,rfl,_,rfl,bB (λc2=>?_) (λc2=>en _ _ _)⟩
  have c2:=of_decide_eq_true c2
  obtain⟨v,hv⟩:=O2 (i:=x) c2
  exact⟨_,rfl,p,_,_,_,rfl,rfl,SqL.of hp1,rfl,_,rfl,_,rfl,p,_,_,_,rfl,rfl,SqL.of hp1,rfl,sc,_,rfl,.inl hS1,_,_,rfl,rfl,c2,sc,_,_,_,rfl,rfl,hS1,hv,en _ _ _⟩
end
end Nf
set_option maxHeartbeats 4000000
namespace Nf
open PySem L2 PyProof.Rows Dl
structure IsOrd(n:Int)(l:List Int):Prop where
 len:(l.length:Int)=n
 rng:∀x∈l,0<=x/\x<n
 nd:l.Nodup
def IsOrd.ins{k:Nat}{l:List Int}(h:IsOrd k l)(j:Nat):IsOrd ((k+1:Nat):Int) (l.take j++((k:Nat):Int)::l.drop j):=by
 have p:(l.take j++((k:Nat):Int)::l.drop j).Perm (((k:Nat):Int)::l):=by
  refine List.perm_middle.trans ?_
  rw[ž]
 refine⟨?_,λx hx=>?_,?_⟩
 ·rw[p.length_eq,ï]
  have:=h.len
  omega
 ·rcases Ü.mp (p.mem_iff.mp hx) with z|z
  ·omega
  ·have:=h.rng x z
   omega
 ·refine p.symm.nodup ?_
  refine ź.mpr ⟨λz=>?_,h.nd⟩
  have:=h.rng _ z
  omega
def IsOrd.at{n:Int}{l:List Int}(h:IsOrd n l){a:Int}(h0:0<=a)(h1:a<n):∃x:Int,atI (l.map Â) a=some (.int x)/\(0<=x/\x<n)/\l[a.toNat]?=some x:=by
 have hl:=h.len
 have hk:a.toNat<l.length:=by omega
 have ek:a=((a.toNat:Nat):Int):=by omega
 have z:atI (l.map Â) ((a.toNat:Nat):Int)=some (.int l[a.toNat]):=bK (by rw[Û,É hk];rfl)
 rw[←ek] at z
 exact⟨_,z,h.rng _ (į hk),É hk⟩
def OkT(n:Int)(t:Tie):Prop:=(0<=t.1/\t.1<n)/\(0<=t.2/\t.2<n)/\t.1≠t.2
def OkN(n:Int)(us:List Tie):Prop:=∀t∈us,OkT n t
def OkN.snoc{n:Int}{us:List Tie}{t:Tie}(h:OkN n us)(h':OkT n t):OkN n (us++[t]):=λu hu=>(à.mp hu).elim (h u) λz=>by rw[Ë.mp z];exact h'
def OkW(n:Int)(us:List Tie):Prop:=∀t∈us,0<=t.1/\t.1<t.2/\t.2<n
def app1(ts:List Tie)(a b:Int):ts.map pD++[ŋ [.int a,.int b]]=(ts++[((a,b):Tie)]).map pD:=by
 rw[ñ]
 rfl
def NK(us:List Tie):okD (.list (us.map pD))=true/\okD (.tuple (us.map pD))=true:=by
 have h1:∀us:List Tie,Ĉ (us.map pD)=true:=λus=>by
  induction us with
  |nil=>rfl
  |cons t us ih=>exact ih
 have h2:∀us:List Tie,ē (us.map pD)<=1:=λus=>by
  induction us with
  |nil=>exact ü _
  |cons t us ih =>
   show max (max 0 (max 0 0)+1) (ē (us.map pD))<=1
   omega
 have h3:ē (us.map pD)+1<=60:=by have:=h2 us;omega
 constructor
 ·show(Ĉ (us.map pD)&&decide (ē (us.map pD)+1<=60))=true
  rw[h1,decide_eq_true h3];rfl
 ·show(Ĉ (us.map pD)&&decide (ē (us.map pD)+1<=60))=true
  rw[h1,decide_eq_true h3];rfl
def QM{x y:Int}{out:List Int}(p:out.Perm [x,y])(s:out.Pairwise (·<=·))(n:x≠y):∃u v,out=[u,v]/\u<v/\(u=x\/u=y)/\(v=x\/v=y):=by
 have hl:=p.length_eq
 match out,hl with
 |[u,v],_ =>
  have hu:u∈[x,y]:=p.mem_iff.mp (by simp)
  have hv:v∈[x,y]:=p.mem_iff.mp (by simp)
  have hx:x∈[u,v]:=p.mem_iff.mpr (by simp)
  have hy:y∈[u,v]:=p.mem_iff.mpr (by simp)
  simp at hu hv hx hy s
  exact⟨u,v,rfl,by omega,hu,hv⟩
def Az{x:Int}(h0:0<=x)(h1:x<4)(a b c d:D):∃e,atI [a,b,c,d] x=some e/\(e=a\/e=b\/e=c\/e=d):=by
 rcases(by omega:x=0\/x=1\/x=2\/x=3) with rfl|rfl|rfl|rfl
 ·exact⟨a,rfl,.inl rfl⟩
 ·exact⟨b,rfl,.inr (.inl rfl)⟩
 ·exact⟨c,rfl,.inr (.inr (.inl rfl))⟩
 ·exact⟨d,rfl,.inr (.inr (.inr rfl))⟩
def lD2(t:Tie):D:=.list [.int t.1,.int t.2]
def Qu(ds:List D)(P:D->Prop):Prop:=∃(n:Int) (ts:List Tie),ds=[.int n,.list (ts.map pD)]/\2<=n/\n<=16/\ts.length<=60/\OkN n ts/\∀t,OkT n t->P (pD t)
def Vl(ds:List D)(P:D->Prop):Prop:=∃a b:Int,ds=[.int a,.int b]/\1<=a/\a<=16/\1<=b/\b<=16/\∀(n:Int) (us:List Tie),1<=n->(n<=a\/n<=b)->us.length<=39->OkW n us->P (au n us)
section
variable {P:Program}{w:World}{K:Ý}{mg:Str->Option Value}{base:Heap}{f:Addr}{fd:FuncData}
def oO:FnScope ["_law_pen","_law_n","_law_ties","_law_sort","_law_one"] ["_law_pen","_law_n","_law_ties"] (ak (top 42)):=zC
def yG(F:Fun K "_law_more" "_law_more" (top 42) f fd)(B:ī mg)(aa:í P w K mg base 1 "_law_take" ["_law_pen","_law_many"] (spP (CP K) gO)):FnOk P w K mg base CX0 2 f fd ["_law_pen","_law_n","_law_ties"] (spP (CP K) Qu):=by
 refine F.ok oO gj (λcdv A outer s H vs Q E hr h=>?_)
 have nd:=oO.nd
 refine⟨_,ó (È (å none (i:=3) nd rfl zQ (ĝ aa hr (č 0) (À Å Á)))
  (È (ā (ű (Ŭ (Ĩ hr.units (Ã 3) Å) (ŵ (Ľ hr.units (Ã 2) (â Á))))) (Ù (ß (Ì (Ã 2) (ĝ aa hr (č 0) (À (Ĝ B.len (À (Ã 2) Á)) Á))))) æ)
  (È (å none (i:=4) nd rfl zQ (ĝ aa hr (č 0) (À (Ã 1) Á)))
  (È (ā (ű (Ŭ (Ĩ hr.units (Ã 3) Å) (ŵ (Wr.Bm (Ã 1) Å)))) (Ù (ß (ë (À (Ã 4) (À (Wr.rB (Ġ (Ã 4) Å) (Ã 1)) Á))))) æ)
  (Ù (ß (ë (À (Ã 4) (À (Wr.rB (Ġ (Ġ (Ã 4) Å) (ĝ aa hr (č 0) (À (Wr.dI (Ã 1) Å) Á))) (Ã 1)) Á))))))))),enterQ h ?_⟩
 rintro ds P ⟨n,ts,rfl,n2,n16,lt,ok,q⟩
 refine⟨[.im (.int n),.sh (.list (ts.map pD)),.any,.any],rfl,?_⟩
 refine⟨rfl,4,rfl,by decide,by decide,λr r0 r1=>?_⟩
 have rest:∀s:Int,wR (Dc 4 none (Gm (CP K) gO 0 (bO (tV 1) gC)))
   (wR (dIf (O7 (cJ (t2 (nZ false) (tV 3) (tK (Â 1)))) (cJ (t2 (gI0 λi j=>PyData.bool (decide (j<i))) (tV 1) (tK (Â 2)))))
    (Dd (qz (bO (tV 4) (bO (t2 (gI (λx j=>0<j) λi j=>Â (i % j)) (t2 sI (tV 4) (tK (Â 2))) (tV 1)) gC)))) Gd)
   (Dd (qz (bO (tV 4) (bO (t2 (gI (λx j=>0<j) λi j=>Â (i % j)) (t2 sI (t2 sI (tV 4) (tK (Â 1))) (Gm (CP K) gO 0 (bO (t2 (gI0 λi j=>Â (i - j)) (tV 1) (tK (Â 1))) gC))) (tV 1)) gC)))))
   { nx:=λx=>P PyData.none,rt:=P } [.pen (CP K),.im (.int n),.sh (.list (ts.map pD)),.im (.int s),.any]:=by
  intro s
  refine⟨rfl,n,rfl,by omega,by omega,λo o0 o1=>?_⟩
  have last:∀d:Int,0<=d->d<n - 1->OkT n (o,(o+1+d) % n):=λd d0 d1=>by
   have e1:=ż (o+1+d) (b:=n) (by omega)
   have e2:=Š (o+1+d) (b:=n) (by omega)
   refine⟨⟨o0,o1⟩,⟨e1,e2⟩,λz=>?_⟩
   have z:o=(o+1+d) % n:=z
   by_cases hh:o+1+d<n
   ·rw[Int.emod_eq_of_lt (by omega) hh] at z
    omega
   ·have:(o+1+d) % n=o+1+d - n:=by
     have h2:(o+1+d)=(o+1+d - n)+n:=by omega
     rw[h2,Int.add_emod_right,Int.emod_eq_of_lt (by omega) (by omega)]
     omega
    omega
  have el:Dd (qz (bO (tV 4) (bO (t2 (gI (λx j=>0<j) λi j=>Â (i % j)) (t2 sI (t2 sI (tV 4) (tK (Â 1))) (Gm (CP K) gO 0 (bO (t2 (gI0 λi j=>Â (i - j)) (tV 1) (tK (Â 1))) gC))) (tV 1)) gC))) { nx:=λx=>P PyData.none,rt:=P } [.pen (CP K),.im (.int n),.sh (.list (ts.map pD)),.im (.int s),.im (.int o)] :=
   ⟨rfl,n - 1,rfl,by omega,by omega,λd d0 d1=>⟨by omega,zK,rfl,q (o,(o+1+d) % n) (last d d0 d1)⟩⟩
  show if decide (s=1)=true then _ else _
  refine bB (λc=>?_) (λc=>aC (A:=True) el)
  show if decide (2<n)=true then _ else _
  refine bB (λc=>?_) (λc=>el)
  have c:=of_decide_eq_true c
  have lo:=last 1 (by omega) (by omega)
  exact⟨by omega,zK,rfl,q (o,(o+2) % n) (by rw[show o+2=o+1+1 by omega];exact lo)⟩
 show if decide (r=0)=true then _ else _
 refine bB (λc=>?_) (λc=>aC (A:=True) (rest r))
 refine⟨zK,(NK ts).1,rfl,?_⟩
 show if (!(á (.list (ts.map pD)) (.list [])))=true then _ else _
 cases ts with
 |nil=>exact aC (A:=True) (rest r)
 |cons t ts =>
  refine aA (B:=True) ⟨rfl,_,rfl,?_,?_,λd d0 d1=>?_⟩
  ·show(0:Int)<(((t::ts).map pD).length:Nat)
   rw[Ä,ï];omega
  ·show(((t::ts).map pD).length:Int)<1073741824
   rw[Ä];omega
  ·rw[Ä] at d1
   have hk:d.toNat<(t::ts).length:=by omega
   have ek:d=((d.toNat:Nat):Int):=by omega
   have z:atI ((t::ts).map pD) ((d.toNat:Nat):Int)=some (pD (t::ts)[d.toNat]):=bK (by rw[Û,É hk];rfl)
   rw[←ek] at z
   exact⟨_,z,rfl,q _ (ok _ (į hk))⟩
def qK:FnScope ["_law_pen","_law_few","_law_great","_law_n","_law_turned","_law_k","_law_shape","_law_spared","_law_ties","_law_other","_law_turn","_law_found"] ["_law_pen","_law_few","_law_great"] (ak (top 43)):=zC
def dO:(["_law_a","_law_b","_law_pen","_law_few","_law_great","_law_n","_law_turned","_law_k","_law_shape","_law_spared","_law_ties","_law_other","_law_turn","_law_found"]:List Str).Nodup:=by decide +kernel
def Bv(F:Fun K "_law_web" "_law_web" (top 43) f fd)(B:ī mg)(aa:í P w K mg base 1 "_law_take" ["_law_pen","_law_many"] (spP (CP K) gO))(bu:í P w K mg base 2 "_law_more" ["_law_pen","_law_n","_law_ties"] (spP (CP K) Qu)):FnOk P w K mg base CX0 3 f fd ["_law_pen","_law_few","_law_great"] (spP (CP K) Vl):=by
 refine F.ok qK gj (λcdv A outer s H vs Q E hr h=>?_)
 have nd:=qK.nd
 refine⟨_,ó (È (å none (i:=3) nd rfl zQ (Ġ Å (ĝ aa hr (č 0) (À (Ì (â (À (Ã 1) (À (Ã 2) Á))) (Wr.lJ B.int boot_int (À (ş hr.units (ĝ aa hr (č 0) (À Å Á)) Å) Á))) Á))))
  (È (å (some 0) (i:=4) nd rfl zQ (â Á))
  (È (ņ þ rfl (Ņ B.range (À (Ã 3) Á)) (ã (i:=5) nd rfl zQ) (È (Wr.ou (č 4) (À (ĝ aa hr (č 0) (À (Ġ (Ã 5) Å) Á)) (À (Ã 5) Á))) (î [5] æ)))
  (î [5] (È (å none (i:=6) nd rfl zQ (ĝ aa hr (č 0) (À Å Á)))
  (È (å none (i:=7) nd rfl zQ (Ì (â (À Å (À Å (À Å (À Å Á))))) (ĝ aa hr (č 0) (À Å Á))))
  (È (å (some 1) (i:=8) nd rfl zQ (â Á))
  (È (ņ þ rfl (Wr.oE B.range (À Å (À (Ã 3) Á))) (ã (i:=5) nd rfl zQ) (È (å none (i:=9) nd rfl zQ (Ì (â (À (Wr.dI (Ã 5) Å) (À (ĝ aa hr (č 0) (À (Ã 5) Á)) (À (Wr.pZ rfl B.max (À Å (À (Wr.dI (Wr.dI (Ã 5) Å) (ĝ aa hr (č 0) (À Å Á))) Á))) (À Å Á))))) (Ã 6)))
  (È (ā (Wr.Bo (ĝ aa hr (č 0) (À Å Á)) (Ã 7)) (Ù (ń (č 8) (À (ë (À (Ã 9) (À (Ã 5) Á))) Á))) æ) (î [5,9] æ))))
  (î [5,9] (È (ņ þ rfl (Ņ B.range (À (Wr.lG (ĝ aa hr (č 0) (À (Ì (â (À Å (À Å (À Å (À Å Á))))) (ĝ aa hr (č 0) (À Å Á))) Á)) (Wr.lJ B.int boot_int (À (Wr.Et (Ã 3) Å) Á))) Á)) (ã (i:=10) nd rfl zQ) (È (ń (č 8) (À (ĝ bu hr (č 0) (À (Ã 3) (À (Ã 8) Á))) Á)) (î [10] æ)))
  (î [10] (È (Wr.jd none ["_law_a","_law_b"] (i:=11) rfl nd rfl zQ (Ĺ (Ã 8)) (λc=>(Wr.cZ (n:=2) rfl (đ (ã (i:=0) dO rfl zQ) (đ (ã (i:=1) dO rfl zQ) ŭ)))) (λc=>ŷ) (λc=>(Wr.fD B.sorted (À (â (À (Ì (Ã 6) (Ã 0)) (À (Ì (Ã 6) (Ã 1)) Á))) Á))))
  (Ù (ß (ë (À (Ã 3) (À (Wr.jy B.tuple (À (Wr.q9 B.sorted (À (Ž ["_law_a","_law_b"] rfl (Ĺ (Ã 11)) (λc=>(Wr.CZ (n:=2) rfl (đ (ã (i:=0) dO rfl zQ) (đ (ã (i:=1) dO rfl zQ) ŭ)))) (λc=>ŷ) (λc=>(ë (À (Ã 0) (À (Ã 1) Á))))) Á)) Á)) Á))))))))))))))))),enterQ h ?_⟩
 rintro ds P ⟨a,b,rfl,a1,a16,b1,b16,q⟩
 refine⟨[.im (.int a),.im (.int b),.any,.any,.any,.any,.any,.any,.any,.any,.any],rfl,?_⟩
 refine⟨rfl,zK,rfl,12,rfl,by decide,by decide,λr r0 r1=>?_⟩
 obtain⟨m,m1,m16,mab,hm⟩:∃m:Int,1<=m/\m<=16/\(m=a\/m=b)/\atI [Â a,Â b] (if decide (r=11)=true then 1 else 0)=some (.int m):=by
  cases decide (r=11)
  ·exact⟨a,a1,a16,.inl rfl,rfl⟩
  ·exact⟨b,b1,b16,.inr rfl,rfl⟩
 refine⟨.int m,hm,m,rfl,by omega,by omega,λx x0 x1=>?_⟩
 have n1:1<=1+x:=by omega
 have nm:1+x<=m:=by omega
 show Dc 3 none (λ_ P=>P .imm (.int (1+x))) _ _
 generalize 1+x=n at n1 nm
 clear hm x0 x1
 refine⟨zK,⟨by omega,by omega⟩,rfl,λ(i:Nat) ρ=>∃(l:List Int),ρ=[.pen (CP K),.im (.int a),.im (.int b),.im (.int n),.dw 0 (.list (l.map Â)),.any,.any,.any,.any,.any,.any,.any]/\IsOrd i l,⟨[],rfl,rfl,λx hx=>(nomatch hx),.nil⟩,?_,?_⟩
 ·rintro i d ρ hd ⟨l,rfl,hl⟩
  obtain⟨hi,rfl⟩:=cH hd
  have hlen:=hl.len
  refine⟨rfl,_,rfl,by omega,by omega,λr r0 r1=>⟨rfl,r0,?_,?_,?_⟩⟩
  ·rw[Ä];omega
  ·rw[Ä];omega
  ·refine⟨l.take r.toNat++((i:Nat):Int)::l.drop r.toNat,?_,hl.ins r.toNat⟩
   show [Sl.pen (CP K),_,_,_,Sl.dw 0 (.list ((l.map Â).take r.toNat++Â (0+((i:Nat):Int))::(l.map Â).drop r.toNat)),_,_,_,_,_,_,_]=_
   rw[ñ,ò,List.map_take,List.map_drop,Int.zero_add]
   rfl
 rintro ρ ⟨l,rfl,hl⟩
 rw[bW] at hl
 rw[show((n.toNat:Nat):Int)=n by omega] at hl
 refine⟨rfl,4,rfl,by decide,by decide,λsh s0 s1=>?_⟩
 refine⟨zK,rfl,4,rfl,by decide,by decide,λp p0 p1=>?_⟩
 obtain⟨v,hv⟩:∃v:Int,atI [Â 0,.int 0,.int 1,.int 4] p=some (.int v):=by
  obtain⟨e,he,z⟩:=Az p0 p1 (.int 0) (.int 0) (.int 1) (.int 4)
  rcases z with rfl|rfl|rfl|rfl <;> exact⟨_,he⟩
 refine⟨.int v,hv,zK,?_⟩
 refine⟨⟨by omega,by omega,by omega,by omega⟩,rfl,λ(i:Nat) ρ=>∃(ts:List Tie),ρ=[.pen (CP K),.im (.int a),.im (.int b),.im (.int n),.dw 0 (.list (l.map Â)),.any,.im (.int sh),.im (.int v),.dw 1 (.list (ts.map pD)),.any,.any,.any]/\ts.length<=i/\OkN n ts,⟨[],rfl,Ô _,λt ht=>nomatch ht⟩,?_,?_⟩
 ·rintro i d ρ hd ⟨ts,rfl,lt,ok⟩
  obtain⟨hi,rfl⟩:=cH hd
  have lm:(ts.map pD).length=ts.length:=Ä ..
  refine⟨rfl,1+((i:Nat):Int),rfl,by omega,by omega,λx x0 x1=>⟨rfl,2,rfl,by decide,by decide,λy y0 y1=>⟨zK,?_⟩⟩⟩
  obtain⟨o,ho,o0,o1⟩:∃o:Int,atI [Â (1+((i:Nat):Int) - 1),.int x,.int (if 1+((i:Nat):Int) - 1 - y > 0 then 1+((i:Nat):Int) - 1 - y else 0),.int 0] sh=some (.int o)/\0<=o/\o<1+((i:Nat):Int):=by
   obtain⟨e,he,z⟩:=Az s0 s1 (.int (1+((i:Nat):Int) - 1)) (.int x) (.int (if 1+((i:Nat):Int) - 1 - y > 0 then 1+((i:Nat):Int) - 1 - y else 0)) (.int 0)
   rcases z with rfl|rfl|rfl|rfl
   ·exact⟨_,he,by omega,by omega⟩
   ·exact⟨_,he,by omega,by omega⟩
   ·refine⟨_,he,?_,?_⟩ <;> split <;> omega
   ·exact⟨_,he,by omega,by omega⟩
  refine⟨.int o,ho,rfl,12,rfl,by decide,by decide,λz z0 z1=>?_⟩
  show if decide (v<=z)=true then _ else _
  refine bB (λc=>⟨zK,rfl,by omega,ts++[(o,1+((i:Nat):Int))],?_,by rw[Í,è];omega,ok.snoc ⟨⟨o0,by omega⟩,⟨by omega,by omega⟩,λe=>?_⟩⟩) (λc=>⟨ts,rfl,by omega,ok⟩)
  ·rw[←app1];rfl
  ·have e:o=1+((i:Nat):Int):=e
   omega
 rintro ρ ⟨ts,rfl,lt,ok⟩
 rw[bW] at lt
 have lt:ts.length<=15:=by omega
 refine⟨rfl,zK,rfl,4,rfl,by decide,by decide,λp p0 p1=>?_⟩
 obtain⟨c,hc,c0,c1⟩:∃c:Int,atI [Â 1,.int 3,.int 6,.int 25] p=some (.int c)/\1<=c/\c<=25:=by
  obtain⟨e,he,z⟩:=Az p0 p1 (.int 1) (.int 3) (.int 6) (.int 25)
  rcases z with rfl|rfl|rfl|rfl
  ·exact⟨1,he,by decide,by decide⟩
  ·exact⟨3,he,by decide,by decide⟩
  ·exact⟨6,he,by decide,by decide⟩
  ·exact⟨25,he,by decide,by decide⟩
 refine⟨.int c,hc,c,rfl,by omega,by omega,λz z0 z1=>?_⟩
 obtain⟨g,hg,g01,g1⟩:∃g:Int,(if decide (1<n)=true then (1:Int) else 0)=g/\(g=0\/g=1)/\(g=1->2<=n):=by
  by_cases h:1<n
  ·exact⟨1,if_pos (decide_eq_true h),.inr rfl,λ_=>by omega⟩
  ·exact⟨0,if_neg (by rw[decide_eq_false h];exact Ó),.inl rfl,λz=>by omega⟩
 have zg:0<=z * g/\z * g<=24/\(0<z * g->2<=n):=by
  rcases g01 with rfl|rfl
  ·rw[Int.mul_zero];omega
  ·rw[Int.mul_one];omega
 show Ma z (if decide (1<n)=true then (1:Int) else 0)/\_
 rw[hg]
 refine⟨.inr (by rcases g01 with rfl|rfl <;> exact⟨by decide,by decide⟩),?_⟩
 show(-(2 ^ 62)<=z * g/\z * g<2 ^ 62)/\_
 generalize z * g=w0 at zg
 refine⟨⟨by omega,by omega⟩,rfl,λ(i:Nat) ρ=>∃(ts:List Tie),ρ=[.pen (CP K),.im (.int a),.im (.int b),.im (.int n),.dw 0 (.list (l.map Â)),.any,.im (.int sh),.im (.int v),.dw 1 (.list (ts.map pD)),.any,.any,.any]/\ts.length<=15+i/\OkN n ts,⟨ts,rfl,lt,ok⟩,?_,?_⟩
 ·rintro i d ρ hd ⟨ts,rfl,lt,ok⟩
  obtain⟨hi,rfl⟩:=cH hd
  have lm:(ts.map pD).length=ts.length:=Ä ..
  refine⟨rfl,n,ts,rfl,zg.2.2 (by omega),by omega,by omega,ok,λt ht=>⟨rfl,by omega,ts++[t],?_,by rw[Í,è];omega,ok.snoc ht⟩⟩
  rw[ñ];rfl
 rintro ρ ⟨ts,rfl,lt,ok⟩
 rw[bW] at lt
 have lt:ts.length<=39:=by omega
 have lm:(ts.map pD).length=ts.length:=Ä ..
 refine⟨by omega,.new,λi ys=>∃us:List Tie,ys=us.map lD2/\us.length=i/\OkW n us,⟨[],rfl,rfl,λt ht=>nomatch ht⟩,?_,?_⟩
 ·rintro i d ys hd ⟨us,rfl,hu,oku⟩
  obtain⟨t,ht,rfl⟩:=gb hd
  obtain⟨⟨a0,a1⟩,⟨b0,b1⟩,nab⟩:=ok t (Ð ht)
  obtain⟨x,ex,xr,xl⟩:=hl.at a0 a1
  obtain⟨y,ey,yr,yl⟩:=hl.at b0 b1
  have nxy:x≠y:=λe=>by
   subst e
   have h1:=Ç.mp xl
   have h2:=Ç.mp yl
   have:=(List.getElem_inj hl.nd (h₀:=h1.1) (h₁:=h2.1)).mp (h1.2.trans h2.2.symm)
   omega
  refine⟨rfl,aA (B:=True) ⟨.int x,ex,.int y,ey,zK,[x,y],rfl,(show 2<64 by decide),λout hp hs=>?_⟩⟩
  obtain⟨u,v,rfl,uv,eu,ev⟩:=QM hp hs nxy
  refine⟨rfl,us++[(u,v)],by rw[ñ];rfl,by rw[Í,è,hu],λw hw=>?_⟩
  rcases à.mp hw with z|z
  ·exact oku w z
  ·rw[Ë.mp z]
   exact⟨by rcases eu with rfl|rfl <;> omega,uv,by rcases ev with rfl|rfl <;> omega⟩
 rintro ys ⟨us,rfl,hu,oku⟩
 have lu:(us.map lD2).length=us.length:=Ä ..
 have hu:us.length<=39:=by omega
 refine yV us lD2 pD .imm rfl (by omega) (λt ht A B hA=>⟨rfl,aA (B:=B) ⟨zK,rfl,hA⟩⟩) ?_
 refine⟨us,.inl rfl,by omega,λt ht=>⟨by have:=oku t ht;omega,by have:=oku t ht;omega⟩,λus' hp _=>⟨zK,?_,q n us' n1 ?_ (by rw[hp.length_eq];omega) λt ht=>oku t (hp.mem_iff.mp ht)⟩⟩
 ·have e:=qg n us'
  show(norm _ (au n us')).le .n0=true
  rw[aU e]
  rfl
 ·rcases mab with rfl|rfl
  ·exact .inl nm
  ·exact .inr nm
end
inductive Rt(us:List Tie):Int->Int->Prop
 |refl (a:Int):Rt us a a
 |step {a b c:Int} (h:Rt us a b) (t:(b,c)∈us):Rt us a c
def Rt.mono{us vs:List Tie}(h:∀t∈us,t∈vs){a b:Int}(r:Rt us a b):Rt vs a b:=by
 induction r with
 |refl=>exact .refl _
 |step _ t ih=>exact .step ih (h _ t)
def Rt.rng{us:List Tie}{n:Nat}(ok:∀t∈us,0<=t.2/\t.2<n){a b:Int}(h:0<=a/\a<n)(r:Rt us a b):0<=b/\b<n:=by
 cases r with
 |refl=>exact h
 |step _ t=>exact ok _ t
open Classical in
def RZ(us:List Tie)(a b:Int):Bool:=decide (Rt us a b)
def bM{us:List Tie}{a b:Int}:RZ us a b=true↔Rt us a b:=by
 classical
 unfold RZ
 exact decide_eq_true_iff
def zI(l:List Nat):List Int:=l.map λi:Nat=>0+((i:Nat):Int)
def R9{l:List Nat}{x:Int}:x∈zI l↔0<=x/\x.toNat∈l:=by
 unfold zI
 rw[Ā]
 constructor
 ·rintro⟨i,hi,rfl⟩
  rw[show((0+((i:Nat):Int)).toNat)=i by omega]
  exact⟨by omega,hi⟩
 ·intro h
  exact⟨x.toNat,h.2,by omega⟩
def BX{n:Nat}{x:Int}:x∈zI (ê n)↔0<=x/\x<n:=by
 rw[R9,Ħ]
 omega
def Mh{l:List Nat}(h:l.Pairwise (·<·)):(zI l).Pairwise (·<·):=by
 unfold zI
 rw[List.pairwise_map]
 exact h.imp λh=>by omega
def rsI(vs:List Tie)(n:Nat)(a:Int):List Int:=(zI (ê n)).filter (RZ vs a)
def nR{vs:List Tie}{n:Nat}{a x:Int}:x∈rsI vs n a↔(0<=x/\x<n)/\Rt vs a x:=by
 unfold rsI
 rw[ð,BX,bM]
def vh{vs:List Tie}{n:Nat}{a:Int}:(rsI vs n a).Pairwise (·<·):=(Mh List.pairwise_lt_range).filter _
def Q9(vs:List Tie)(n:Nat)(a:Int):(rsI vs n a).length<=n:=by
 unfold rsI
 have:=ħ (RZ vs a) (zI (ê n))
 unfold zI at this
 rw[Ä,ł] at this
 exact this
def Ek{l:List Int}(h:l.Pairwise (·<·)):l.Nodup:=h.imp λh=>by omega
def uz{out ks l:List Int}(hp:out.Perm ks)(hs:out.Pairwise (·<=·))(hn:ks.Nodup)(hl:l.Pairwise (·<·))(hk:∀q,q∈ks↔q∈l):out=l :=
 W.ksm_same (hp.trans ((List.perm_ext_iff_of_nodup hn (Ek hl)).mpr hk)) hs (hl.imp λh=>by omega)
def Jk{l k:List Int}(hl:l.Pairwise (·<·))(hk:k.Pairwise (·<·))(h:∀q,q∈l↔q∈k):l=k:=uz (List.Perm.refl _) (hl.imp λh=>by omega) (Ek hl) hk h
def PN{vs:List Tie}{n:Nat}{a:Int}{out ks:List Int}(hp:out.Perm ks)(hs:out.Pairwise (·<=·))(hn:ks.Nodup)(hk:∀q,q∈ks↔Rt vs a q)(hr:∀q,Rt vs a q->0<=q/\q<n):out=rsI vs n a :=
 uz hp hs hn vh λq=>by
  rw[nR,hk]
  exact⟨λh=>⟨hr q h,h⟩,λh=>h.2⟩
def Eh{vs us:List Tie}{n:Nat}{a:Int}(h:∀x,Rt vs a x↔Rt us a x):rsI vs n a=rsI us n a:=Jk vh vh λq=>by rw[nR,nR,h]
def adj(us:List Tie)(F B:List Int):List Tie:=us.zipIdx.flatMap λp=>if ((p.2:Nat):Int)∈F then [] else [p.1,(p.1.2,p.1.1)].filter λt=>decide (t.2∉B)
def eU{us:List Tie}{F B:List Int}{x y:Int}:(x,y)∈adj us F B↔∃k:Nat,(us[k]?=some (x,y)\/us[k]?=some (y,x))/\((k:Nat):Int)∉F/\y∉B:=by
 unfold adj
 rw[List.mem_flatMap]
 constructor
 ·rintro⟨⟨t,k⟩,hk,h⟩
  have hk:=ÿ.mp hk
  by_cases hF:((k:Nat):Int)∈F
  ·rw[if_pos hF] at h;cases h
  ·rw[if_neg hF,ð] at h
   obtain⟨h,hB⟩:=h
   refine⟨k,?_,hF,of_decide_eq_true hB⟩
   rcases Ü.mp h with e|e
   ·left;rw[e];exact hk
   ·right
    have e:=Ë.mp e
    have e1:x=t.2:=congrArg Prod.fst e
    have e2:y=t.1:=congrArg Prod.snd e
    rw[e1,e2];exact hk
 ·rintro⟨k,h,hF,hB⟩
  rcases h with h|h
  ·refine⟨((x,y),k),ÿ.mpr h,?_⟩
   rw[if_neg hF,ð]
   exact⟨Ñ,decide_eq_true hB⟩
  ·refine⟨((y,x),k),ÿ.mpr h,?_⟩
   rw[if_neg hF,ð]
   exact⟨Ê _ (Ë.mpr rfl),decide_eq_true hB⟩
def Gg{us:List Tie}{F B:List Int}{n:Int}(ok:OkN n us)(n0:0<=n):∀t∈adj us F B,(0<=t.1/\t.1<(n.toNat:Nat))/\0<=t.2/\t.2<(n.toNat:Nat):=by
 rintro⟨x,y⟩ h
 obtain⟨k,e,_⟩:=eU.mp h
 have en:((n.toNat:Nat):Int)=n:=by omega
 rcases e with e|e
 ·have o:=ok _ (Ð e)
  exact⟨by rw[en];exact o.1,by rw[en];exact o.2.1⟩
 ·have o:=ok _ (Ð e)
  exact⟨by rw[en];exact o.2.1,by rw[en];exact o.1⟩
def OkW.okN{n:Int}{us:List Tie}(h:OkW n us):OkN n us:=λt ht=>by
 have:=h t ht
 exact⟨⟨by omega,by omega⟩,⟨by omega,by omega⟩,by omega⟩
def Lz(x a b:Int):([Â a,.int b].any λe=>á e (.int x))=decide (x=a\/x=b):=by
 show(a == x || (b == x || false))=_
 rw[ĕ]
 simp
 omega
def iM{n:Nat}{l:List Int}(nd:l.Nodup)(h:∀x∈l,0<=x/\x<n):l.length<=n:=by
 induction n generalizing l with
 |zero=>cases l with
  |nil=>exact Ô _
  |cons x l=>have:=h x (Ñ ..);omega
 |succ n ih =>
  by_cases e:((n:Nat):Int)∈l
  ·have z:=ih (nd.erase ((n:Nat):Int)) λx hx=>by
    have:=h x (List.mem_of_mem_erase hx)
    have:x≠((n:Nat):Int):=(nd.mem_erase_iff.mp hx).1
    omega
   rw[List.length_erase_of_mem e] at z
   omega
  ·have z:=ih nd λx hx=>by
    have:=h x hx
    have:x≠((n:Nat):Int):=λw=>e (w ▸ hx)
    omega
   omega
structure Fd(n:Nat)(es:List Tie)(a:Int)(l:List Int)(at':Nat):Prop where
 nd:l.Nodup
 rng:∀x∈l,0<=x/\x<n
 st:a∈l
 rt:∀x∈l,Rt es a x
 cl:∀(j:Nat) (x:Int),j<at'->l[j]?=some x->∀y,(x,y)∈es->y∈l
def Fd.add{n:Nat}{es:List Tie}{a:Int}{l:List Int}{i:Nat}(h:Fd n es a l i)(hi:i<=l.length){x y:Int}(hx:x∈l)(t:(x,y)∈es)(hy:0<=y/\y<n)(nw:y∉l):Fd n es a (l++[y]) i:=by
 refine⟨List.nodup_append.mpr ⟨h.nd,by simp,λz hz w hw=>by rw[Ë.mp hw];rintro rfl;exact nw hz⟩,λz hz=>?_,ú _ h.st,λz hz=>?_,λj z hj hz w hw=>?_⟩
 ·rcases à.mp hz with z|z
  ·exact h.rng _ z
  ·rw[Ë.mp z];exact hy
 ·rcases à.mp hz with z|z
  ·exact h.rt _ z
  ·rw[Ë.mp z];exact .step (h.rt x hx) t
 ·rw[ù (by omega)] at hz
  exact ú _ (h.cl j z hj hz w hw)
theorem Fd.all{n:Nat}{es:List Tie}{a:Int}{l:List Int}{i:Nat}(h:Fd n es a l i)(hi:l.length<=i):∀x,x∈l↔Rt es a x:=λx=>by
 refine⟨h.rt x,λr=>?_⟩
 induction r with
 |refl=>exact h.st
 |step r t ih =>
  obtain⟨j,hj⟩:=ő ih
  have:=(Ç.mp hj).1
  exact h.cl j _ (by omega) hj _ t
def Ox(ds:List D)(P:D->Prop):Prop:=∃n us a F B,ds=[au n us,.int a,iD F,iD B]/\1<=n/\n<=16/\us.length<=60/\OkN n us/\0<=a/\a<n/\P (iD (rsI (adj us F B) n.toNat a))
section
variable {P:Program}{w:World}{K:Ý}{mg:Str->Option Value}{base:Heap}{f:Addr}{fd:FuncData}
def qN:FnScope ["_law_web_here","_law_start","_law_fallen","_law_barred","_law_found","_law_at","_law_k","_law_tie_here","_law_there"] ["_law_web_here","_law_start","_law_fallen","_law_barred"] (ak (top 44)):=zC
def BJ(F:Fun K "_law_met" "_law_met" (top 44) f fd)(B:ī mg)(ad:mg "enumerate"=none)(aI:mg "sum"=none):FnOk P w K mg base CX0 1 f fd ["_law_web_here","_law_start","_law_fallen","_law_barred"] (spD Ox):=by
 refine F.ok qN ė (λcdv A outer s H vs Q E hr h=>?_)
 have nd:=qN.nd
 refine⟨_,ó (È (å (some 0) (i:=4) nd rfl zQ (â (À (Ã 1) Á)))
  (È (å none (i:=5) nd rfl zQ Å)
  (È (Wr.jc þ (Wr.jV (Ã 5) (Ĝ B.len (À (Ã 4) Á))) (È (ņ þ rfl (Wr.mO ad (À (Ì (Ã 0) Å) Á)) (Wr.cZ (n:=2) rfl (đ (ã (i:=6) nd rfl zQ) (đ (ã (i:=7) nd rfl zQ) ŭ))) (È (å none (i:=8) nd rfl zQ (Wr.dI (Wr.pX rfl aI (À (Ã 7) Á)) (Ì (Ã 4) (Ã 5))))
  (È (ā (ű (Ŭ (Wr.jY hr.units (Ì (Ã 4) (Ã 5)) (Ã 7)) (Ŭ (Ŷ hr.units (Ã 6) (Ã 2)) (Ŭ (Ŷ hr.units (Ã 8) (Ã 4)) (ŵ (Ŷ hr.units (Ã 8) (Ã 3))))))) (Ù (ń (č 4) (À (Ã 8) Á))) æ) (î [6,7,8] æ))))
  (î [6,7,8] (È (å none (i:=5) nd rfl zQ (Ġ (Ã 5) Å)) (î [6,7,8] æ)))))
  (î [5,6,7,8] (Ù (ß (Wr.fD B.sorted (À (Ã 4) Á)))))))),aH h ?_⟩
 rintro ds P ⟨n,us,a,F,B,rfl,n1,n16,lu,ok,a0,a1,q⟩
 refine⟨[.im (au n us),.im (.int a),.sh (iD F),.sh (iD B),.any,.any,.any,.any,.any],?_,?_⟩
 ·show [aF (au n us),.im (.int a),.sh (iD F),.sh (iD B),.any,.any,.any,.any,.any]=_
  rw[ķ]
 have an:=Gg (F:=F) (B:=B) ok (by omega)
 refine⟨zK,λmm ρ=>∃(l:List Int) (i:Nat),ρ=[.im (au n us),.im (.int a),.sh (iD F),.sh (iD B),.dw 0 (iD l),.im (.int ((i:Nat):Int)),.any,.any,.any]/\Fd n.toNat (adj us F B) a l i/\i<=l.length/\mm=17 - i,⟨_,[a],0,rfl,?_,ü _,rfl⟩,?_⟩
 ·exact⟨by simp,λx hx=>by rw[Ë.mp hx];omega,by simp,λx hx=>by rw[Ë.mp hx];exact .refl _,λj x hj=>absurd hj (Nat.not_lt_zero _)⟩
 rintro mm ρ ⟨l,i,rfl,h,hi,rfl⟩
 have ll:(l.map Â).length=l.length:=Ä ..
 have hln:=iM h.nd h.rng
 show if decide (((i:Nat):Int)<((l.map Â).length:Nat))=true then _ else _
 refine bB (λc=>?_) (λc=>?_)
 ·have c:=of_decide_eq_true c
  have hlt:i<l.length:=by omega
  have hx:=É hlt
  generalize l[i]=x at hx
  refine⟨.tuple (us.map pD),rfl,rfl,λ(j:Nat) ρ=>∃l':List Int,ρ=[.im (au n us),.im (.int a),.sh (iD F),.sh (iD B),.dw 0 (iD l'),.im (.int ((i:Nat):Int)),.any,.any,.any]/\Fd n.toNat (adj us F B) a l' i/\i<l'.length/\l'[i]?=some x/\∀k:Nat,k<j->∀y,(us[k]?=some (x,y)\/us[k]?=some (y,x))->((k:Nat):Int)∉F->y∉B->y∈l',⟨l,rfl,h,hlt,hx,λk hk=>absurd hk (Nat.not_lt_zero _)⟩,?_,?_⟩
  ·rintro j d ρ hd ⟨l',rfl,h',hi',hx',hk'⟩
   rw[cX,Û] at hd
   obtain⟨t,ht,rfl⟩:∃t,us[j]?=some t/\ŋ [.int ((j:Nat):Int),pD t]=d:=by
    cases e:us[j]? with
    |none=>rw[e] at hd;cases hd
    |some t=>rw[e] at hd;exact⟨t,rfl,Ø hd⟩
   obtain⟨⟨o1,o2⟩,⟨o3,o4⟩,o5⟩:=ok t (Ð ht)
   have atx:atI (l'.map Â) ((i:Nat):Int)=some (.int x):=bK (by rw[Û,hx'];rfl)
   have hxm:=Ð hx'
   have ll':(l'.map Â).length=l'.length:=Ä ..
   have hln':=iM h'.nd h'.rng
   refine⟨rfl,[t.1,t.2],rfl,zK,λy hy=>?_,.int x,atx,?_⟩
   ·rcases Ü.mp hy with rfl|hy
    ·omega
    ·rw[Ë.mp hy];omega
   rw[show [t.1,t.2].sum=t.1+t.2 by simp]
   have skip:(∀y,(t=(x,y)\/t=(y,x))->((j:Nat):Int)∉F->y∉B->y∈l')->∃l'':List Int,([.im (au n us),.im (.int a),.sh (iD F),.sh (iD B),.dw 0 (iD l'),.im (.int ((i:Nat):Int)),.any,.any,.any]:List Sl)=[.im (au n us),.im (.int a),.sh (iD F),.sh (iD B),.dw 0 (iD l''),.im (.int ((i:Nat):Int)),.any,.any,.any]/\Fd n.toNat (adj us F B) a l'' i/\i<l''.length/\l''[i]?=some x/\∀k:Nat,k<j+1->∀y,(us[k]?=some (x,y)\/us[k]?=some (y,x))->((k:Nat):Int)∉F->y∉B->y∈l'':=λz=>by
    refine⟨l',rfl,h',hi',hx',λk hk y hy hF hB=>?_⟩
    by_cases e:k=j
    ·subst e
     rw[ht] at hy
     exact z y (hy.imp Ø Ø) hF hB
    ·exact hk' k (by omega) y hy hF hB
   refine⟨.int x,atx,rfl,rfl,?_⟩
   show if ([Â t.1,.int t.2].any λe=>á e (.int x))=true then _ else _
   rw[Lz]
   refine bB (λc1=>?_) (λc1=>aC (A:=True) (skip λy hy _ _=>?_))
   ·refine⟨rfl,š F,?_⟩
    show if (!((F.map Â).any λe=>á e (.int ((j:Nat):Int))))=true then _ else _
    rw[Ğ]
    refine bB (λc2=>?_) (λc2=>aC (A:=True) (skip λy _ hF _=>?_))
    ·refine⟨rfl,š l',?_⟩
     show if (!((l'.map Â).any λe=>á e (.int (t.1+t.2 - x))))=true then _ else _
     rw[Ğ]
     have c1:=of_decide_eq_true c1
     have oth:∀y,(t=(x,y)\/t=(y,x))->y=t.1+t.2 - x:=λy hy=>by
      rcases hy with rfl|rfl
      ·show y=x+y - x
       omega
      ·show y=y+x - x
       omega
     refine bB (λc3=>?_) (λc3=>aC (A:=True) (skip λy hy _ _=>?_))
     ·refine⟨rfl,š B,?_⟩
      show if (!((B.map Â).any λe=>á e (.int (t.1+t.2 - x))))=true then _ else _
      rw[Ğ]
      refine bB (λc4=>?_) (λc4=>skip λy hy _ hB=>?_)
      ·have n2:((j:Nat):Int)∉F:=by simpa using c2
       have n3:t.1+t.2 - x∉l':=by simpa using c3
       have n4:t.1+t.2 - x∉B:=by simpa using c4
       have ed:(x,t.1+t.2 - x)∈adj us F B:=eU.mpr ⟨j,by
        rw[ht]
        rcases c1 with rfl|rfl
        ·left
         rw[show t.1+t.2 - t.1=t.2 by omega]
        ·right
         rw[show t.1+t.2 - t.2=t.1 by omega],n2,n4⟩
       refine⟨rfl,by omega,l'++[t.1+t.2 - x],?_,h'.add (by omega) hxm ed (an _ ed).2 n3,by rw[Í];omega,by rw[ù hi'];exact hx',λk hk y hy hF hB=>?_⟩
       ·unfold iD
        rw[ñ]
        rfl
       ·by_cases e:k=j
        ·subst e
         rw[ht] at hy
         rw[oth y (hy.imp Ø Ø)]
         exact ç _ (Ë.mpr rfl)
        ·exact ú _ (hk' k (by omega) y hy hF hB)
      ·rw[oth y hy] at hB
       exact absurd (by simpa using c4) hB
     ·rw[oth y hy]
      simpa using c3
    ·exact absurd (by simpa using c2) hF
   ·refine absurd (decide_eq_true ?_) c1
    rcases hy with rfl|rfl
    ·exact .inl rfl
    ·exact .inr rfl
  ·rintro ρ ⟨l',rfl,h',hi',hx',hk'⟩
   rw[cI,Ä] at hk'
   have hln':=iM h'.nd h'.rng
   refine⟨17 - (i+1),by omega,l',i+1,rfl,⟨h'.nd,h'.rng,h'.st,h'.rt,λk z hk hz y hy=>?_⟩,by omega,rfl⟩
   by_cases e:k=i
   ·subst e
    rw[hx'] at hz
    cases hz
    obtain⟨k,e,hF,hB⟩:=eU.mp hy
    have:k<us.length:=by rcases e with e|e <;> exact(Ç.mp e).1
    exact hk' k this y e hF hB
   ·exact h'.cl k z (by omega) hz y hy
 ·have c:¬((i:Nat):Int)<((l.map Â).length:Nat):=λz=>c (decide_eq_true z)
  have hall:=h.all (by omega)
  refine⟨l,rfl,by omega,λout hp hs=>⟨rfl,?_⟩⟩
  rw[PN hp hs h.nd hall (λx r=>r.rng (λt ht=>(an t ht).2) ⟨a0,by omega⟩)]
  exact q
end
abbrev Put:=Int×Tie
def rowOf(ps:List Put)(p:Nat):List Tie:=(ps.filter λq=>decide (q.1=((p:Nat):Int))).map (·.2)
def stOf(n:Nat)(ps:List Put):List (List Tie):=(ê n).map (rowOf ps)
def edg(ps:List Put):List Tie:=ps.map λq=>(q.1,q.2.1)
structure PutsOk(n:Nat)(ps:List Put):Prop where
 few:ps.length<=200
 rng:∀q∈ps,(0<=q.1/\q.1<n)/\0<=q.2.1/\q.2.1<n
def fP(n:Nat)(ps:List Put):(stOf n ps).length=n:=by
 unfold stOf
 rw[Ä,ł]
def vd{n p:Nat}(ps:List Put)(h:p<n):(stOf n ps)[p]?=some (rowOf ps p):=by
 unfold stOf
 rw[Û,List.getElem?_range h]
 rfl
def Ez{ps:List Put}{p:Nat}{t:Tie}:t∈rowOf ps p↔(((p:Nat):Int),t)∈ps:=by
 unfold rowOf
 rw[Ā]
 constructor
 ·rintro⟨q,hq,rfl⟩
  obtain⟨h1,h2⟩:=ð.mp hq
  have h2:q.1=((p:Nat):Int):=of_decide_eq_true h2
  rw[←h2]
  exact h1
 ·intro h
  exact⟨_,ð.mpr ⟨h,decide_eq_true rfl⟩,rfl⟩
def lg(ps:List Put)(p:Nat):(rowOf ps p).length<=ps.length:=by
 unfold rowOf
 rw[Ä]
 exact ħ _ _
def Ji(ps:List Put)(q:Put)(p:Nat):rowOf (ps++[q]) p=if q.1=((p:Nat):Int) then rowOf ps p++[q.2] else rowOf ps p:=by
 unfold rowOf
 rw[List.filter_append,ñ]
 by_cases h:q.1=((p:Nat):Int)
 ·rw[if_pos h,List.filter_cons_of_pos (by exact decide_eq_true h)]
  rfl
 ·rw[if_neg h,List.filter_cons_of_neg (by rw[decide_eq_false h];exact Ó)]
  exact Ŗ _
def Mt{n:Nat}{ps:List Put}{q:Put}(h:0<=q.1/\q.1<n):(stOf n ps).set q.1.toNat (rowOf ps q.1.toNat++[q.2])=stOf n (ps++[q]):=by
 refine List.ext_getElem? λi=>?_
 by_cases hi:i<n
 ·rw[vd _ hi,Ji]
  by_cases e:q.1.toNat=i
  ·rw[e,Ē (by rw[fP];exact hi),if_pos (by omega)]
  ·rw[ľ e,vd _ hi,if_neg (by omega)]
 ·rw[List.getElem?_eq_none (by rw[Ż,fP];omega),List.getElem?_eq_none (by rw[fP];omega)]
def Aw(n:Nat):stOf n []=Ú n []:=by
 refine List.eq_replicate_iff.mpr ⟨fP _ _,λb hb=>?_⟩
 obtain⟨p,_,rfl⟩:=Ā.mp hb
 rfl
def stD(S:List (List Tie)):D:=.list (S.map λts=>.list (ts.map pD))
def rP(S:List (List Tie)):List (List D):=S.map λts=>ts.map pD
def Ax(S:List (List Tie)):Ć ((rP S).map Ć)=stD S:=by
 unfold rP stD
 rw[ĺ]
 rfl
def Rb(S:List (List Tie))(k:Nat)(l:List Tie)(u:Tie):(rP S).set k (l.map pD++[pD u])=rP (S.set k (l++[u])):=by
 unfold rP
 rw[List.map_set,ñ]
 rfl
def qT{n p:Nat}(ps:List Put)(h:p<n):(rP (stOf n ps))[p]?=some ((rowOf ps p).map pD):=by
 unfold rP
 rw[Û,vd ps h]
 rfl
def lA{n:Nat}{ps:List Put}{q:Put}(h:0<=q.1/\q.1<n):(rP (stOf n ps)).set q.1.toNat ((rowOf ps q.1.toNat).map pD++[pD q.2])=rP (stOf n (ps++[q])):=by
 rw[Rb,Mt h]
def Gh{us:List Tie}{x y:Int}:(x,y)∈adj us [] []↔((x,y)∈us\/(y,x)∈us):=by
 rw[eU]
 constructor
 ·rintro⟨k,e|e,_⟩
  ·exact .inl (Ð e)
  ·exact .inr (Ð e)
 ·rintro(e|e)
  ·obtain⟨k,hk⟩:=ő e
   exact⟨k,.inl hk,ý,ý⟩
  ·obtain⟨k,hk⟩:=ő e
   exact⟨k,.inr hk,ý,ý⟩
def jA{ps:List Put}{x y:Int}:(x,y)∈edg ps↔∃k,(x,(y,k))∈ps:=by
 unfold edg
 rw[Ā]
 constructor
 ·rintro⟨⟨p,y',k⟩,hq,e⟩
  cases e
  exact⟨k,hq⟩
 ·rintro⟨k,h⟩
  exact⟨_,h,rfl⟩
def aG(m:IM):List Int:=m.map (·.1)
def jC{m:IM}{k:Int}:gn m k=true↔k∈aG m:=by
 unfold gn aG
 rw[List.any_eq_true,Ā]
 constructor
 ·rintro⟨p,hp,e⟩;exact⟨p,hp,of_decide_eq_true e⟩
 ·rintro⟨p,hp,e⟩;exact⟨p,hp,decide_eq_true e⟩
def Kr{m:IM}{k:Int}(h:gn m k=false):k∉aG m:=λz=>by rw[jC.mpr z] at h;cases h
def vo{m:IM}{k:Int}{d:D}(h:gn m k=false):qU m k d=m++[(k,d)]:=by
 unfold qU
 rw[h]
 rfl
inductive Cm(ps:List Put)(a:Int):IM->Prop
 |base:Cm ps a [(a,.none)]
 |snoc {m:IM}{x p k:Int} (h:Cm ps a m) (hp:p∈aG m) (hx:x∉aG m) (j:(p,(x,k))∈ps):Cm ps a (m++[(x,.tuple [.int p,.int k])])
structure Sr(n:Nat)(ps:List Put)(a:Int)(m:IM)(open':Int->Prop):Prop where
 im:Km m=true
 nd:(aG m).Nodup
 rng:∀x∈aG m,0<=x/\x<n
 st:a∈aG m
 rt:∀x∈aG m,Rt (edg ps) a x
 cl:∀x∈aG m,open' x\/∀b,(x,b)∈edg ps->b∈aG m
 cm:Cm ps a m
def Sr.few{n:Nat}{ps:List Put}{a:Int}{m:IM}{o:Int->Prop}(h:Sr n ps a m o):m.length<=n:=by
 have:=iM h.nd h.rng
 unfold aG at this
 rwa [Ä] at this
theorem Sr.all{n:Nat}{ps:List Put}{a:Int}{m:IM}(h:Sr n ps a m λ_=>False):∀x,gn m x=true↔Rt (edg ps) a x:=λx=>by
 rw[jC]
 refine⟨h.rt x,λr=>?_⟩
 induction r with
 |refl=>exact h.st
 |step r t ih=>exact(h.cl _ ih).elim Ũ λz=>z _ t
def Sr.add{n:Nat}{ps:List Put}{a x c k:Int}{m:IM}{o o':Int->Prop}(h:Sr n ps a m o)(jn:(x,(c,k))∈ps)(hx:x∈aG m)(hc:0<=c/\c<n)(nw:gn m c=false)(oo:∀y,o y->o' y)(oc:o' c):Sr n ps a (qU m c (.tuple [.int x,.int k])) o':=by
 have t:(x,c)∈edg ps:=jA.mpr ⟨k,jn⟩
 generalize hdd:ŋ [.int x,.int k]=d
 have hd:cL d=true:=by rw[←hdd];rfl
 have kk:aG (m++[(c,d)])=aG m++[c]:=by unfold aG;rw[ñ];rfl
 rw[vo nw]
 refine⟨?_,?_,?_,?_,?_,?_,by rw[←hdd];exact .snoc h.cm hx (Kr nw) jn⟩
 ·have:=h.im
  unfold Km at this ⊢
  rw[List.all_append,this]
  show(true&&(cL d&&true))=true
  rw[hd];rfl
 ·rw[kk]
  exact List.nodup_append.mpr ⟨h.nd,by simp,λy hy z hz=>by rw[Ë.mp hz];rintro rfl;exact Kr nw hy⟩
 ·rw[kk]
  intro y hy
  rcases à.mp hy with z|z
  ·exact h.rng y z
  ·rw[Ë.mp z];exact hc
 ·rw[kk];exact ú _ h.st
 ·rw[kk]
  intro y hy
  rcases à.mp hy with z|z
  ·exact h.rt y z
  ·rw[Ë.mp z];exact .step (h.rt x hx) t
 ·rw[kk]
  intro y hy
  rcases à.mp hy with z|z
  ·exact(h.cl y z).imp (oo y) λq b hb=>ú _ (q b hb)
  ·rw[Ë.mp z];exact .inl oc
def Sr.wk{n:Nat}{ps:List Put}{a:Int}{m:IM}{o o':Int->Prop}(h:Sr n ps a m o)(f:∀x∈aG m,o x->o' x\/∀b,(x,b)∈edg ps->b∈aG m):Sr n ps a m o' :=
 ⟨h.im,h.nd,h.rng,h.st,h.rt,λx hx=>(h.cl x hx).elim (f x hx) .inr,h.cm⟩
def visit(y:Int)(st:IM×List Int)(t:Tie):IM×List Int:=if gn st.1 t.1=true then st else (qU st.1 t.1 (.tuple [.int y,.int t.2]),st.2++[t.1])
def visits(ps:List Put)(st:IM×List Int)(y:Int):IM×List Int:=(rowOf ps y.toNat).foldl (visit y) st
def Gq(ps:List Put):Nat->IM->List Int->IM
 |0,m,_=>m
 |_+1,m,[]=>m
 |k+1,m,x::r=>Gq ps k ((x::r).foldl (visits ps) (m,[])).1 ((x::r).foldl (visits ps) (m,[])).2
def srM(n:Nat)(ps:List Put)(a:Int):IM:=Gq ps (2 * n+2) [(a,.none)] [a]
structure VI(n:Nat)(ps:List Put)(a:Int)(k:Nat)(R rest:List Int)(y:Int)(st:IM×List Int):Prop where
 sr:Sr n ps a st.1 (λz=>(z∈st.2\/z∈rest)\/z=y)
 row:∀z∈R,z∈aG st.1
 la:∀z∈st.2,z∈aG st.1
 len:st.1.length=k+st.2.length
 me:y∈aG st.1
def VI.one{n:Nat}{ps:List Put}{a:Int}{k:Nat}{R rest:List Int}{y:Int}{st:IM×List Int}(ok:PutsOk n ps)(h:VI n ps a k R rest y st){t:Tie}(ht:(y,t)∈ps):VI n ps a k R rest y (visit y st t)/\t.1∈aG (visit y st t).1/\∀z∈aG st.1,z∈aG (visit y st t).1:=by
 unfold visit
 cases hb:gn st.1 t.1 with
 |true =>
  rw[if_pos rfl]
  exact⟨h,jC.mp hb,λz hz=>hz⟩
 |false =>
  rw[if_neg Ó]
  have kk:aG (qU st.1 t.1 (.tuple [.int y,.int t.2]))=aG st.1++[t.1]:=by
   rw[vo hb];unfold aG;rw[ñ];rfl
  have sub:∀z∈aG st.1,z∈aG (qU st.1 t.1 (.tuple [.int y,.int t.2])):=λz hz=>by rw[kk];exact ú _ hz
  have own:t.1∈aG (qU st.1 t.1 (.tuple [.int y,.int t.2])):=by rw[kk];exact ç _ (Ë.mpr rfl)
  refine⟨⟨h.sr.add (x:=y) ht h.me (ok.rng _ ht).2 hb (λz hz=>?_) (.inl (.inl (ç _ (Ë.mpr rfl)))),λz hz=>sub z (h.row z hz),λz hz=>?_,?_,sub y h.me⟩,own,sub⟩
  ·rcases hz with (z|z)|z
   ·exact .inl (.inl (ú _ z))
   ·exact .inl (.inr z)
   ·exact .inr z
  ·rcases à.mp hz with z|z
   ·exact sub _ (h.la _ z)
   ·rw[Ë.mp z];exact own
  ·have:=h.len
   rw[vo hb,Í,Í]
   show st.1.length+1=k+(st.2.length+1)
   omega
theorem VI.many{n:Nat}{ps:List Put}{a:Int}{k:Nat}{R rest:List Int}{y:Int}(ok:PutsOk n ps):∀(ts:List Tie) {st:IM×List Int},(∀t∈ts,(y,t)∈ps)->VI n ps a k R rest y st->VI n ps a k R rest y (ts.foldl (visit y) st)/\(∀t∈ts,t.1∈aG (ts.foldl (visit y) st).1)/\∀z∈aG st.1,z∈aG (ts.foldl (visit y) st).1
 |[],st,_,h=>⟨h,(λt ht=>nomatch ht),λz hz=>hz⟩
 |t::ts,st,hp,h=>by
  obtain⟨h1,h2,h3⟩:=h.one ok (hp t Ñ)
  obtain⟨g1,g2,g3⟩:=VI.many ok ts (λu hu=>hp u (Ê _ hu)) h1
  refine⟨g1,λu hu=>?_,λz hz=>g3 z (h3 z hz)⟩
  rcases Ü.mp hu with rfl|hu
  ·exact g3 _ h2
  ·exact g2 u hu
structure WI(n:Nat)(ps:List Put)(a:Int)(k:Nat)(R rest:List Int)(st:IM×List Int):Prop where
 sr:Sr n ps a st.1 (λz=>z∈st.2\/z∈rest)
 row:∀z∈R,z∈aG st.1
 la:∀z∈st.2,z∈aG st.1
 len:st.1.length=k+st.2.length
def WI.into{n:Nat}{ps:List Put}{a:Int}{k:Nat}{R rest:List Int}{y:Int}{st:IM×List Int}(h:WI n ps a k R (y::rest) st)(hy:y∈R):VI n ps a k R rest y st:=⟨h.sr.wk λz _ hz=>.inl (by
 rcases hz with hz|hz
 ·exact .inl (.inl hz)
 ·rcases Ü.mp hz with e|e
  ·exact .inr e
  ·exact .inl (.inr e)),h.row,h.la,h.len,h.row y hy⟩
def Jj{ps:List Put}{y:Int}(y0:0<=y):∀t∈rowOf ps y.toNat,(y,t)∈ps:=λt ht=>by
 have:=Ez.mp ht
 rwa [show((y.toNat:Nat):Int)=y by omega] at this
def WI.next{n:Nat}{ps:List Put}{a:Int}{k:Nat}{R rest:List Int}{y:Int}{st:IM×List Int}(ok:PutsOk n ps)(h:WI n ps a k R (y::rest) st)(hy:y∈R):WI n ps a k R rest (visits ps st y):=by
 have yr:=h.sr.rng y (h.row y hy)
 obtain⟨g1,g2,g3⟩:=(h.into hy).many ok (rowOf ps y.toNat) (Jj yr.1)
 unfold visits
 refine⟨g1.sr.wk λz hz hz'=>?_,g1.row,g1.la,g1.len⟩
 rcases hz' with z'|z'
 ·exact .inl z'
 ·right
  intro b hb
  rw[z'] at hb
  obtain⟨k,hk⟩:=jA.mp hb
  refine g2 (b,k) (Ez.mpr ?_)
  rwa [show((y.toNat:Nat):Int)=y by omega]
theorem WI.many{n:Nat}{ps:List Put}{a:Int}{k:Nat}{R:List Int}(ok:PutsOk n ps):∀(l rest:List Int) {st:IM×List Int},(∀y∈l,y∈R)->WI n ps a k R (l++rest) st->WI n ps a k R rest (l.foldl (visits ps) st)
 |[],rest,st,_,h=>h
 |y::l,rest,st,hl,h=>WI.many ok l rest (λz hz=>hl z (Ê _ hz)) (h.next ok (hl y Ñ))
def WI.start{n:Nat}{ps:List Put}{a:Int}{m:IM}{R:List Int}(h:Sr n ps a m (·∈R))(hr:∀x∈R,x∈aG m):WI n ps a m.length R R (m,[]):=⟨h.wk λx _ hx=>.inl (.inr hx),hr,(λy hy=>nomatch hy),rfl⟩
def WI.at{n:Nat}{ps:List Put}{a:Int}{m:IM}{R:List Int}(ok:PutsOk n ps)(h:Sr n ps a m (·∈R))(hr:∀x∈R,x∈aG m)(i:Nat):WI n ps a m.length R (R.drop i) ((R.take i).foldl (visits ps) (m,[])) :=
 WI.many ok (R.take i) (R.drop i) (λy hy=>Ő hy) (by rw[ž];exact WI.start h hr)
def mes(n:Nat)(m:IM)(R:List Int):Nat:=2 * (n - m.length)+(if R=[] then 0 else 1)
def WI.less{n:Nat}{ps:List Put}{a:Int}{m:IM}{R:List Int}{st:IM×List Int}(h:WI n ps a m.length R [] st)(hR:R≠[]):mes n st.1 st.2<mes n m R:=by
 have few:=h.sr.few
 have len:=h.len
 unfold mes
 rw[if_neg hR]
 by_cases e:st.2=[]
 ·rw[e] at len
  rw[if_pos e]
  have len:st.1.length=m.length+0:=len
  omega
 ·rw[if_neg e]
  have:=Ĵ.mpr e
  omega
def WI.done{n:Nat}{ps:List Put}{a:Int}{m:IM}{R:List Int}{st:IM×List Int}(h:WI n ps a m.length R [] st):Sr n ps a st.1 (·∈st.2):=h.sr.wk λz _ hz=>.inl (hz.elim id λq=>nomatch q)
theorem DX{n:Nat}{ps:List Put}{a:Int}(ok:PutsOk n ps):∀(k:Nat) (m:IM) (R:List Int),mes n m R<=k->Sr n ps a m (·∈R)->(∀x∈R,x∈aG m)->Sr n ps a (Gq ps k m R) λ_=>False
 |k,m,[],_,h,_=>by
  have e:Gq ps k m []=m:=by cases k <;> rfl
  rw[e]
  exact h.wk λz _ hz=>nomatch hz
 |0,m,x::r,hk,_,_=>by
  unfold mes at hk
  rw[if_neg (λz=>nomatch z)] at hk
  omega
 |k+1,m,x::r,hk,h,hr=>by
  have W:=WI.at ok h hr (x::r).length
  rw[List.drop_length,Į] at W
  have l:=W.less (λz=>nomatch z)
  exact DX ok k _ _ (by omega) W.done W.la
def xW{n:Nat}{ps:List Put}{a:Int}(a0:0<=a)(a1:a<n):Sr n ps a [(a,.none)] (·∈[a]):=by
 refine⟨rfl,by simp[aG],λx hx=>?_,by simp[aG],λx hx=>?_,λx hx=>.inl ?_,.base⟩
 ·have e:x=a:=by simpa[aG] using hx
  omega
 ·have e:x=a:=by simpa[aG] using hx
  rw[e];exact .refl _
 ·have e:x=a:=by simpa[aG] using hx
  rw[e];exact Ë.mpr rfl
def uM(a:Int):∀x∈[a],x∈aG [(a,PyData.none)]:=λx hx=>by
 rw[Ë.mp hx]
 simp[aG]
def jU{n:Nat}{ps:List Put}{a:Int}(ok:PutsOk n ps)(a0:0<=a)(a1:a<n):Sr n ps a (srM n ps a) λ_=>False:=DX ok _ _ _ (by
 unfold mes
 rw[if_neg (λz=>nomatch z)]
 show 2 * (n - 1)+1<=2 * n+2
 omega) (xW a0 a1) (uM a)
def mH(ds:List D)(P:D->Prop):Prop:=∃n ps a,ds=[stD (stOf n ps),.int a]/\n<=100/\PutsOk n ps/\0<=a/\a<n/\P (.dict (kvD (srM n ps a)))
section
variable {P:Program}{w:World}{K:Ý}{mg:Str->Option Value}{base:Heap}{f:Addr}{fd:FuncData}
def uw:FnScope ["steps","start","came","row","later","place","step"] ["steps","start"] (ak (top 12)):=zC
def GJ(F:Fun K "search" "search" (top 12) f fd)(B:ī mg):FnOk P w K mg base CX0 1 f fd ["steps","start"] (spD mH):=by
 refine F.ok uw ė (λcdv A outer s H vs Q E hr h=>?_)
 have nd:=uw.nd
 refine⟨_,ó (È (å (some 0) (i:=2) nd rfl zQ (Wr.rD (Ã 1) ŧ))
  (È (å none (i:=3) nd rfl zQ (â (À (Ã 1) Á)))
  (È (Wr.jc þ (Wr.pU (Ã 3)) (È (å (some 1) (i:=4) nd rfl zQ (â Á))
  (È (ņ þ rfl (Ĺ (Ã 3)) (ã (i:=5) nd rfl zQ) (È (ņ þ rfl (Ĺ (Ì (Ã 0) (Ã 5))) (ã (i:=6) nd rfl zQ) (È (ā (Wr.fV hr.units (Ì (Ã 6) Å) (Ã 2)) (È (Wr.wL hr.units (č 2) (Ì (Ã 6) Å) (ë (À (Ã 5) (À (Ì (Ã 6) Å) Á))))
  (Ù (ń (č 4) (À (Ì (Ã 6) Å) Á)))) æ) (î [6] æ))) (î [5,6] æ)))
  (î [5,6] (Wr.CQ 4 (È (å none (i:=3) nd rfl zQ (Ã 4)) (î [4,5,6] æ)))))))
  (î [3,4,5,6] (Ù (ß (Ã 2))))))),aH h ?_⟩
 rintro ds P ⟨n,ps,a,rfl,n16,ok,a0,a1,q⟩
 refine⟨[.sh (stD (stOf n ps)),.im (.int a),.any,.any,.any,.any,.any],rfl,?_⟩
 refine⟨rfl,zK,?_⟩
 refine⟨λmm ρ=>∃(m:IM) (row:List Int) (fuel:Nat),ρ=[.sh (stD (stOf n ps)),.im (.int a),.dw 0 (.dict (kvD m)),.sn (iD row),.any,.any,.any]/\Sr n ps a m (·∈row)/\(∀x∈row,x∈aG m)/\mm=mes n m row/\mm<=fuel/\Gq ps fuel m row=srM n ps a,⟨_,[(a,.none)],[a],2 * n+2,rfl,xW a0 a1,uM a,rfl,?_,rfl⟩,?_⟩
 ·unfold mes
  rw[if_neg (λz=>nomatch z)]
  show 2 * (n - 1)+1<=2 * n+2
  omega
 rintro mm ρ ⟨m,R,fuel,rfl,h,hr,rfl,hf,e⟩
 show if (!(R.map Â).isEmpty)=true then _ else _
 cases hR:R with
 |nil =>
  subst hR
  refine aC (A:=True) ⟨rfl,?_⟩
  have e2:Gq ps fuel m []=m:=by cases fuel <;> rfl
  rw[e2] at e
  rw[e]
  exact q
 |cons x0 R0 =>
  refine aA (B:=True) ?_
  rw[←hR]
  have hne:R≠[]:=by rw[hR];exact λz=>nomatch z
  refine⟨by decide,rfl,λ(i:Nat) ρ=>∃st:IM×List Int,st=(R.take i).foldl (visits ps) (m,[])/\ρ=[.sh (stD (stOf n ps)),.im (.int a),.dw 0 (.dict (kvD st.1)),.sn (iD R),.dw 1 (iD st.2),.any,.any],⟨(m,[]),rfl,rfl⟩,?_,?_⟩
  ·rintro i d ρ hd ⟨st,hst,rfl⟩
   obtain⟨y,hy,rfl⟩:=gb hd
   have ym:=Ð hy
   have W:=WI.at ok h hr i
   rw[←hst] at W
   have dr:R.drop i=y::R.drop (i+1):=by
    have hi:=(Ç.mp hy).1
    rw[Ţ hi,(Ç.mp hy).2]
   rw[dr] at W
   have V:=W.into ym
   have yr:=W.sr.rng y (W.row y ym)
   have fl:=lg ps y.toNat
   have fl2:=ok.few
   have eat:atI ((stOf n ps).map λts=>Ć (ts.map pD)) y=some (.list ((rowOf ps y.toNat).map pD)):=by
    have:=bK (xs:=(stOf n ps).map λts=>Ć (ts.map pD)) (j:=y.toNat) (v:=.list ((rowOf ps y.toNat).map pD)) (by rw[Û,vd ps (by omega)];rfl)
    rwa [show((y.toNat:Nat):Int)=y by omega] at this
   have tk:R.take (i+1)=R.take i++[y]:=by rw[Ķ,hy];rfl
   refine⟨.list ((rowOf ps y.toNat).map pD),eat,rfl,λ(j:Nat) ρ=>∃s2:IM×List Int,s2=((rowOf ps y.toNat).take j).foldl (visit y) st/\ρ=[.sh (stD (stOf n ps)),.im (.int a),.dw 0 (.dict (kvD s2.1)),.sn (iD R),.dw 1 (iD s2.2),.im (.int y),.any],⟨st,rfl,rfl⟩,?_,?_⟩
   ·rintro j d ρ hd ⟨s2,hs2,rfl⟩
    obtain⟨t,ht,rfl⟩:=gb hd
    have tj:(rowOf ps y.toNat).take (j+1)=(rowOf ps y.toNat).take j++[t]:=by rw[Ķ,ht];rfl
    have V2:=(V.many ok ((rowOf ps y.toNat).take j) λu hu=>Jj yr.1 u (Ő hu)).1
    rw[←hs2] at V2
    have few2:=V2.sr.few
    have len2:=V2.len
    have nx:visit y s2 t=((rowOf ps y.toNat).take (j+1)).foldl (visit y) st:=by rw[tj,List.foldl_append,←hs2];rfl
    refine⟨.int t.1,rfl,s2.1,rfl,?_⟩
    show if (!gn s2.1 t.1)=true then _ else _
    unfold visit at nx
    cases hb:gn s2.1 t.1 with
    |true =>
     rw[hb,if_pos rfl] at nx
     exact aC (A:=True) ⟨s2,nx,rfl⟩
    |false =>
     rw[hb,if_neg Ó] at nx
     have ll:(s2.2.map Â).length=s2.2.length:=Ä ..
     refine aA (B:=True) ⟨.int t.2,rfl,zK,.int t.1,rfl,s2.1,rfl,rfl,V2.sr.im,by omega,.int t.1,rfl,rfl,by omega,_,nx,?_⟩
     unfold iD
     rw[ñ]
     rfl
   ·rintro ρ ⟨s2,hs2,rfl⟩
    rw[Ä,Į] at hs2
    refine⟨s2,?_,rfl⟩
    rw[tk,List.foldl_append,←hst,hs2]
    rfl
  ·rintro ρ ⟨st,hst,rfl⟩
   rw[Ä] at hst
   have W:=WI.at ok h hr R.length
   rw[←hst,List.drop_length] at W
   have less:=W.less hne
   rw[Į] at hst
   refine⟨rfl,mes n st.1 st.2,less,st.1,st.2,fuel - 1,rfl,W.done,W.la,rfl,by omega,?_⟩
   cases fuel with
   |zero=>omega
   |succ k =>
    rw[hst,←e,hR]
    rfl
end
inductive Wy(ws:List Put)(a:Int):List Int->List Int->Int->Prop
 |one:Wy ws a [a] [] a
 |step {ps ks:List Int}{p x k:Int} (h:Wy ws a ps ks p) (hx:x∉ps) (j:(p,(x,k))∈ws):Wy ws a (ps++[x]) (ks++[k]) x
inductive TR(m:IM):List Int->List Int->Int->Prop
 |one {a:Int} (h:mF m a=some .none):TR m [a] [] a
 |step {ps ks:List Int}{p x k:Int} (h:TR m ps ks p) (g:mF m x=some (.tuple [.int p,.int k])):TR m (ps++[x]) (ks++[k]) x
def zq{m:IM}{x:Int}{e:D}{q:Int×D}(h:mF m x=some e):mF (m++[q]) x=some e:=by
 unfold mF at h ⊢
 rw[List.find?_append]
 cases hf:m.find? λp=>decide (p.1=x) with
 |none=>rw[hf] at h;cases h
 |some z=>rw[hf] at h;exact h
def Oo{m:IM}{y:Int}{d:D}(hx:y∉aG m):mF (m++[(y,d)]) y=some d:=by
 unfold mF
 have hf:(m.find? λp=>decide (p.1=y))=none:=List.find?_eq_none.mpr λp hp z=>hx (Ā.mpr ⟨p,hp,of_decide_eq_true z⟩)
 rw[List.find?_append,hf]
 show((List.find? (λp=>decide (p.1=y)) [(y,d)])).map (·.2)=some d
 rw[List.find?_cons_of_pos (by exact decide_eq_true rfl)]
 rfl
def TR.snoc{m:IM}{q:Int×D}{ps ks:List Int}{x:Int}(h:TR m ps ks x):TR (m++[q]) ps ks x:=by
 induction h with
 |one h=>exact .one (zq h)
 |step _ g ih=>exact .step ih (zq g)
def Cm.tr{ws:List Put}{a:Int}{m:IM}(h:Cm ws a m):∀x∈aG m,∃ps ks,Wy ws a ps ks x/\TR m ps ks x/\(∀y∈ps,y∈aG m)/\ps.length<=m.length/\ks.length<=m.length:=by
 induction h with
 |base =>
  intro x hx
  have e:x=a:=by simpa[aG] using hx
  subst e
  exact⟨[x],[],.one,.one (by unfold mF;rw[List.find?_cons_of_pos (by exact decide_eq_true rfl)];rfl),λy hy=>by rw[Ë.mp hy];simp[aG],Ô _,ü _⟩
 |@snoc m x0 p k h hp hx j ih =>
  have kk:aG (m++[(x0,.tuple [.int p,.int k])])=aG m++[x0]:=by unfold aG;rw[ñ];rfl
  intro x hxm
  rw[kk] at hxm
  rcases à.mp hxm with z|z
  ·obtain⟨ps,ks,w,t,hs,l1,l2⟩:=ih x z
   exact⟨ps,ks,w,t.snoc,λy hy=>by rw[kk];exact ú _ (hs y hy),by rw[Í];omega,by rw[Í];omega⟩
  ·rw[Ë.mp z]
   obtain⟨ps,ks,w,t,hs,l1,l2⟩:=ih p hp
   refine⟨ps++[x0],ks++[k],.step w (λq=>hx (hs _ q)) j,.step t.snoc (Oo hx),λy hy=>?_,by rw[Í,Í];simpa using l1,by rw[Í,Í];simpa using l2⟩
   rw[kk]
   rcases à.mp hy with q|q
   ·exact ú _ (hs y q)
   ·exact ç _ q
def TR.val{m:IM}{ps ks:List Int}{x:Int}(h:TR m ps ks x):∃d,mF m x=some d/\((d=.none/\ps=[x]/\ks=[])\/∃ps' ks' p k,d=.tuple [.int p,.int k]/\ps=ps'++[x]/\ks=ks'++[k]/\TR m ps' ks' p):=by
 cases h with
 |one h=>exact⟨_,h,.inl ⟨rfl,rfl,rfl⟩⟩
 |step h g=>exact⟨_,g,.inr ⟨_,_,_,_,rfl,rfl,rfl,h⟩⟩
def TR.uniq{m:IM}{ps ks:List Int}{x:Int}(h:TR m ps ks x):∀{ps' ks':List Int},TR m ps' ks' x->ps=ps'/\ks=ks':=by
 induction h with
 |one h =>
  intro ps' ks' h'
  cases h' with
  |one _=>exact⟨rfl,rfl⟩
  |step _ g=>rw[h] at g;cases g
 |step _ g ih =>
  intro ps' ks' h'
  cases h' with
  |one h=>rw[g] at h;cases h
  |step h2 g2 =>
   rw[g] at g2
   cases g2
   obtain⟨rfl,rfl⟩:=ih h2
   exact⟨rfl,rfl⟩
open Classical in
def trO(m:IM)(g:Int):Option (List Int×List Int):=if h:∃r:List Int×List Int,TR m r.1 r.2 g then some h.choose else none
def Dv{m:IM}{g:Int}{ps ks:List Int}(h:TR m ps ks g):trO m g=some (ps,ks):=by
 have e:∃r:List Int×List Int,TR m r.1 r.2 g:=⟨(ps,ks),h⟩
 unfold trO
 rw[dif_pos e]
 obtain⟨h1,h2⟩:=h.uniq e.choose_spec
 exact congrArg some (Prod.ext h1.symm h2.symm)
def Dw{m:IM}{g:Int}(h:gn m g=false):trO m g=none:=by
 unfold trO
 refine dif_neg λ⟨r,hr⟩=>?_
 obtain⟨d,hd,_⟩:=hr.val
 unfold mF at hd
 cases hf:m.find? λp=>decide (p.1=g) with
 |none=>rw[hf] at hd;cases hd
 |some z =>
  have h1:=List.mem_of_find?_eq_some hf
  have h2:=List.find?_some hf
  have:gn m g=true:=List.any_eq_true.mpr ⟨z,h1,h2⟩
  rw[this] at h
  cases h
def cT:Option (List Int×List Int)->D
 |none=>.none
 |some r=>.tuple [iD r.1,iD r.2]
def bU(n:Nat)(ps:List Put)(a g:Int):Option (List Int×List Int):=trO (srM n ps a) g
def cW{n:Nat}{ps:List Put}{a g:Int}(ok:PutsOk n ps)(a0:0<=a)(a1:a<n)(r:Rt (edg ps) a g):∃P K,bU n ps a g=some (P,K)/\Wy ps a P K g/\P.length<=n/\K.length<=n:=by
 have S:=jU ok a0 a1
 obtain⟨P,K,W,T,_,l1,l2⟩:=S.cm.tr g (jC.mp ((S.all g).mpr r))
 have few:=S.few
 exact⟨P,K,Dv T,W,by omega,by omega⟩
def GF{n:Nat}{ps:List Put}{a g:Int}(ok:PutsOk n ps)(a0:0<=a)(a1:a<n)(r:¬Rt (edg ps) a g):bU n ps a g=none:=Dw (by
 have S:=jU ok a0 a1
 rw[Bool.eq_false_iff]
 exact λz=>r ((S.all g).mp z))
def aJ(us:List Tie):List Put:=us.zipIdx.flatMap λp=>[(p.1.1,(p.1.2,((p.2:Nat):Int))),(p.1.2,(p.1.1,((p.2:Nat):Int)))]
def Bf{us:List Tie}{i:Nat}{t:Tie}(h:us[i]?=some t):aJ (us.take (i+1))=aJ (us.take i)++[(t.1,(t.2,((i:Nat):Int)))]++[(t.2,(t.1,((i:Nat):Int)))]:=by
 have hi:=(Ç.mp h).1
 have tk:us.take (i+1)=us.take i++[t]:=by rw[Ķ,h];rfl
 unfold aJ
 rw[tk,List.zipIdx_append,List.flatMap_append,ě,Nat.min_eq_left (by omega),List.append_assoc,Nat.zero_add]
 rfl
def cG{us:List Tie}{p x k:Int}:(p,(x,k))∈aJ us↔∃j:Nat,k=((j:Nat):Int)/\(us[j]?=some (p,x)\/us[j]?=some (x,p)):=by
 unfold aJ
 rw[List.mem_flatMap]
 constructor
 ·rintro⟨⟨t,j⟩,ht,hm⟩
  have ht:us[j]?=some t:=ÿ.mp ht
  simp only[Ü,ý,or_false,Prod.mk.injEq] at hm
  rcases hm with ⟨rfl,rfl,rfl⟩|⟨rfl,rfl,rfl⟩
  ·exact⟨j,rfl,.inl ht⟩
  ·exact⟨j,rfl,.inr ht⟩
 ·rintro⟨j,rfl,e|e⟩
  ·exact⟨((p,x),j),ÿ.mpr e,by simp⟩
  ·exact⟨((x,p),j),ÿ.mpr e,by simp⟩
theorem u9{α β:Type}(f g:α->β):∀l:List α,(l.flatMap λp=>[f p,g p]).length=2 * l.length
 |[]=>rfl
 |x::l=>by
  rw[List.flatMap_cons,Í,u9 f g l]
  show 2+2 * l.length=2 * (l.length+1)
  omega
def uD(us:List Tie):(aJ us).length=2 * us.length:=by
 unfold aJ
 rw[u9,List.length_zipIdx]
def iB{n:Int}{us:List Tie}(n0:0<=n)(lu:us.length<=100)(ok:OkN n us):PutsOk n.toNat (aJ us):=by
 refine⟨by rw[uD];omega,λq hq=>?_⟩
 obtain⟨p,x,k⟩:=q
 obtain⟨j,_,e|e⟩:=cG.mp hq
 ·obtain⟨⟨h1,h2⟩,⟨h3,h4⟩,_⟩:=ok _ (Ð e)
  dsimp only at *
  omega
 ·obtain⟨⟨h1,h2⟩,⟨h3,h4⟩,_⟩:=ok _ (Ð e)
  dsimp only at *
  omega
def uR{us:List Tie}{x y:Int}:(x,y)∈edg (aJ us)↔(x,y)∈adj us [] []:=by
 rw[jA,Gh]
 constructor
 ·rintro⟨k,h⟩
  obtain⟨j,_,e|e⟩:=cG.mp h
  ·exact .inl (Ð e)
  ·exact .inr (Ð e)
 ·rintro(e|e)
  ·obtain⟨j,hj⟩:=ő e
   exact⟨_,cG.mpr ⟨j,rfl,.inl hj⟩⟩
  ·obtain⟨j,hj⟩:=ő e
   exact⟨_,cG.mpr ⟨j,rfl,.inr hj⟩⟩
def qQ{us:List Tie}{x y:Int}:Rt (edg (aJ us)) x y↔Rt (adj us [] []) x y:=⟨Rt.mono λ⟨_,_⟩ h=>uR.mp h,Rt.mono λ⟨_,_⟩ h=>uR.mpr h⟩
def wH(ds:List D)(P:D->Prop):Prop:=∃(ws:List Put) (a:Int) (m:IM) (g:Int),ds=[.dict (kvD m),.int g]/\Cm ws a m/\m.length<=100/\P (cT (trO m g))
def Cw(ds:List D)(P:D->Prop):Prop:=∃n us,ds=[au n us]/\0<=n/\n<=100/\us.length<=100/\OkN n us/\P (stD (stOf n.toNat (aJ us)))
def zM(ds:List D)(P:D->Prop):Prop:=∃n us a,ds=[au n us,.int a]/\0<=n/\n<=60/\us.length<=100/\OkN n us/\0<=a/\a<n/\P (iD (rsI (adj us [] []) n.toNat a))
def Vm(ds:List D)(P:D->Prop):Prop:=∃n us a b,ds=[au n us,.int a,.int b]/\0<=n/\n<=60/\us.length<=100/\OkN n us/\0<=a/\a<n/\0<=b/\b<n/\P (cT (bU n.toNat (aJ us) a b))
def K7(ds:List D)(P:D->Prop):Prop:=∃n us d,ds=[au n us,d]/\P (.bool (aM n d))
def K6(ds:List D)(P:D->Prop):Prop:=∃n us d,ds=[au n us,d]/\P (.bool (aM (us.length:Nat) d))
def OJ(ds:List D)(P:D->Prop):Prop:=∃n us i,ds=[au n us,.int i]/\0<=i/\i<n/\P .none
def Tc(ds:List D)(P:D->Prop):Prop:=∃n us i j,ds=[au n us,.int i,.int j]/\0<=i/\i<n/\0<=j/\j<n/\i≠j/\P .none
section
variable {P:Program}{w:World}{K:Ý}{mg:Str->Option Value}{base:Heap}{f:Addr}{fd:FuncData}{CN:Addr}
def xY:FnScope ["came","goal","places","ties","step"] ["came","goal"] (ak (top 13)):=zC
def JR(F:Fun K "trace" "trace" (top 13) f fd)(B:ī mg)(bh:mg "reversed"=none):FnOk P w K mg base CX0 1 f fd ["came","goal"] (spD wH):=by
 refine F.ok xY ė (λcdv A outer s H vs Q E hr h=>?_)
 have nd:=xY.nd
 refine⟨_,ó (È (ā (Wr.fV hr.units (Ã 1) (Ã 0)) (Ù (ß ŧ)) æ)
  (È (å (some 0) (i:=2) nd rfl zQ (â (À (Ã 1) Á)))
  (È (å (some 1) (i:=3) nd rfl zQ (â Á))
  (È (å none (i:=4) nd rfl zQ (Wr.qb hr.units (Ã 0) (Ã 1)))
  (È (Wr.jc þ (Wr.jW (Ã 4) ŧ) (È (ń (č 2) (À (Ì (Ã 4) Å) Á))
  (È (ń (č 3) (À (Ì (Ã 4) Å) Á))
  (Ù (å none (i:=4) nd rfl zQ (Wr.qb hr.units (Ã 0) (Ì (Ã 4) Å)))))))
  (î [4] (Ù (ß (ë (À (Wr.fW rfl B.list bh (À (Ã 2) Á)) (À (Wr.fW rfl B.list bh (À (Ã 3) Á)) Á))))))))))),aH h ?_⟩
 rintro ds P ⟨ws,a,m,g,rfl,C,lm,qq⟩
 refine⟨[.sh (.dict (kvD m)),.im (.int g),.any,.any,.any],rfl,m,rfl,?_⟩
 show if (!gn m g)=true then _ else _
 cases hb:gn m g with
 |false=>exact aA (B:=True) ⟨rfl,by rw[Dw hb] at qq;exact qq⟩
 |true =>
  obtain⟨ps,ks,W,T,_,l1,l2⟩:=C.tr g (jC.mp hb)
  have q:P (.tuple [iD ps,iD ks]):=by rw[Dv T] at qq;exact qq
  obtain⟨d0,hg0,hv0⟩:=T.val
  have im0:∀k,norm k d0=.imm:=λk=>by
   rcases hv0 with ⟨rfl,_⟩|⟨_,_,p,k2,rfl,_⟩
   ·exact aU rfl
   ·exact aU rfl
  refine aC (A:=True) ⟨zK,zK,m,d0,rfl,hg0,?_⟩
  show Dc 4 none (λ_ P=>P (norm .shr d0) d0) _ _
  unfold Dc
  simp only[im0]
  show wR _ _ _ [.sh (.dict (kvD m)),.im (.int g),.dw 0 (iD [g]),.dw 1 (iD []),.im d0]
  refine⟨λmm ρ=>∃(c:Int) (p1 k1 S T:List Int) (d:D),ρ=[.sh (.dict (kvD m)),.im (.int g),.dw 0 (iD (S.reverse++[c])),.dw 1 (iD T.reverse),.im d]/\TR m p1 k1 c/\mF m c=some d/\p1++S=ps/\k1++T=ks/\mm=p1.length,⟨_,g,ps,ks,[],[],d0,rfl,T,hg0,Ŗ _,Ŗ _,rfl⟩,?_⟩
  rintro mm ρ ⟨c,p1,k1,S,T',d,rfl,t,hg,e1,e2,rfl⟩
  have L1:(S.reverse++[c]).length<=101:=by
   have h1:=congrArg List.length e1
   rw[Í] at h1
   rw[Í,ĳ,è]
   omega
  have L2:T'.reverse.length<=100:=by
   have h1:=congrArg List.length e2
   rw[Í] at h1
   rw[ĳ]
   omega
  obtain⟨d2,hg2,hv⟩:=t.val
  rw[hg] at hg2
  cases hg2
  rcases hv with ⟨rfl,rfl,rfl⟩|⟨p',k',p,k,rfl,rfl,rfl,t'⟩
  ·have r1:((S.reverse++[c]).map Â).reverse=ps.map Â:=by
    rw[←List.map_reverse,List.reverse_append,List.reverse_reverse,←e1]
    rfl
   have r2:(T'.reverse.map Â).reverse=ks.map Â:=by
    rw[←List.map_reverse,List.reverse_reverse,←e2]
    rfl
   refine aC (A:=True) (.inl ⟨by rw[r1];exact bA _,.inl ⟨by rw[r2];exact bA _,zK,rfl,?_⟩⟩)
   show P (.tuple [.list ((S.reverse++[c]).map Â).reverse,.list (T'.reverse.map Â).reverse])
   rw[r1,r2]
   exact q
  ·obtain⟨d3,hg3,hv3⟩:=t'.val
   have im3:∀k,norm k d3=.imm:=λk=>by
    rcases hv3 with ⟨rfl,_⟩|⟨_,_,_,_,rfl,_⟩
    ·exact aU rfl
    ·exact aU rfl
   refine aA (B:=True) ⟨.int p,rfl,rfl,by rw[Ä];omega,.int k,rfl,rfl,by rw[Ä];omega,.int p,rfl,m,d3,rfl,hg3,?_⟩
   simp only[im3]
   refine⟨p'.length,by rw[Í,è];omega,p,p',k',c::S,k::T',d3,?_,t',hg3,by rw[←e1,List.append_assoc];rfl,by rw[←e2,List.append_assoc];rfl,rfl⟩
   have r1:(S.reverse++[c]).map Â++[Â p]=((c::S).reverse++[p]).map Â:=by
    rw[List.reverse_cons,ñ (l₂:=[p])]
    rfl
   have r2:T'.reverse.map Â++[Â k]=(k::T').reverse.map Â:=by
    rw[List.reverse_cons,ñ]
    rfl
   show([_,_,Sl.dw 0 (.list ((S.reverse++[c]).map Â++[Â p])),Sl.dw 1 (.list (T'.reverse.map Â++[Â k])),_]:List Sl)=[_,_,Sl.dw 0 (.list (((c::S).reverse++[p]).map Â)),Sl.dw 1 (.list ((k::T').reverse.map Â)),_]
   rw[r1,r2]
   rfl
def sc4:FnScope ["thing"] ["thing"] (ak (top 4)):=zC
def JQ(F:Fun K "is_whole" "is_whole" (top 4) f fd)(B:ī mg):FnOk P w K mg base CX0 1 f fd ["thing"] (spD Cv):=by
 refine F.ok sc4 ė (λcdv A outer s H vs Q E hr h=>?_)
 refine⟨_,oh (n8 (rE (fH Fo B.isinstance (dv 0) (vA (v:=.ty "int") rfl B.int boot_int rfl)) (rA (vN (fH sG B.isinstance (dv 0) (vA (v:=.ty "bool") rfl B.bool boot_bool rfl)))))),wI h ?_⟩
 rintro ds P ⟨d,rfl,q⟩
 unfold Dd DN tIs
 refine Am (d:=d) rfl λk=>?_
 cases d <;> exact⟨rfl,q⟩
def sc5:FnScope ["limit","thing"] ["limit","thing"] (ak (top 5)):=zC
def JV(F:Fun K "is_below" "is_below" (top 5) f fd)(W:í P w K mg base 1 "is_whole" ["thing"] (spD Cv)):FnOk P w K mg base CX0 2 f fd ["limit","thing"] (spD Cy):=by
 refine F.ok sc5 ė (λcdv A outer s H vs Q E hr h=>?_)
 refine⟨_,oh (n8 (rE (dc W hr (dD (dv 1) jx)) (rA (Nm iH (dv 1) (dv 0))))),wI h ?_⟩
 rintro ds P ⟨m,d,rfl,q⟩
 unfold Dd DN tFn bO
 refine Am (d:=d) rfl λk=>⟨d,rfl,?_⟩
 cases d with
 |int i =>
  have e:P (.bool (decide (0<=i/\i<m))):=q
  by_cases h0:(0:Int)<=i
  ·show if decide ((0:Int)<=i)=true then _ else _
   rw[decide_eq_true h0]
   refine aA (B:=True) ⟨rfl,?_⟩
   have e2:decide (0<=i/\i<m)=decide (i<m):=by simp[h0]
   rw[e2] at e
   exact e
  ·show if decide ((0:Int)<=i)=true then _ else _
   rw[decide_eq_false h0]
   refine aC (A:=True) ⟨rfl,?_⟩
   have e2:decide (0<=i/\i<m)=false:=by simp[h0]
   rw[e2] at e
   exact e
 |_=>exact⟨rfl,q⟩
def oV:FnScope ["web","thing"] ["web","thing"] (ak (top 6)):=zC
def yJ(F:Fun K "is_place" "is_place" (top 6) f fd)(B:ī mg)(aS:í P w K mg base 2 "is_below" ["limit","thing"] (spD Cy)):FnOk P w K mg base CX0 3 f fd ["web","thing"] (spD K7):=by
 refine F.ok oV ė (λcdv A outer s H vs Q E hr h=>?_)
 have nd:=oV.nd
 refine⟨_,ó (Ù (ß (Ă aS hr (À (Ì (Ã 0) Å) (À (Ã 1) Á))))),aH h ?_⟩
 rintro ds P ⟨n,us,d,rfl,q⟩
 refine⟨[.im (au n us),aF d],by show [aF (au n us),aF d]=_;rw[ķ],?_⟩
 refine⟨.int n,rfl,?_⟩
 refine Am rfl λk=>⟨n,d,rfl,?_⟩
 exact⟨rfl,q⟩
def fB:FnScope ["web","thing"] ["web","thing"] (ak (top 7)):=zC
def nG(F:Fun K "is_tie_number" "is_tie_number" (top 7) f fd)(B:ī mg)(aS:í P w K mg base 2 "is_below" ["limit","thing"] (spD Cy)):FnOk P w K mg base CX0 3 f fd ["web","thing"] (spD K6):=by
 refine F.ok fB ė (λcdv A outer s H vs Q E hr h=>?_)
 have nd:=fB.nd
 refine⟨_,ó (Ù (ß (Ă aS hr (À (Ĝ B.len (À (Ì (Ã 0) Å) Á)) (À (Ã 1) Á))))),aH h ?_⟩
 rintro ds P ⟨n,us,d,rfl,q⟩
 refine⟨[.im (au n us),aF d],by show [aF (au n us),aF d]=_;rw[ķ],?_⟩
 rcases aY d with e|e
 all_goals
  rw[e]
  refine⟨.tuple (us.map pD),rfl,_,d,rfl,?_⟩
  rw[Ä]
  exact⟨rfl,q⟩
def iy:FnScope ["web","thing"] ["web","thing"] (ak (top 8)):=zC
def rO(F:Fun K "check_place" "check_place" (top 8) f fd)(B:ī mg)(aT:í P w K mg base 3 "is_place" ["web","thing"] (spD K7)):FnOk P w K mg base CX0 4 f fd ["web","thing"] (spD OJ):=by
 refine F.ok iy ė (λcdv A outer s H vs Q E hr h=>?_)
 have nd:=iy.nd
 refine⟨_,ó (Ù (ā (Ď (Đ (Ă aT hr (À (Ã 0) (À (Ã 1) Á))))) (Ù Wr.mK) æ)),aH h ?_⟩
 rintro ds P ⟨n,us,i,rfl,h0,h1,q⟩
 refine⟨[.im (au n us),.im (.int i)],by show [aF (au n us),.im (.int i)]=_;rw[ķ],?_⟩
 refine⟨n,us,.int i,rfl,?_⟩
 show if (!aM n (.int i))=true then _ else _
 rw[show aM n (.int i)=true from decide_eq_true ⟨h0,h1⟩]
 exact aC (A:=True) q
def dN:FnScope ["web","a","b"] ["web","a","b"] (ak (top 9)):=zC
def jK(F:Fun K "check_two_places" "check_two_places" (top 9) f fd)(B:ī mg)(ae:í P w K mg base 4 "check_place" ["web","thing"] (spD OJ)):FnOk P w K mg base CX0 5 f fd ["web","a","b"] (spD Tc):=by
 refine F.ok dN ė (λcdv A outer s H vs Q E hr h=>?_)
 have nd:=dN.nd
 refine⟨_,ó (È (Wr.dB (Ă ae hr (À (Ã 0) (À (Ã 1) Á))))
  (È (Wr.dB (Ă ae hr (À (Ã 0) (À (Ã 2) Á))))
  (Ù (ā (Ĩ hr.units (Ã 1) (Ã 2)) (Ù Wr.mK) æ)))),aH h ?_⟩
 rintro ds P ⟨n,us,i,j,rfl,h0,h1,h2,h3,ne,q⟩
 refine⟨[.im (au n us),.im (.int i),.im (.int j)],by show [aF (au n us),.im (.int i),.im (.int j)]=_;rw[ķ],?_⟩
 refine⟨n,us,i,rfl,h0,h1,n,us,j,rfl,h2,h3,?_⟩
 show if decide (i=j)=true then _ else _
 rw[decide_eq_false ne]
 exact aC (A:=True) q
def gG:FnScope ["web","steps","number","tie"] ["web"] (ak (top 11)):=zC
def lQ:(["place","web","steps","number","tie"]:List Str).Nodup:=by decide +kernel
def pG(F:Fun K "steps_of_web" "steps_of_web" (top 11) f fd)(B:ī mg)(ad:mg "enumerate"=none):FnOk P w K mg base CX0 1 f fd ["web"] (spD Cw):=by
 refine F.ok gG ė (λcdv A outer s H vs Q E hr h=>?_)
 have nd:=gG.nd
 refine⟨_,ó (È (Wr.je 0 ["place"] (i:=1) rfl nd rfl zQ (Ņ B.range (À (Ì (Ã 0) Å) Á)) (λc=>(ã (i:=0) lQ rfl zQ)))
  (È (ņ þ rfl (Wr.mO ad (À (Ì (Ã 0) Å) Á)) (Wr.cZ (n:=2) rfl (đ (ã (i:=2) nd rfl zQ) (đ (ã (i:=3) nd rfl zQ) ŭ))) (È (Wr.cY (č 1) (Ì (Ã 3) Å) (À (ë (À (Ì (Ã 3) Å) (À (Ã 2) Á))) Á))
  (È (Wr.cY (č 1) (Ì (Ã 3) Å) (À (ë (À (Ì (Ã 3) Å) (À (Ã 2) Á))) Á)) (î [2,3] æ))))
  (î [2,3] (Ù (ß (Ã 1)))))),aH h ?_⟩
 rintro ds P ⟨n,us,rfl,n1,n16,lu,ok,q⟩
 refine⟨[.im (au n us),.any,.any,.any],?_,?_⟩
 ·show [aF (au n us),.any,.any,.any]=_
  rw[ķ]
 refine⟨.int n,rfl,⟨by omega,by omega⟩,by rw[bW];omega,rfl,?_⟩
 rw[bW]
 refine⟨.tuple (us.map pD),rfl,rfl,λ(i:Nat) ρ=>ρ=[.im (au n us),.rw 0 (rP (stOf n.toNat (aJ (us.take i)))),.any,.any],?_,?_,?_⟩
 ·show [_,Sl.rw 0 (Ú n.toNat []),_,_]=[_,Sl.rw 0 (rP (stOf n.toNat [])),_,_]
  rw[Aw]
  unfold rP
  rw[List.map_replicate]
  rfl
 ·rintro i d ρ hd rfl
  rw[cX,Û] at hd
  obtain⟨t,ht,rfl⟩:∃t,us[i]?=some t/\ŋ [.int ((i:Nat):Int),pD t]=d:=by
   cases e:us[i]? with
   |none=>rw[e] at hd;cases hd
   |some t=>rw[e] at hd;exact⟨t,rfl,Ø hd⟩
  obtain⟨⟨o1,o2⟩,⟨o3,o4⟩,o5⟩:=ok t (Ð ht)
  have hi:=(Ç.mp ht).1
  have l1:(aJ (us.take i)).length<=200:=by rw[uD,ě];omega
  have r1:=lg (aJ (us.take i)) t.1.toNat
  have r2:=lg (aJ (us.take i)++[(t.1,(t.2,((i:Nat):Int)))]) t.2.toNat
  rw[Í,è] at r2
  have s1:=lA (n:=n.toNat) (ps:=aJ (us.take i)) (q:=(t.1,(t.2,((i:Nat):Int)))) ⟨o1,by show t.1<_;omega⟩
  have s2:=lA (n:=n.toNat) (ps:=aJ (us.take i)++[(t.1,(t.2,((i:Nat):Int)))]) (q:=(t.2,(t.1,((i:Nat):Int)))) ⟨o3,by show t.2<_;omega⟩
  rw[←s1] at s2
  refine⟨rfl,.int t.1,rfl,t.1.toNat,(rowOf (aJ (us.take i)) t.1.toNat).map pD,?_,qT _ (by omega),.int t.2,rfl,zK,rfl,by rw[Ä];omega,.int t.2,rfl,?_⟩
  ·unfold ixN rP
   rw[if_pos o1,if_pos (by rw[Ä,fP];omega)]
  refine⟨t.2.toNat,(rowOf (aJ (us.take i)++[(t.1,(t.2,((i:Nat):Int)))]) t.2.toNat).map pD,?_,?_,.int t.1,rfl,zK,rfl,by rw[Ä];omega,?_⟩
  ·unfold ixN rP
   rw[if_pos o3,if_pos (by rw[Ż,Ä,fP];omega)]
  ·have:=qT (n:=n.toNat) (aJ (us.take i)++[(t.1,(t.2,((i:Nat):Int)))]) (p:=t.2.toNat) (by omega)
   rw[←s1] at this
   exact this
  ·show [Sl.im (au n us),Sl.rw 0 (((rP (stOf n.toNat (aJ (us.take i)))).set t.1.toNat ((rowOf (aJ (us.take i)) t.1.toNat).map pD++[pD (t.2,((i:Nat):Int))])).set t.2.toNat ((rowOf (aJ (us.take i)++[(t.1,(t.2,((i:Nat):Int)))]) t.2.toNat).map pD++[pD (t.1,((i:Nat):Int))])),Sl.any,Sl.any]=[_,Sl.rw 0 (rP (stOf n.toNat (aJ (us.take (i+1))))),_,_]
   rw[Bf ht,←s2]
 ·rintro ρ rfl
  rw[cI,Ä,Į]
  refine⟨rfl,?_⟩
  show P (.list ((rP (stOf n.toNat (aJ us))).map Ć))
  rw[Ax]
  exact q
def qJ:FnScope ["web","place"] ["web","place"] (ak (top 14)):=zC
def Bu(F:Fun K "part_of" "part_of" (top 14) f fd)(B:ī mg)(af:í P w K mg base 1 "search" ["steps","start"] (spD mH))(a6:í P w K mg base 1 "steps_of_web" ["web"] (spD Cw)):FnOk P w K mg base CX0 2 f fd ["web","place"] (spD zM):=by
 refine F.ok qJ ė (λcdv A outer s H vs Q E hr h=>?_)
 have nd:=qJ.nd
 refine⟨_,ó (Ù (ß (Wr.rm rfl B.sorted (À (Ă af hr (À (Ă a6 hr (À (Ã 0) Á)) (À (Ã 1) Á))) Á)))),aH h ?_⟩
 rintro ds P ⟨n,us,a,rfl,n1,n16,lu,ok,a0,a1,q⟩
 refine⟨[.im (au n us),.im (.int a)],?_,?_⟩
 ·show [aF (au n us),.im (.int a)]=_
  rw[ķ]
 have an:=Gg (F:=[]) (B:=[]) ok (by omega)
 have po:=iB (by omega) lu ok
 have S:=jU (n:=n.toNat) po a0 (by omega)
 have few:=S.few
 refine⟨n,us,rfl,by omega,by omega,lu,ok,n.toNat,aJ us,a,rfl,by omega,po,a0,by omega,srM n.toNat (aJ us) a,rfl,by omega,λout hp hs=>⟨rfl,?_⟩⟩
 have e:=PN (vs:=adj us [] []) (n:=n.toNat) (a:=a) hp hs S.nd (λx=>by rw[←qQ,←S.all,jC];rfl) λx r=>r.rng (λt ht=>(an t ht).2) ⟨a0,by omega⟩
 rw[e]
 exact q
def Jc:FnScope ["web","a","b"] ["web","a","b"] (ak (top 15)):=zC
def R4(F:Fun K "way" "way" (top 15) f fd)(B:ī mg)(ae:í P w K mg base 4 "check_place" ["web","thing"] (spD OJ))(ai:í P w K mg base 1 "trace" ["came","goal"] (spD wH))(af:í P w K mg base 1 "search" ["steps","start"] (spD mH))(a6:í P w K mg base 1 "steps_of_web" ["web"] (spD Cw)):FnOk P w K mg base CX0 5 f fd ["web","a","b"] (spD Vm):=by
 refine F.ok Jc ė (λcdv A outer s H vs Q E hr h=>?_)
 have nd:=Jc.nd
 refine⟨_,ó (È (Wr.dB (Ă ae hr (À (Ã 0) (À (Ã 1) Á))))
  (È (Wr.dB (Ă ae hr (À (Ã 0) (À (Ã 2) Á))))
  (Ù (ß (Ă ai hr (À (Ă af hr (À (Ă a6 hr (À (Ã 0) Á)) (À (Ã 1) Á))) (À (Ã 2) Á))))))),aH h ?_⟩
 rintro ds P ⟨n,us,a,b,rfl,n0,n60,lu,ok,a0,a1,b0,b1,q⟩
 refine⟨[.im (au n us),.im (.int a),.im (.int b)],by show [aF (au n us),.im (.int a),.im (.int b)]=_;rw[ķ],?_⟩
 have po:=iB (by omega) lu ok
 have S:=jU (n:=n.toNat) po a0 (by omega)
 have few:=S.few
 refine⟨n,us,a,rfl,a0,a1,n,us,b,rfl,b0,b1,n,us,rfl,n0,by omega,lu,ok,n.toNat,aJ us,a,rfl,by omega,po,a0,by omega,aJ us,a,srM n.toNat (aJ us) a,b,rfl,S.cm,by omega,?_⟩
 show _/\P (cT (bU n.toNat (aJ us) a b))
 refine⟨?_,q⟩
 show(norm .new (cT (trO (srM n.toNat (aJ us) a) b))).le .n0=true
 cases trO (srM n.toNat (aJ us) a) b with
 |none=>rfl
 |some r=>rfl
end
def bL(arcs:List Tie)(i:Int):Tie:=arcs.getD i.toNat (0,0)
def lft(arcs:List Tie)(U:List Int):List Put:=arcs.zipIdx.map λp=>if ((p.2:Nat):Int)∈U then (p.1.2,(p.1.1,((p.2:Nat):Int))) else (p.1.1,(p.1.2,((p.2:Nat):Int)))
def alg(arcs:List Tie)(U:List Int):List Put:=U.map λi=>((bL arcs i).1,((bL arcs i).2,i))
def OkA(n:Int)(arcs:List Tie):Prop:=∀e∈arcs,(0<=e.1/\e.1<n)/\0<=e.2/\e.2<n
def InL(arcs:List Tie)(U:List Int):Prop:=U.length<=200/\∀i∈U,0<=i/\i<(arcs.length:Int)
def sd(L:Nat)(U K:List Int):List Int:=(zI (ê L)).filter λi=>decide (i∈U) != decide (i∈K)
def aug(n:Nat)(arcs:List Tie)(a b:Int):Nat->List Int->Option (List Int)
 |0,U=>some U
 |k+1,U=>match bU n (lft arcs U) a b with
  |none=>none
  |some r=>aug n arcs a b k (sd arcs.length U r.2)
def TV:Option (List Int)->D
 |none=>.none
 |some U=>iD U
def xq{arcs:List Tie}{i:Int}(h0:0<=i)(h1:i<(arcs.length:Int)):arcs[i.toNat]?=some (bL arcs i):=by
 unfold bL
 rw[ö,É (by omega)]
 rfl
def Ly{arcs:List Tie}{i:Int}(h0:0<=i)(h1:i<(arcs.length:Int)):atI (arcs.map pD) i=some (pD (bL arcs i)):=by
 have q:atI (arcs.map pD) ((i.toNat:Nat):Int)=some (pD (bL arcs i)):=bK (by rw[Û,xq h0 h1];rfl)
 rwa [show((i.toNat:Nat):Int)=i by omega] at q
def Kc{arcs:List Tie}{U:List Int}{i:Nat}{t:Tie}(h:arcs[i]?=some t):lft (arcs.take (i+1)) U=lft (arcs.take i) U++[if ((i:Nat):Int)∈U then (t.2,(t.1,((i:Nat):Int))) else (t.1,(t.2,((i:Nat):Int)))]:=by
 have hi:=(Ç.mp h).1
 have tk:arcs.take (i+1)=arcs.take i++[t]:=by rw[Ķ,h];rfl
 unfold lft
 rw[tk,List.zipIdx_append,ñ,ě,Nat.min_eq_left (by omega),Nat.zero_add]
 rfl
def eN{arcs:List Tie}{U:List Int}{p x k:Int}:(p,(x,k))∈lft arcs U↔∃j:Nat,k=((j:Nat):Int)/\((k∈U/\arcs[j]?=some (x,p))\/(k∉U/\arcs[j]?=some (p,x))):=by
 unfold lft
 rw[Ā]
 constructor
 ·rintro⟨⟨t,j⟩,ht,hm⟩
  have ht:arcs[j]?=some t:=ÿ.mp ht
  dsimp only at hm
  by_cases hU:((j:Nat):Int)∈U
  ·rw[if_pos hU] at hm
   cases hm
   exact⟨j,rfl,.inl ⟨hU,ht⟩⟩
  ·rw[if_neg hU] at hm
   cases hm
   exact⟨j,rfl,.inr ⟨hU,ht⟩⟩
 ·rintro⟨j,rfl,⟨hU,e⟩|⟨hU,e⟩⟩
  ·exact⟨((x,p),j),ÿ.mpr e,if_pos hU⟩
  ·exact⟨((p,x),j),ÿ.mpr e,if_neg hU⟩
def Fi(arcs:List Tie)(U:List Int):(lft arcs U).length=arcs.length:=by
 unfold lft
 rw[Ä,List.length_zipIdx]
def sE{n:Int}{arcs:List Tie}{U:List Int}(n0:0<=n)(la:arcs.length<=200)(ok:OkA n arcs):PutsOk n.toNat (lft arcs U):=by
 refine⟨by rw[Fi];exact la,λq hq=>?_⟩
 obtain⟨p,x,k⟩:=q
 obtain⟨j,_,⟨_,e⟩|⟨_,e⟩⟩:=eN.mp hq
 ·obtain⟨⟨h1,h2⟩,h3,h4⟩:=ok _ (Ð e)
  dsimp only at *
  omega
 ·obtain⟨⟨h1,h2⟩,h3,h4⟩:=ok _ (Ð e)
  dsimp only at *
  omega
def Lx{n:Int}{arcs:List Tie}{i:Int}(ok:OkA n arcs)(h0:0<=i)(h1:i<(arcs.length:Int)):(0<=(bL arcs i).1/\(bL arcs i).1<n)/\0<=(bL arcs i).2/\(bL arcs i).2<n:=ok _ (Ð (xq h0 h1))
def eO{arcs:List Tie}{U:List Int}{p x k:Int}:(p,(x,k))∈alg arcs U↔k∈U/\bL arcs k=(p,x):=by
 unfold alg
 rw[Ā]
 constructor
 ·rintro⟨i,hi,e⟩
  cases e
  exact⟨hi,rfl⟩
 ·rintro⟨hk,e⟩
  exact⟨k,hk,by rw[e]⟩
def xG{n:Int}{arcs:List Tie}{U:List Int}(n0:0<=n)(ok:OkA n arcs)(hU:InL arcs U):PutsOk n.toNat (alg arcs U):=by
 refine⟨by unfold alg;rw[Ä];exact hU.1,λq hq=>?_⟩
 obtain⟨p,x,k⟩:=q
 obtain⟨h1,h2⟩:=eO.mp hq
 obtain⟨k0,k1⟩:=hU.2 k h1
 have:=Lx ok k0 k1
 rw[h2] at this
 dsimp only at *
 omega
def PJ{arcs:List Tie}{U K:List Int}(la:arcs.length<=200):InL arcs (sd arcs.length U K):=by
 refine⟨?_,λi hi=>?_⟩
 ·unfold sd zI
  refine õ (ħ _ _) ?_
  rw[Ä,ł]
  exact la
 ·exact BX.mp (ð.mp hi).1
def Q6(L:Nat)(U K:List Int):((ê L).filter λv=>decide ((0+((v:Nat):Int))∈U) != decide ((0+((v:Nat):Int))∈K)).map (λv=>Â (0+((v:Nat):Int)))=(sd L U K).map Â:=by
 unfold sd zI
 rw[List.filter_map,ĺ]
 rfl
def K8(ds:List D)(P:D->Prop):Prop:=∃n arcs U,ds=[.int n,.list (arcs.map pD),iD U]/\0<=n/\n<=100/\arcs.length<=200/\OkA n arcs/\InL arcs U/\P (stD (stOf n.toNat (alg arcs U)))
def Qv(ds:List D)(P:D->Prop):Prop:=∃n arcs U,ds=[.int n,.list (arcs.map pD),iD U]/\0<=n/\n<=100/\arcs.length<=200/\OkA n arcs/\InL arcs U/\P (stD (stOf n.toNat (lft arcs U)))
def Vn(ds:List D)(P:D->Prop):Prop:=∃n arcs a b,ds=[.int n,.list (arcs.map pD),.int a,.int b]/\0<=n/\n<=100/\arcs.length<=200/\OkA n arcs/\0<=a/\a<n/\P (TV (aug n.toNat arcs a b 2 []))
def Vt(ds:List D)(P:D->Prop):Prop:=∃n arcs U a b r1 r2,ds=[.int n,.list (arcs.map pD),iD U,.int a,.int b]/\0<=n/\n<=100/\arcs.length<=200/\OkA n arcs/\InL arcs U/\0<=a/\a<n/\bU n.toNat (alg arcs U) a b=some r1/\bU n.toNat (alg arcs (U.filter λi=>!decide (i∈r1.2))) a b=some r2/\P (.list [cT (some r1),cT (some r2)])
section
variable {P:Program}{w:World}{K:Ý}{mg:Str->Option Value}{base:Heap}{f:Addr}{fd:FuncData}
def gY:FnScope ["count","arcs","used","steps","index"] ["count","arcs","used"] (ak (top 23)):=zC
def nM:(["node","count","arcs","used","steps","index"]:List Str).Nodup:=by decide +kernel
def rG(F:Fun K "steps_along" "steps_along" (top 23) f fd)(B:ī mg):FnOk P w K mg base CX0 1 f fd ["count","arcs","used"] (spD K8):=by
 refine F.ok gY ė (λcdv A outer s H vs Q E hr h=>?_)
 have nd:=gY.nd
 refine⟨_,ó (È (Wr.je 0 ["node"] (i:=3) rfl nd rfl zQ (Ņ B.range (À (Ã 0) Á)) (λc=>(ã (i:=0) nM rfl zQ)))
  (È (ņ þ rfl (Ĺ (Ã 2)) (ã (i:=4) nd rfl zQ) (È (Wr.cY (č 3) (Ì (Ì (Ã 1) (Ã 4)) Å) (À (ë (À (Ì (Ì (Ã 1) (Ã 4)) Å) (À (Ã 4) Á))) Á)) (î [4] æ)))
  (î [4] (Ù (ß (Ã 3)))))),aH h ?_⟩
 rintro ds P ⟨n,arcs,U,rfl,n0,n1,la,ok,hU,q⟩
 refine⟨[.im (.int n),.sh (.list (arcs.map pD)),.sh (iD U),.any,.any],rfl,?_⟩
 refine⟨⟨by omega,by omega⟩,by rw[bW];omega,rfl,?_⟩
 rw[bW]
 refine⟨rfl,λ(i:Nat) ρ=>ρ=[.im (.int n),.sh (.list (arcs.map pD)),.sh (iD U),.rw 0 (rP (stOf n.toNat (alg arcs (U.take i)))),.any],?_,?_,?_⟩
 ·show [_,_,_,Sl.rw 0 (Ú n.toNat []),_]=[_,_,_,Sl.rw 0 (rP (stOf n.toNat [])),_]
  rw[Aw]
  unfold rP
  rw[List.map_replicate]
  rfl
 ·rintro i d ρ hd rfl
  obtain⟨k,hk,rfl⟩:=gb hd
  have hi:=(Ç.mp hk).1
  obtain⟨k0,k1⟩:=hU.2 k (Ð hk)
  obtain⟨⟨o1,o2⟩,o3,o4⟩:=Lx ok k0 k1
  have tk:U.take (i+1)=U.take i++[k]:=by rw[Ķ,hk];rfl
  have l1:(alg arcs (U.take i)).length<=200:=by unfold alg;rw[Ä,ě];have:=hU.1;omega
  have r1:=lg (alg arcs (U.take i)) (bL arcs k).1.toNat
  have s1:=lA (n:=n.toNat) (ps:=alg arcs (U.take i)) (q:=((bL arcs k).1,((bL arcs k).2,k))) ⟨o1,by show(bL arcs k).1<_;omega⟩
  refine⟨_,Ly k0 k1,.int (bL arcs k).1,rfl,(bL arcs k).1.toNat,(rowOf (alg arcs (U.take i)) (bL arcs k).1.toNat).map pD,?_,qT _ (by omega),_,Ly k0 k1,.int (bL arcs k).2,rfl,zK,rfl,by rw[Ä];omega,?_⟩
  ·unfold ixN rP
   rw[if_pos o1,if_pos (by rw[Ä,fP];omega)]
  ·show [_,_,_,Sl.rw 0 ((rP (stOf n.toNat (alg arcs (U.take i)))).set (bL arcs k).1.toNat ((rowOf (alg arcs (U.take i)) (bL arcs k).1.toNat).map pD++[pD ((bL arcs k).2,k)])),_]=[_,_,_,Sl.rw 0 (rP (stOf n.toNat (alg arcs (U.take (i+1))))),_]
   have ea:alg arcs (U.take (i+1))=alg arcs (U.take i)++[((bL arcs k).1,((bL arcs k).2,k))]:=by
    unfold alg
    rw[tk,ñ]
    rfl
   rw[ea,←s1]
   rfl
 ·rintro ρ rfl
  rw[Ä,Į]
  refine⟨rfl,?_⟩
  show P (.list ((rP (stOf n.toNat (alg arcs U))).map Ć))
  rw[Ax]
  exact q
def jM:FnScope ["count","arcs","used","steps","index","arc"] ["count","arcs","used"] (ak (top 24)):=zC
def pK:(["node","count","arcs","used","steps","index","arc"]:List Str).Nodup:=by decide +kernel
def tX(F:Fun K "steps_left" "steps_left" (top 24) f fd)(B:ī mg)(ad:mg "enumerate"=none):FnOk P w K mg base CX0 1 f fd ["count","arcs","used"] (spD Qv):=by
 refine F.ok jM ė (λcdv A outer s H vs Q E hr h=>?_)
 have nd:=jM.nd
 refine⟨_,ó (È (Wr.je 0 ["node"] (i:=3) rfl nd rfl zQ (Ņ B.range (À (Ã 0) Á)) (λc=>(ã (i:=0) pK rfl zQ)))
  (È (ņ þ rfl (Wr.mL ad (À (Ã 1) Á)) (Wr.cZ (n:=2) rfl (đ (ã (i:=4) nd rfl zQ) (đ (ã (i:=5) nd rfl zQ) ŭ))) (È (ā (Wr.jY hr.units (Ã 4) (Ã 2)) (Ù (Wr.cY (č 3) (Ì (Ã 5) Å) (À (ë (À (Ì (Ã 5) Å) (À (Ã 4) Á))) Á))) (Ù (Wr.cY (č 3) (Ì (Ã 5) Å) (À (ë (À (Ì (Ã 5) Å) (À (Ã 4) Á))) Á)))) (î [4,5] æ)))
  (î [4,5] (Ù (ß (Ã 3)))))),aH h ?_⟩
 rintro ds P ⟨n,arcs,U,rfl,n0,n1,la,ok,hU,q⟩
 refine⟨[.im (.int n),.sh (.list (arcs.map pD)),.sh (iD U),.any,.any,.any],rfl,?_⟩
 refine⟨⟨by omega,by omega⟩,by rw[bW];omega,rfl,?_⟩
 rw[bW]
 refine⟨rfl,λ(i:Nat) ρ=>ρ=[.im (.int n),.sh (.list (arcs.map pD)),.sh (iD U),.rw 0 (rP (stOf n.toNat (lft (arcs.take i) U))),.any,.any],?_,?_,?_⟩
 ·show [_,_,_,Sl.rw 0 (Ú n.toNat []),_,_]=[_,_,_,Sl.rw 0 (rP (stOf n.toNat [])),_,_]
  rw[Aw]
  unfold rP
  rw[List.map_replicate]
  rfl
 ·rintro i d ρ hd rfl
  rw[cX,Û] at hd
  obtain⟨t,ht,rfl⟩:∃t,arcs[i]?=some t/\ŋ [.int ((i:Nat):Int),pD t]=d:=by
   cases e:arcs[i]? with
   |none=>rw[e] at hd;cases hd
   |some t=>rw[e] at hd;exact⟨t,rfl,Ø hd⟩
  obtain⟨⟨o1,o2⟩,o3,o4⟩:=ok t (Ð ht)
  have hi:=(Ç.mp ht).1
  have l1:(lft (arcs.take i) U).length<=200:=by rw[Fi,ě];omega
  have ea:=Kc (U:=U) ht
  have r1:=lg (lft (arcs.take i) U)
  refine⟨rfl,rfl,š U,?_⟩
  show if ((U.map Â).any λe=>á e (.int ((i:Nat):Int)))=true then _ else _
  rw[Ğ]
  by_cases hF:((i:Nat):Int)∈U
  ·rw[decide_eq_true hF]
   rw[if_pos hF] at ea
   have s1:=lA (n:=n.toNat) (ps:=lft (arcs.take i) U) (q:=(t.2,(t.1,((i:Nat):Int)))) ⟨o3,by show t.2<_;omega⟩
   have r1:=r1 t.2.toNat
   refine aA (B:=True) ⟨.int t.2,rfl,t.2.toNat,(rowOf (lft (arcs.take i) U) t.2.toNat).map pD,?_,qT _ (by omega),.int t.1,rfl,zK,rfl,by rw[Ä];omega,?_⟩
   ·unfold ixN rP
    rw[if_pos o3,if_pos (by rw[Ä,fP];omega)]
   ·show [_,_,_,Sl.rw 0 ((rP (stOf n.toNat (lft (arcs.take i) U))).set t.2.toNat ((rowOf (lft (arcs.take i) U) t.2.toNat).map pD++[pD (t.1,((i:Nat):Int))])),_,_]=[_,_,_,Sl.rw 0 (rP (stOf n.toNat (lft (arcs.take (i+1)) U))),_,_]
    rw[ea,←s1]
    rfl
  ·rw[decide_eq_false hF]
   rw[if_neg hF] at ea
   have s1:=lA (n:=n.toNat) (ps:=lft (arcs.take i) U) (q:=(t.1,(t.2,((i:Nat):Int)))) ⟨o1,by show t.1<_;omega⟩
   have r1:=r1 t.1.toNat
   refine aC (A:=True) ⟨.int t.1,rfl,t.1.toNat,(rowOf (lft (arcs.take i) U) t.1.toNat).map pD,?_,qT _ (by omega),.int t.2,rfl,zK,rfl,by rw[Ä];omega,?_⟩
   ·unfold ixN rP
    rw[if_pos o1,if_pos (by rw[Ä,fP];omega)]
   ·show [_,_,_,Sl.rw 0 ((rP (stOf n.toNat (lft (arcs.take i) U))).set t.1.toNat ((rowOf (lft (arcs.take i) U) t.1.toNat).map pD++[pD (t.2,((i:Nat):Int))])),_,_]=[_,_,_,Sl.rw 0 (rP (stOf n.toNat (lft (arcs.take (i+1)) U))),_,_]
    rw[ea,←s1]
    rfl
 ·rintro ρ rfl
  rw[cI,Ä,Į]
  refine⟨rfl,?_⟩
  show P (.list ((rP (stOf n.toNat (lft arcs U))).map Ć))
  rw[Ax]
  exact q
def iz:FnScope ["count","arcs","start","goal","used","turn","found"] ["count","arcs","start","goal"] (ak (top 25)):=zC
def nQ:(["index","count","arcs","start","goal","used","turn","found"]:List Str).Nodup:=by decide +kernel
def rQ(F:Fun K "arcs_of_two" "arcs_of_two" (top 25) f fd)(B:ī mg)(ai:í P w K mg base 1 "trace" ["came","goal"] (spD wH))(af:í P w K mg base 1 "search" ["steps","start"] (spD mH))(bv:í P w K mg base 1 "steps_left" ["count","arcs","used"] (spD Qv)):FnOk P w K mg base CX0 2 f fd ["count","arcs","start","goal"] (spD Vn):=by
 refine F.ok iz ė (λcdv A outer s H vs Q E hr h=>?_)
 have nd:=iz.nd
 refine⟨_,ó (È (å none (i:=4) nd rfl zQ (â Á))
  (È (ņ þ rfl (Ņ B.range (À Å Á)) (ã (i:=5) nd rfl zQ) (È (å none (i:=6) nd rfl zQ (Ă ai hr (À (Ă af hr (À (Ă bv hr (À (Ã 0) (À (Ã 1) (À (Ã 4) Á)))) (À (Ã 2) Á))) (À (Ã 3) Á))))
  (È (ā (Wr.lE (Ã 6) ŧ) (Ù (ß ŧ)) æ)
  (È (å none (i:=4) nd rfl zQ (Ž ["index"] rfl (Ņ B.range (À (Ĝ B.len (À (Ã 1) Á)) Á)) (λc=>(ã (i:=0) nQ rfl zQ)) (λc=>(Wr.dz (Ľ hr.units (Wr.uG hr.units (Ã 0) (Ã 5)) (Wr.uG hr.units (Ã 0) (Ì (Ã 7) Å))))) (λc=>(Ã 0)))) (î [5,6] æ)))))
  (î [5,6] (Ù (ß (Ã 4)))))),aH h ?_⟩
 rintro ds P ⟨n,arcs,a,b,rfl,n0,n1,la,ok,a0,a1,q⟩
 refine⟨[.im (.int n),.sh (.list (arcs.map pD)),.im (.int a),.im (.int b),.any,.any,.any],rfl,?_⟩
 generalize hG:aug n.toNat arcs a b 2 []=G at q
 refine⟨zK,⟨by decide,by decide⟩,rfl,λ(i:Nat) ρ=>∃U,InL arcs U/\aug n.toNat arcs a b (2 - i) U=G/\ρ=[.im (.int n),.sh (.list (arcs.map pD)),.im (.int a),.im (.int b),.sn (iD U),.any,.any],⟨[],⟨ü _,(λi hi=>nomatch hi)⟩,hG,rfl⟩,?_,?_⟩
 ·rintro i d ρ hd ⟨U,hU,e,rfl⟩
  obtain⟨hi,rfl⟩:=cH hd
  have po:=sE (U:=U) (by omega) la ok
  have S:=jU (n:=n.toNat) po a0 (by omega)
  have few:=S.few
  refine⟨n,arcs,U,rfl,n0,n1,la,ok,hU,n.toNat,lft arcs U,a,rfl,by omega,po,a0,by omega,lft arcs U,a,srM n.toNat (lft arcs U) a,b,rfl,S.cm,by omega,?_⟩
  have e2:2 - i=(1 - i)+1:=by omega
  rw[e2] at e
  unfold aug at e
  show(match Dl.stK none _ 6 (norm (norm .new (cT (bU n.toNat (lft arcs U) a b))) (cT (bU n.toNat (lft arcs U) a b))) (cT (bU n.toNat (lft arcs U) a b)) with
   |some s=>_
   |none=>False)
  cases hp:bU n.toNat (lft arcs U) a b with
  |none =>
   rw[hp] at e
   refine aA (B:=True) ⟨rfl,?_⟩
   rw[←e] at q
   exact q
  |some r =>
   rw[hp] at e
   obtain⟨r1,r2⟩:=r
   have lm:(arcs.map pD).length=arcs.length:=Ä ..
   have hx:∀x y:Bool,(!decide (x=y))=(x != y):=λx y=>by cases x <;> cases y <;> rfl
   refine aC (A:=True) ⟨⟨by omega,by omega⟩,?_⟩
   refine o7 (ê arcs.length) (λv=>Â (0+((v:Nat):Int))) (λv=>decide ((0+((v:Nat):Int))∈U) != decide ((0+((v:Nat):Int))∈r2)) (λv=>Â (0+((v:Nat):Int))) .imm ?_ (by rw[ł];omega) (λv hv A B hA hB=>?_) ?_
   ·rw[lm,ĩ]
    rfl
   ·refine⟨rfl,š U,_,rfl,rfl,š r2,?_⟩
    show if (!decide (((U.map Â).any λe=>á e (.int (0+((v:Nat):Int))))=((r2.map Â).any λe=>á e (.int (0+((v:Nat):Int))))))=true then _ else _
    rw[Ğ,Ğ,hx]
    exact bB (λc=>⟨rfl,hA c⟩) (λc=>hB (Bool.eq_false_iff.mpr c))
   show ∃U',InL arcs U'/\aug n.toNat arcs a b (2 - (i+1)) U'=G/\[Sl.im (.int n),.sh (.list (arcs.map pD)),.im (.int a),.im (.int b),.sn (.list (((ê arcs.length).filter λv=>decide ((0+((v:Nat):Int))∈U) != decide ((0+((v:Nat):Int))∈r2)).map λv=>Â (0+((v:Nat):Int)))),.any,.any]=[Sl.im (.int n),.sh (.list (arcs.map pD)),.im (.int a),.im (.int b),.sn (iD U'),.any,.any]
   refine⟨sd arcs.length U r2,PJ la,by rw[show 2 - (i+1)=1 - i by omega];exact e,?_⟩
   rw[Q6]
   rfl
 ·rintro ρ ⟨U,hU,e,rfl⟩
  have e:some U=G:=e
  rw[←e] at q
  exact⟨rfl,q⟩
def kE:FnScope ["count","arcs","used","start","goal","one","rest","other"] ["count","arcs","used","start","goal"] (ak (top 26)):=zC
def rT:(["index","count","arcs","used","start","goal","one","rest","other"]:List Str).Nodup:=by decide +kernel
def vX(F:Fun K "two_along" "two_along" (top 26) f fd)(B:ī mg)(ai:í P w K mg base 1 "trace" ["came","goal"] (spD wH))(af:í P w K mg base 1 "search" ["steps","start"] (spD mH))(bi:í P w K mg base 1 "steps_along" ["count","arcs","used"] (spD K8)):FnOk P w K mg base CX0 2 f fd ["count","arcs","used","start","goal"] (spD Vt):=by
 refine F.ok kE ė (λcdv A outer s H vs Q E hr h=>?_)
 have nd:=kE.nd
 refine⟨_,ó (È (å none (i:=5) nd rfl zQ (Ă ai hr (À (Ă af hr (À (Ă bi hr (À (Ã 0) (À (Ã 1) (À (Ã 2) Á)))) (À (Ã 3) Á))) (À (Ã 4) Á))))
  (È (Wr.jd none ["index"] (i:=6) rfl nd rfl zQ (Ĺ (Ã 2)) (λc=>(ã (i:=0) rT rfl zQ)) (λc=>(Wr.dz (Ŷ hr.units (Ã 0) (Ì (Ã 6) Å)))) (λc=>(Ã 0)))
  (È (å none (i:=7) nd rfl zQ (Ă ai hr (À (Ă af hr (À (Ă bi hr (À (Ã 0) (À (Ã 1) (À (Ã 6) Á)))) (À (Ã 3) Á))) (À (Ã 4) Á))))
  (Ù (ß (â (À (Ã 5) (À (Ã 7) Á)))))))),aH h ?_⟩
 rintro ds P ⟨n,arcs,U,a,b,r1,r2,rfl,n0,n1,la,ok,hU,a0,a1,p1,p2,q⟩
 refine⟨[.im (.int n),.sh (.list (arcs.map pD)),.sh (iD U),.im (.int a),.im (.int b),.any,.any,.any],rfl,?_⟩
 have po:=xG (by omega) ok hU
 have S:=jU (n:=n.toNat) po a0 (by omega)
 have few:=S.few
 refine⟨n,arcs,U,rfl,n0,n1,la,ok,hU,n.toNat,alg arcs U,a,rfl,by omega,po,a0,by omega,alg arcs U,a,srM n.toNat (alg arcs U) a,b,rfl,S.cm,by omega,?_⟩
 show(match Dl.stK none _ 5 (norm (norm .new (cT (bU n.toNat (alg arcs U) a b))) (cT (bU n.toNat (alg arcs U) a b))) (cT (bU n.toNat (alg arcs U) a b)) with
  |some s=>_
  |none=>False)
 rw[p1]
 refine o7 U Â (λi=>!decide (i∈r1.2)) Â .imm rfl (by have:=hU.1;omega) (λi hi A B hA hB=>?_) ?_
 ·refine⟨_,rfl,rfl,š r1.2,?_⟩
  show if (!((r1.2.map Â).any λe=>á e (.int i)))=true then _ else _
  rw[Ğ]
  exact bB (λc=>⟨rfl,hA c⟩) (λc=>hB (Bool.eq_false_iff.mpr c))
 have hU2:InL arcs (U.filter λi=>!decide (i∈r1.2)):=⟨õ (ħ _ _) hU.1,λi hi=>hU.2 i (ð.mp hi).1⟩
 have po2:=xG (by omega) ok hU2
 have S2:=jU (n:=n.toNat) po2 a0 (by omega)
 have few2:=S2.few
 refine⟨n,arcs,_,rfl,n0,n1,la,ok,hU2,n.toNat,alg arcs (U.filter λi=>!decide (i∈r1.2)),a,rfl,by omega,po2,a0,by omega,alg arcs (U.filter λi=>!decide (i∈r1.2)),a,srM n.toNat (alg arcs (U.filter λi=>!decide (i∈r1.2))) a,b,rfl,S2.cm,by omega,?_⟩
 show(match Dl.stK none _ 7 (norm (norm .new (cT (bU n.toNat (alg arcs (U.filter λi=>!decide (i∈r1.2))) a b))) (cT (bU n.toNat (alg arcs (U.filter λi=>!decide (i∈r1.2))) a b))) (cT (bU n.toNat (alg arcs (U.filter λi=>!decide (i∈r1.2))) a b)) with
  |some s=>_
  |none=>False)
 rw[p2]
 exact⟨zK,rfl,q⟩
end
def bI:Nat->(Nat->Int)->Int
 |0,_=>0
 |k+1,g=>bI k g+g k
theorem cN{g h:Nat->Int}:∀{L:Nat},(∀i,i<L->g i=h i)->bI L g=bI L h
 |0,_=>rfl
 |L+1,e=>by
  show bI L g+g L=bI L h+h L
  rw[cN λi hi=>e i (by omega),e L (by omega)]
theorem sum_add{g h:Nat->Int}:∀L:Nat,bI L (λi=>g i+h i)=bI L g+bI L h
 |0=>rfl
 |L+1=>by
  show bI L (λi=>g i+h i)+(g L+h L)=bI L g+g L+(bI L h+h L)
  rw[sum_add L]
  omega
theorem kh:∀L:Nat,bI L (λ_=>0)=0
 |0=>rfl
 |L+1=>by
  show bI L (λ_=>0)+0=0
  rw[kh L]
  rfl
theorem pQ{g:Nat->Int}{j:Nat}:∀{L:Nat},j<L->bI L (λi=>if i=j then g i else 0)=g j
 |L+1,h=>by
  show bI L (λi=>if i=j then g i else 0)+(if L=j then g L else 0)=g j
  by_cases e:L=j
  ·subst e
   rw[if_pos rfl,cN (h:=λ_=>0) λi hi=>if_neg (by omega),kh]
   omega
  ·rw[if_neg e,pQ (by omega)]
   omega
theorem IK{g:Nat->Int}:∀{L:Nat},(∀i,i<L->g i<=0)->bI L g<=0
 |0,_=>Ş _
 |L+1,h=>by
  have h1:=IK (L:=L) (g:=g) λi hi=>h i (ď hi)
  have h2:=h L (by omega)
  show bI L g+g L<=0
  omega
theorem IV{g:Nat->Int}:∀{L:Nat},(∀i,i<L->0<=g i)->0<=bI L g
 |0,_=>Ş _
 |L+1,h=>by
  have h1:=IV (L:=L) (g:=g) λi hi=>h i (ď hi)
  have h2:=h L (by omega)
  show 0<=bI L g+g L
  omega
def Mr{g:Nat->Int}{i j L:Nat}(hi:i<L)(hj:j<L)(ne:i≠j)(h:∀k,k<L->0<=g k):g i+g j<=bI L g:=by
 have e:bI L g=bI L (λk=>if k=i then g k else 0)+(bI L (λk=>if k=j then g k else 0)+bI L (λk=>if k=i\/k=j then 0 else g k)):=by
  rw[←sum_add,←sum_add]
  refine cN λk hk=>?_
  by_cases a:k=i
  ·subst a
   rw[if_pos rfl,if_neg ne,if_pos (.inl rfl)]
   omega
  ·by_cases b:k=j
   ·subst b
    rw[if_neg a,if_pos rfl,if_pos (.inr rfl)]
    omega
   ·rw[if_neg a,if_neg b,if_neg (λz=>z.elim a b)]
    omega
 have r:0<=bI L (λk=>if k=i\/k=j then 0 else g k):=IV λk hk=>by
  by_cases z:k=i\/k=j
  ·rw[if_pos z]
   exact Ş _
  ·rw[if_neg z]
   exact h k hk
 rw[pQ hi,pQ hj] at e
 omega
theorem DP{g:Nat->Int}:∀{L:Nat},0<bI L g->∃i,i<L/\0<g i
 |0,h=>absurd (show(0:Int)<0 from h) (by decide)
 |L+1,h=>by
  have h:0<bI L g+g L:=h
  by_cases e:0<g L
  ·exact⟨L,by omega,e⟩
  ·obtain⟨i,hi,hg⟩:=DP (L:=L) (g:=g) (by omega)
   exact⟨i,by omega,hg⟩
theorem mZ{g:Nat->Int}:∀T:Nat,bI (2 * T) g=bI T λk=>g (2 * k)+g (2 * k+1)
 |0=>rfl
 |T+1=>by
  show bI (2 * T) g+g (2 * T)+g (2 * T+1)=bI T (λk=>g (2 * k)+g (2 * k+1))+(g (2 * T)+g (2 * T+1))
  rw[mZ T]
  omega
def chi(S:Int->Bool)(x:Int):Int:=if S x=true then 1 else 0
def flo(arcs:List Tie)(S:Int->Bool)(i:Nat):Int:=chi S (bL arcs i).1 - chi S (bL arcs i).2
def net(arcs:List Tie)(U:List Int)(S:Int->Bool):Int:=bI arcs.length λi=>if ((i:Nat):Int)∈U then flo arcs S i else 0
def Flow(arcs:List Tie)(a b c:Int)(U:List Int):Prop:=∀S,net arcs U S=c * (chi S a - chi S b)
def Ln(S:Int->Bool)(x:Int):0<=chi S x/\chi S x<=1:=by
 unfold chi
 cases S x
 ·exact⟨by decide,by decide⟩
 ·exact⟨by decide,by decide⟩
def tG{S:Int->Bool}{x:Int}(h:S x=true):chi S x=1:=if_pos h
def zY{S:Int->Bool}{x:Int}(h:S x=false):chi S x=0:=by
 unfold chi
 rw[h]
 rfl
def Wy.hop{ws:List Put}{a:Int}{P K:List Int}{x:Int}(h:Wy ws a P K x):∀k∈K,∃p y,(p,(y,k))∈ws/\y∈P:=by
 induction h with
 |one=>exact λk hk=>nomatch hk
 |step h hx j ih =>
  intro k hk
  rcases à.mp hk with z|z
  ·obtain⟨p,y,h1,h2⟩:=ih k z
   exact⟨p,y,h1,ú _ h2⟩
  ·rw[Ë.mp z]
   exact⟨_,_,j,ç _ (Ë.mpr rfl)⟩
def Ia{ws:List Put}{L:Nat}{g:Nat->Int}{S:Int->Bool}{a:Int}{P K:List Int}{x:Int}(hg:∀p y k,(p,(y,k))∈ws->∃j:Nat,k=((j:Nat):Int)/\j<L/\g j=chi S p - chi S y)(uq:∀p y p' y' k,(p,(y,k))∈ws->(p',(y',k))∈ws->y=y')(h:Wy ws a P K x):bI L (λi=>if ((i:Nat):Int)∈K then g i else 0)=chi S a - chi S x:=by
 induction h with
 |one =>
  rw[cN (h:=λ_=>0) λi _=>if_neg (λz=>nomatch z),kh]
  omega
 |@step P K p y k h hx j ih =>
  obtain⟨q,rfl,hq,gq⟩:=hg _ _ _ j
  have nk:((q:Nat):Int)∉K:=λz=>by
   obtain⟨p',y',h1,h2⟩:=h.hop _ z
   rw[uq _ _ _ _ _ j h1] at hx
   exact hx h2
  have e:bI L (λi=>if ((i:Nat):Int)∈K++[((q:Nat):Int)] then g i else 0)=bI L (λi=>if ((i:Nat):Int)∈K then g i else 0)+bI L (λi=>if i=q then g i else 0):=by
   rw[←sum_add]
   refine cN λi _=>?_
   by_cases a1:i=q
   ·subst a1
    rw[if_pos (ç _ (Ë.mpr rfl)),if_neg nk,if_pos rfl]
    omega
   ·rw[if_neg a1]
    by_cases a2:((i:Nat):Int)∈K
    ·rw[if_pos (ú _ a2),if_pos a2]
     omega
    ·rw[if_neg (λz=>(à.mp z).elim a2 λz=>a1 (by have:=Ë.mp z;omega)),if_neg a2]
     omega
  rw[e,ih,pQ hq,gq]
  omega
def eX{arcs:List Tie}{j:Nat}{t:Tie}(h:arcs[j]?=some t):bL arcs ((j:Nat):Int)=t:=by
 unfold bL
 rw[ĩ,ö,h]
 rfl
def sU(arcs:List Tie)(a b:Int):Flow arcs a b 0 []:=λS=>by
 unfold net
 rw[cN (h:=λ_=>0) λi _=>if_neg (λz=>nomatch z),kh,Int.zero_mul]
def Sd{L:Nat}{U K:List Int}{i:Nat}(hi:i<L):((i:Nat):Int)∈sd L U K↔¬(((i:Nat):Int)∈U↔((i:Nat):Int)∈K):=by
 unfold sd
 rw[ð]
 have h1:((i:Nat):Int)∈zI (ê L):=BX.mpr ⟨by omega,by omega⟩
 by_cases a:((i:Nat):Int)∈U <;> by_cases b:((i:Nat):Int)∈K <;> simp[a,b,h1]
def zJ{arcs:List Tie}{a b c:Int}{U P K:List Int}(h:Flow arcs a b c U)(w:Wy (lft arcs U) a P K b):Flow arcs a b (c+1) (sd arcs.length U K):=λS=>by
 have s:=Ia (L:=arcs.length) (g:=λi=>if ((i:Nat):Int)∈U then - flo arcs S i else flo arcs S i) (S:=S) (λp y k hk=>?_) (λp y p' y' k h1 h2=>?_) w
 ·have e:net arcs (sd arcs.length U K) S=net arcs U S+bI arcs.length (λi=>if ((i:Nat):Int)∈K then (if ((i:Nat):Int)∈U then - flo arcs S i else flo arcs S i) else 0):=by
   unfold net
   rw[←sum_add]
   refine cN λi hi=>?_
   have m:=Sd (U:=U) (K:=K) hi
   by_cases u:((i:Nat):Int)∈U <;> by_cases k:((i:Nat):Int)∈K
   ·rw[if_neg (λz=>m.mp z ⟨λ_=>k,λ_=>u⟩),if_pos u,if_pos k,if_pos u]
    omega
   ·rw[if_pos (m.mpr λz=>k (z.mp u)),if_pos u,if_neg k]
    omega
   ·rw[if_pos (m.mpr λz=>u (z.mpr k)),if_neg u,if_pos k,if_neg u]
    omega
   ·rw[if_neg (λz=>m.mp z ⟨λq=>absurd q u,λq=>absurd q k⟩),if_neg u,if_neg k]
    omega
  rw[e,s,h S,Int.add_mul,Int.one_mul]
 ·obtain⟨j,rfl,⟨hu,e⟩|⟨hu,e⟩⟩:=eN.mp hk
  ·refine⟨j,rfl,(Ç.mp e).1,?_⟩
   show(if ((j:Nat):Int)∈U then - flo arcs S j else flo arcs S j)=_
   rw[if_pos hu]
   unfold flo
   rw[eX e]
   show -(chi S y - chi S p)=chi S p - chi S y
   omega
  ·refine⟨j,rfl,(Ç.mp e).1,?_⟩
   show(if ((j:Nat):Int)∈U then - flo arcs S j else flo arcs S j)=_
   rw[if_neg hu]
   unfold flo
   rw[eX e]
 ·obtain⟨j,rfl,x1⟩:=eN.mp h1
  obtain⟨j',e',x2⟩:=eN.mp h2
  have ej:j=j':=by omega
  subst ej
  rcases x1 with ⟨u1,e1⟩|⟨u1,e1⟩ <;> rcases x2 with ⟨u2,e2⟩|⟨u2,e2⟩
  ·rw[e1] at e2;cases e2;rfl
  ·exact absurd u1 u2
  ·exact absurd u2 u1
  ·rw[e1] at e2;cases e2;rfl
def Pg{arcs:List Tie}{U:List Int}(hU:InL arcs U){S:Int->Bool}{p y k:Int}(hk:(p,(y,k))∈alg arcs U):∃j:Nat,k=((j:Nat):Int)/\j<arcs.length/\flo arcs S j=chi S p - chi S y:=by
 obtain⟨h1,h2⟩:=eO.mp hk
 obtain⟨k0,k1⟩:=hU.2 k h1
 refine⟨k.toNat,by omega,by omega,?_⟩
 unfold flo
 rw[show((k.toNat:Nat):Int)=k by omega,h2]
def Hi{arcs:List Tie}{a b c:Int}{U P K:List Int}(hU:InL arcs U)(h:Flow arcs a b c U)(w:Wy (alg arcs U) a P K b):Flow arcs a b (c - 1) (U.filter λi=>!decide (i∈K)):=λS=>by
 have s:=Ia (L:=arcs.length) (g:=flo arcs S) (S:=S) (λp y k hk=>Pg hU hk) (λp y p' y' k h1 h2=>?_) w
 ·have e:net arcs U S=net arcs (U.filter λi=>!decide (i∈K)) S+bI arcs.length (λi=>if ((i:Nat):Int)∈K then flo arcs S i else 0):=by
   unfold net
   rw[←sum_add]
   refine cN λi hi=>?_
   have m:((i:Nat):Int)∈(U.filter λi=>!decide (i∈K))↔((i:Nat):Int)∈U/\((i:Nat):Int)∉K:=by
    rw[ð,Bool.not_eq_true',decide_eq_false_iff_not]
   by_cases k:((i:Nat):Int)∈K
   ·have u:((i:Nat):Int)∈U:=by
     obtain⟨p,y,h1,_⟩:=w.hop _ k
     exact(eO.mp h1).1
    rw[if_pos u,if_neg (λz=>(m.mp z).2 k),if_pos k]
    omega
   ·by_cases u:((i:Nat):Int)∈U
    ·rw[if_pos u,if_pos (m.mpr ⟨u,k⟩),if_neg k]
     omega
    ·rw[if_neg u,if_neg (λz=>u (m.mp z).1),if_neg k]
     omega
  have hS:=h S
  rw[e,s] at hS
  rw[Int.sub_mul,Int.one_mul]
  omega
 ·have e1:=(eO.mp h1).2
  rw[(eO.mp h2).2] at e1
  cases e1
  rfl
def zH{arcs:List Tie}{a b c:Int}{U:List Int}(hc:0<c)(h:Flow arcs a b c U):Rt (edg (alg arcs U)) a b:=by
 by_cases r:Rt (edg (alg arcs U)) a b
 ·exact r
 ·exfalso
  have hS:=h (RZ (edg (alg arcs U)) a)
  rw[tG (bM.mpr (.refl _)),zY (Bool.eq_false_iff.mpr λz=>r (bM.mp z))] at hS
  have le:net arcs U (RZ (edg (alg arcs U)) a)<=0:=IK λi hi=>by
   by_cases u:((i:Nat):Int)∈U
   ·rw[if_pos u]
    unfold flo
    cases e:RZ (edg (alg arcs U)) a (bL arcs ((i:Nat):Int)).1 with
    |false =>
     rw[zY e]
     have:=Ln (RZ (edg (alg arcs U)) a) (bL arcs ((i:Nat):Int)).2
     omega
    |true =>
     have r2:Rt (edg (alg arcs U)) a (bL arcs ((i:Nat):Int)).2:=.step (bM.mp e) (jA.mpr ⟨_,eO.mpr ⟨u,rfl⟩⟩)
     rw[tG e,tG (bM.mpr r2)]
     omega
   ·rw[if_neg u]
    exact Ş _
  omega
def aD(us:List Tie):List Tie:=us.flatMap λt=>[t,(t.2,t.1)]
def dX(us:List Tie):(aD us).length=2 * us.length:=u9 id (λt:Tie=>(t.2,t.1)) us
theorem c7:∀(us:List Tie) (k:Nat) {t:Tie},us[k]?=some t->(aD us)[2 * k]?=some t/\(aD us)[2 * k+1]?=some (t.2,t.1)
 |u::us,0,t,h=>by
  cases h
  exact⟨rfl,rfl⟩
 |u::us,k+1,t,h=>by
  have:=c7 us k (t:=t) h
  exact this
def mU{n:Int}{us:List Tie}(ok:OkN n us):OkA n (aD us):=λe he=>by
 obtain⟨t,ht,hm⟩:=List.mem_flatMap.mp he
 obtain⟨⟨h1,h2⟩,⟨h3,h4⟩,_⟩:=ok t ht
 simp only[Ü,ý,or_false] at hm
 rcases hm with rfl|rfl
 ·exact⟨⟨h1,h2⟩,h3,h4⟩
 ·exact⟨⟨h3,h4⟩,h1,h2⟩
def prt(i:Int):Int:=if i % 2=0 then i+1 else i - 1
def fK(U:List Int):List Int:=U.filter λi=>!decide (prt i∈U)
def Hj{us:List Tie}{a b c:Int}{U:List Int}(h:Flow (aD us) a b c U):Flow (aD us) a b c (fK U):=λS=>by
 rw[←h S]
 unfold net
 rw[dX,mZ,mZ]
 refine cN λk hk=>?_
 obtain⟨t,ht⟩:∃t,us[k]?=some t:=⟨_,É hk⟩
 obtain⟨g1,g2⟩:=c7 us k ht
 have f1:flo (aD us) S (2 * k)=chi S t.1 - chi S t.2:=by unfold flo;rw[eX g1]
 have f2:flo (aD us) S (2 * k+1)=chi S t.2 - chi S t.1:=by unfold flo;rw[eX g2]
 have p1:prt ((2 * k:Nat):Int)=((2 * k+1:Nat):Int):=by
  unfold prt
  rw[if_pos (by omega)]
  omega
 have p2:prt ((2 * k+1:Nat):Int)=((2 * k:Nat):Int):=by
  unfold prt
  rw[if_neg (by omega)]
  omega
 have m:∀i:Int,i∈fK U↔i∈U/\prt i∉U:=λi=>by
  unfold fK
  rw[ð,Bool.not_eq_true',decide_eq_false_iff_not]
 have m1:=m ((2 * k:Nat):Int)
 have m2:=m ((2 * k+1:Nat):Int)
 rw[p1] at m1
 rw[p2] at m2
 rw[f1,f2]
 by_cases x:((2 * k:Nat):Int)∈U <;> by_cases y:((2 * k+1:Nat):Int)∈U
 ·rw[if_neg (λz=>(m1.mp z).2 y),if_neg (λz=>(m2.mp z).2 x),if_pos x,if_pos y]
  omega
 ·rw[if_pos (m1.mpr ⟨x,y⟩),if_neg (λz=>y (m2.mp z).1),if_pos x,if_neg y]
 ·rw[if_neg (λz=>x (m1.mp z).1),if_pos (m2.mpr ⟨y,x⟩),if_neg x,if_pos y]
 ·rw[if_neg (λz=>x (m1.mp z).1),if_neg (λz=>y (m2.mp z).1),if_neg x,if_neg y]
def O9{us:List Tie}{a b:Int}{U:List Int}(h:Flow (aD us) a b 1 U)(hr:¬Rt (edg (lft (aD us) U)) a b):∃k:Nat,k<us.length/\¬Rt (adj us [((k:Nat):Int)] []) a b:=by
 let S:=RZ (edg (lft (aD us) U)) a
 have hS:=h S
 have ca:chi S a=1:=tG (bM.mpr (.refl _))
 have cb:chi S b=0:=zY (Bool.eq_false_iff.mpr λz=>hr (bM.mp z))
 rw[ca,cb] at hS
 have st:∀(j:Nat) (p x:Int),(p,(x,((j:Nat):Int)))∈lft (aD us) U->S p=true->S x=true:=λj p x hm hp=>bM.mpr (.step (bM.mp hp) (jA.mpr ⟨_,hm⟩))
 have get:∀i,i<(aD us).length->(aD us)[i]?=some (bL (aD us) ((i:Nat):Int)):=λi hi=>xq (arcs:=aD us) (i:=((i:Nat):Int)) (by omega) (by omega)
 have ge:∀i,i<(aD us).length->0<=(if ((i:Nat):Int)∈U then flo (aD us) S i else 0):=λi hi=>by
  by_cases u:((i:Nat):Int)∈U
  ·rw[if_pos u]
   unfold flo
   cases e:S (bL (aD us) ((i:Nat):Int)).2 with
   |false =>
    rw[zY e]
    have:=Ln S (bL (aD us) ((i:Nat):Int)).1
    omega
   |true =>
    have:S (bL (aD us) ((i:Nat):Int)).1=true:=st i _ _ (eN.mpr ⟨i,rfl,.inl ⟨u,get i hi⟩⟩) e
    rw[tG e,tG this]
    omega
  ·rw[if_neg u]
   exact Ş _
 have hS:bI (aD us).length (λi=>if ((i:Nat):Int)∈U then flo (aD us) S i else 0)=1:=hS
 obtain⟨i0,hi0,g0⟩:=DP (by rw[hS];decide)
 have g0:0<(if ((i0:Nat):Int)∈U then flo (aD us) S i0 else 0):=g0
 have only:∀j,j<(aD us).length->((j:Nat):Int)∈U->S (bL (aD us) ((j:Nat):Int)).1=true->S (bL (aD us) ((j:Nat):Int)).2=false->j=i0:=λj hj u h1 h2=>by
  by_cases e:j=i0
  ·exact e
  ·have:=Mr hj hi0 e ge
   have this:(if ((j:Nat):Int)∈U then flo (aD us) S j else 0)+(if ((i0:Nat):Int)∈U then flo (aD us) S i0 else 0)<=_:=this
   rw[hS,if_pos u] at this
   unfold flo at this
   rw[tG h1,zY h2] at this
   unfold flo at g0
   omega
 have la:=dX us
 refine⟨i0 / 2,by omega,λr=>?_⟩
 have all:∀x,Rt (adj us [((i0 / 2:Nat):Int)] []) a x->S x=true:=λx r=>by
  induction r with
  |refl=>exact bM.mpr (.refl _)
  |@step y z _ t ih =>
   obtain⟨k,e,nk,_⟩:=eU.mp t
   have nk:k≠i0 / 2:=λq=>nk (by rw[q];exact Ë.mpr rfl)
   have arc:∃j,j<(aD us).length/\j / 2=k/\(aD us)[j]?=some (y,z):=by
    rcases e with e|e
    ·have g:=(c7 us k e).1
     exact⟨2 * k,(Ç.mp g).1,by omega,g⟩
    ·have g:=(c7 us k e).2
     exact⟨2 * k+1,(Ç.mp g).1,by omega,g⟩
   obtain⟨j,hj,jk,g⟩:=arc
   by_cases u:((j:Nat):Int)∈U
   ·cases e2:S z with
    |true=>rfl
    |false =>
     have:=only j hj u (by rw[eX g];exact ih) (by rw[eX g];exact e2)
     omega
   ·exact st j _ _ (eN.mpr ⟨j,rfl,.inr ⟨u,g⟩⟩) ih
 have:=all b r
 rw[show S b=RZ (edg (lft (aD us) U)) a b from rfl,bM] at this
 exact hr this
def enum_zip(us:List Tie):mJ (us.map pD)=us.zipIdx.map λp=>ŋ [.int ((p.2:Nat):Int),pD p.1]:=by
 refine List.ext_getElem? λi=>?_
 rw[cX,Û,Û,List.getElem?_zipIdx]
 cases us[i]? with
 |none=>rfl
 |some t=>simp
def wo(us:List Tie)(F:List Int):List Tie:=(us.zipIdx.filter λp=>decide (((p.2:Nat):Int)∉F)).map (·.1)
def BZ{us:List Tie}{F:List Int}{t:Tie}:t∈wo us F↔∃k:Nat,us[k]?=some t/\((k:Nat):Int)∉F:=by
 unfold wo
 rw[Ā]
 constructor
 ·rintro⟨⟨u,k⟩,h,rfl⟩
  rw[ð] at h
  exact⟨k,ÿ.mp h.1,of_decide_eq_true h.2⟩
 ·rintro⟨k,h,hF⟩
  exact⟨(t,k),ð.mpr ⟨ÿ.mpr h,decide_eq_true hF⟩,rfl⟩
def Ie(us:List Tie)(F:List Int):(wo us F).length<=us.length:=by
 unfold wo
 rw[Ä]
 have:=ħ (λp:Tie×Nat=>decide (((p.2:Nat):Int)∉F)) us.zipIdx
 rw[List.length_zipIdx] at this
 exact this
def Py{n:Int}{us:List Tie}{F:List Int}(h:OkN n us):OkN n (wo us F):=λt ht=>by
 obtain⟨k,e,_⟩:=BZ.mp ht
 exact h t (Ð e)
def Ig{us:List Tie}{F:List Int}{x y:Int}:(x,y)∈adj (wo us F) [] []↔(x,y)∈adj us F []:=by
 rw[Gh,BZ,BZ,eU]
 constructor
 ·rintro(⟨k,e,h⟩|⟨k,e,h⟩)
  ·exact⟨k,.inl e,h,ý⟩
  ·exact⟨k,.inr e,h,ý⟩
 ·rintro⟨k,e|e,h,_⟩
  ·exact .inl ⟨k,e,h⟩
  ·exact .inr ⟨k,e,h⟩
def PL{us:List Tie}{F:List Int}{a b:Int}:Rt (adj (wo us F) [] []) a b↔Rt (adj us F []) a b:=⟨Rt.mono λ⟨_,_⟩ h=>Ig.mp h,Rt.mono λ⟨_,_⟩ h=>Ig.mpr h⟩
def Mj:((ê 200).all λi=>decide (Builtin.bitXor ((i:Nat):Int) 1=prt ((i:Nat):Int)))=true:=by decide +kernel
def Mi{i:Int}(h0:0<=i)(h1:i<200):Builtin.bitXor i 1=prt i:=by
 have:=Ĕ.mp Mj i.toNat (Ħ.mpr (by omega))
 rw[show((i.toNat:Nat):Int)=i by omega] at this
 exact of_decide_eq_true this
def hlf(r:List Int×List Int):List Int×List Int:=(r.1,r.2.map λi=>i / 2)
def qx(n:Nat)(us:List Tie)(a b:Int):Option ((List Int×List Int)×(List Int×List Int)):=match aug n (aD us) a b 2 [] with
 |none=>none
 |some U=>match bU n (alg (aD us) (fK U)) a b with
  |none=>none
  |some r1=>match bU n (alg (aD us) ((fK U).filter λi=>!decide (i∈r1.2))) a b with
   |none=>none
   |some r2=>some (hlf r1,hlf r2)
def VR:Option ((List Int×List Int)×(List Int×List Int))->D
 |none=>.none
 |some r=>.list [cT (some r.1),cT (some r.2)]
def ptF(n:Nat)(us:List Tie)(a b:Int):List Int->D
 |[]=>.none
 |k::r=>if RZ (adj us [k] []) a b=true then ptF n us a b r else .tuple [.str "tie",.int k,iD (rsI (adj us [k] []) n a)]
def byD(n:Nat)(us:List Tie)(a b:Int):D:=if RZ (adj us [] []) a b=true then (match qx n us a b with
  |some r=>.tuple [.str "ways",cT (some r.1),cT (some r.2)]
  |none=>match bU n (aJ us) a b with
   |some w=>ptF n us a b w.2
   |none=>.none)
 else .tuple [.str "apart",iD (rsI (adj us [] []) n a)]
def InL.nil(arcs:List Tie):InL arcs []:=⟨ü _,(λi hi=>nomatch hi)⟩
theorem tM{n:Int}{arcs:List Tie}{a b:Int}(n0:0<=n)(la:arcs.length<=200)(ok:OkA n arcs)(a0:0<=a)(a1:a<n):∀(k:Nat) {c:Int}{U V:List Int},InL arcs U->Flow arcs a b c U->aug n.toNat arcs a b k U=some V->InL arcs V/\Flow arcs a b (c+k) V
 |0,c,U,V,hU,h,e=>by
  cases e
  exact⟨hU,by rw[show c+((0:Nat):Int)=c by omega];exact h⟩
 |k+1,c,U,V,hU,h,e=>by
  unfold aug at e
  by_cases r:Rt (edg (lft arcs U)) a b
  ·obtain⟨P,K,hp,W,_,_⟩:=cW (sE n0 la ok) a0 (by omega) r
   rw[hp] at e
   have:=tM n0 la ok a0 a1 k (PJ la) (zJ h W) e
   rwa [show c+1+((k:Nat):Int)=c+((k+1:Nat):Int) by omega] at this
  ·rw[GF (sE n0 la ok) a0 (by omega) r] at e
   cases e
def qe{arcs:List Tie}{U:List Int}(h:InL arcs U):InL arcs (fK U):=⟨õ (ħ _ _) h.1,λi hi=>h.2 i (ð.mp hi).1⟩
def En{arcs:List Tie}{U K:List Int}(h:InL arcs U):InL arcs (U.filter λi=>!decide (i∈K)):=⟨õ (ħ _ _) h.1,λi hi=>h.2 i (ð.mp hi).1⟩
def xR{n:Int}{us:List Tie}{a b:Int}{U:List Int}(n0:0<=n)(lu:us.length<=100)(ok:OkN n us)(a0:0<=a)(a1:a<n)(hU:InL (aD us) U)(h:Flow (aD us) a b 2 U):∃r1 r2,bU n.toNat (alg (aD us) (fK U)) a b=some r1/\bU n.toNat (alg (aD us) ((fK U).filter λi=>!decide (i∈r1.2))) a b=some r2/\Wy (alg (aD us) (fK U)) a r1.1 r1.2 b/\Wy (alg (aD us) ((fK U).filter λi=>!decide (i∈r1.2))) a r2.1 r2.2 b/\r1.2.length<=n.toNat/\r2.2.length<=n.toNat:=by
 have f1:=Hj h
 have h1:=qe hU
 obtain⟨P1,K1,p1,W1,_,l1⟩:=cW (xG n0 (mU ok) h1) a0 (by omega) (zH (by decide) f1)
 have f2:=Hi h1 f1 W1
 obtain⟨P2,K2,p2,W2,_,l2⟩:=cW (xG n0 (mU ok) (En (K:=K1) h1)) a0 (by omega) (zH (by decide) f2)
 exact⟨(P1,K1),(P2,K2),p1,p2,W1,W2,l1,l2⟩
def HS{us:List Tie}{i:Int}(h0:0<=i)(h1:i<((aD us).length:Int)):∃t,us[(i / 2).toNat]?=some t/\(bL (aD us) i=t\/bL (aD us) i=(t.2,t.1)):=by
 have l:=dX us
 have hk:(i / 2).toNat<us.length:=by omega
 have ht:=É hk
 obtain⟨g1,g2⟩:=c7 us _ ht
 refine⟨_,ht,?_⟩
 rcases Int.emod_two_eq i with e|e
 ·left
  have:=eX g1
  rwa [show((2 * (i / 2).toNat:Nat):Int)=i by omega] at this
 ·right
  have:=eX g2
  rwa [show((2 * (i / 2).toNat+1:Nat):Int)=i by omega] at this
def Dt{us:List Tie}{a:Int}{N P K:List Int}{x:Int}(hN:InL (aD us) N)(h:Wy (alg (aD us) N) a P K x):Wy (aJ us) a P (K.map λi=>i / 2) x:=by
 induction h with
 |one=>exact .one
 |@step P K p y k h hx j ih =>
  rw[ñ]
  refine .step ih hx (cG.mpr ?_)
  obtain⟨h1,h2⟩:=eO.mp j
  obtain⟨k0,k1⟩:=hN.2 k h1
  obtain⟨t,ht,e|e⟩:=HS k0 k1
  ·rw[h2] at e
   refine⟨(k / 2).toNat,by show k / 2=_;omega,.inl ?_⟩
   rw[ht,←e]
  ·rw[h2] at e
   refine⟨(k / 2).toNat,by show k / 2=_;omega,.inr ?_⟩
   have e1:p=t.2:=congrArg Prod.fst e
   have e2:y=t.1:=congrArg Prod.snd e
   rw[ht,e1,e2]
def qt{us:List Tie}{a:Int}{P K:List Int}{x:Int}{k:Int}(h:Wy (aJ us) a P K x):k∉K->Rt (adj us [k] []) a x:=by
 induction h with
 |one=>exact λ_=>.refl _
 |@step P K p y j h hx hj ih =>
  intro hk
  refine .step (ih λz=>hk (ú _ z)) (eU.mpr ?_)
  obtain⟨i,e,ht⟩:=cG.mp hj
  refine⟨i,ht,λz=>hk (ç _ ?_),ý⟩
  rw[Ë.mp z] at e
  rw[←e]
  exact Ë.mpr rfl
def Ib{us:List Tie}{a:Int}{P K:List Int}{x:Int}(h:Wy (aJ us) a P K x):∀k∈K,0<=k/\k<(us.length:Int):=λk hk=>by
 obtain⟨p,y,h1,_⟩:=h.hop k hk
 obtain⟨j,rfl,e|e⟩:=cG.mp h1
 ·have:=(Ç.mp e).1
  omega
 ·have:=(Ç.mp e).1
  omega
def Cj{arcs:List Tie}{U K1 K2:List Int}(hU:InL arcs U)(h1:∀i∈K1,i∈fK U)(h2:∀i∈K2,i∈(fK U).filter λi=>!decide (i∈K1)):∀k∈K1.map (λi=>i / 2),k∉K2.map (λi=>i / 2):=λk hk hk2=>by
 obtain⟨i,hi,rfl⟩:=Ā.mp hk
 obtain⟨j,hj,e⟩:=Ā.mp hk2
 obtain⟨g1,g2⟩:=ð.mp (h2 j hj)
 have g2:j∉K1:=by simpa using g2
 obtain⟨u1,n1⟩:=ð.mp (h1 i hi)
 have n1:prt i∉U:=by simpa using n1
 have u2:=(ð.mp g1).1
 have ne:i≠j:=λz=>g2 (z ▸ hi)
 have r1:=hU.2 i u1
 have r2:=hU.2 j u2
 have:prt i=j:=by
  unfold prt
  by_cases c:i % 2=0
  ·rw[if_pos c]
   omega
  ·rw[if_neg c]
   omega
 rw[this] at n1
 exact n1 u2
def Px{arcs:List Tie}{N P K:List Int}{a x:Int}(h:Wy (alg arcs N) a P K x):∀i∈K,i∈N:=λi hi=>by
 obtain⟨p,y,h1,_⟩:=h.hop i hi
 exact(eO.mp h1).1
def Pq(n:Nat)(us:List Tie)(a b:Int)(d:D):Prop :=
 (¬Rt (adj us [] []) a b/\d=.tuple [.str "apart",iD (rsI (adj us [] []) n a)]) ∨
 (Rt (adj us [] []) a b/\∃k:Nat,k<us.length/\¬Rt (adj us [((k:Nat):Int)] []) a b/\d=.tuple [.str "tie",.int ((k:Nat):Int),iD (rsI (adj us [((k:Nat):Int)] []) n a)]) ∨
 (Rt (adj us [] []) a b/\(∀k:Nat,Rt (adj us [((k:Nat):Int)] []) a b)/\∃w1 w2:List Int×List Int,Wy (aJ us) a w1.1 w1.2 b/\Wy (aJ us) a w2.1 w2.2 b/\(∀k∈w1.2,k∉w2.2)/\d=.tuple [.str "ways",cT (some w1),cT (some w2)])
def Bd{us:List Tie}{a b:Int}(r:Rt (adj us [] []) a b):Rt (edg (lft (aD us) [])) a b:=Rt.mono (λ⟨x,y⟩ h=>by
 obtain⟨k,e,_⟩:=eU.mp h
 rw[jA]
 rcases e with e|e
 ·exact⟨_,eN.mpr ⟨2 * k,rfl,.inr ⟨ý,(c7 us k e).1⟩⟩⟩
 ·exact⟨_,eN.mpr ⟨2 * k+1,rfl,.inr ⟨ý,(c7 us k e).2⟩⟩⟩) r
theorem Es{n:Nat}{us:List Tie}{a b:Int}:∀{K:List Int},(∀k∈K,0<=k/\k<(us.length:Int))->(∃k∈K,¬Rt (adj us [k] []) a b)->∃k:Nat,k<us.length/\¬Rt (adj us [((k:Nat):Int)] []) a b/\ptF n us a b K=.tuple [.str "tie",.int ((k:Nat):Int),iD (rsI (adj us [((k:Nat):Int)] []) n a)]
 |[],_,⟨k,hk,_⟩=>nomatch hk
 |k::r,hr,h=>by
  unfold ptF
  by_cases e:Rt (adj us [k] []) a b
  ·rw[if_pos (bM.mpr e)]
   refine Es (λj hj=>hr j (Ê _ hj)) ?_
   obtain⟨j,hj,nj⟩:=h
   rcases Ü.mp hj with rfl|hj
   ·exact absurd e nj
   ·exact⟨j,hj,nj⟩
  ·rw[if_neg λz=>e (bM.mp z)]
   have:=hr k Ñ
   refine⟨k.toNat,by omega,?_,?_⟩
   ·rw[show((k.toNat:Nat):Int)=k by omega]
    exact e
   ·rw[show((k.toNat:Nat):Int)=k by omega]
theorem Er{n:Nat}{us:List Tie}{a b:Int}:∀K:List Int,(norm .new (ptF n us a b K)).le .n0=true
 |[]=>rfl
 |k::r=>by
  unfold ptF
  by_cases e:RZ (adj us [k] []) a b=true
  ·rw[if_pos e]
   exact Er r
  ·rw[if_neg e]
   rfl
def VB{n:Int}{us:List Tie}{a b:Int}(n0:0<=n)(lu:us.length<=100)(ok:OkN n us)(a0:0<=a)(a1:a<n):Pq n.toNat us a b (byD n.toNat us a b):=by
 unfold byD
 have la:(aD us).length<=200:=by rw[dX];omega
 have oka:=mU ok
 by_cases r:Rt (adj us [] []) a b
 ·rw[if_pos (bM.mpr r)]
  refine .inr ?_
  obtain⟨PW,KW,hw,W,_,_⟩:=cW (iB n0 lu ok) a0 (by omega) (qQ.mpr r)
  cases hU:aug n.toNat (aD us) a b 2 [] with
  |none =>
   left
   have e:qx n.toNat us a b=none:=by unfold qx;rw[hU]
   rw[e,hw]
   refine⟨r,?_⟩
   obtain⟨P1,K1,p1,W1,_⟩:=cW (sE (U:=[]) n0 la oka) a0 (by omega) (Bd r)
   have f1:=zJ (sU (aD us) a b) W1
   have nr:¬Rt (edg (lft (aD us) (sd (aD us).length [] K1))) a b:=λr2=>by
    obtain⟨P2,K2,p2,_⟩:=cW (sE n0 la oka) a0 (by omega) r2
    unfold aug at hU
    rw[p1] at hU
    dsimp only at hU
    unfold aug at hU
    rw[p2] at hU
    cases hU
   obtain⟨k,hk,nk⟩:=O9 (by simpa using f1) nr
   refine Es (Ib W) ⟨_,?_,nk⟩
   exact Classical.byContradiction λz=>nk (qt W z)
  |some U =>
   right
   obtain⟨iU,fU⟩:=tM n0 la oka a0 a1 2 (InL.nil _) (sU _ a b) hU
   obtain⟨r1,r2,p1,p2,W1,W2,_⟩:=xR n0 lu ok a0 a1 iU (by simpa using fU)
   have e:qx n.toNat us a b=some (hlf r1,hlf r2):=by
    unfold qx
    rw[hU]
    dsimp only
    rw[p1]
    dsimp only
    rw[p2]
   rw[e]
   have w1:=Dt (qe iU) W1
   have w2:=Dt (En (qe iU)) W2
   have ap:=Cj iU (Px W1) (Px W2)
   refine⟨r,λk=>?_,hlf r1,hlf r2,w1,w2,ap,rfl⟩
   by_cases h1:((k:Nat):Int)∈r1.2.map λi=>i / 2
   ·exact qt w2 (ap _ h1)
   ·exact qt w1 h1
 ·rw[if_neg λz=>r (bM.mp z)]
  exact .inl ⟨r,rfl⟩
def QB(ds:List D)(P:D->Prop):Prop:=∃n us,ds=[au n us]/\us.length<=100/\P (.list ((aD us).map pD))
def fWo(ds:List D)(P:D->Prop):Prop:=∃n us F,ds=[au n us,iD F]/\us.length<=100/\P (au n (wo us F))
def Vo(ds:List D)(P:D->Prop):Prop:=∃n us a b,ds=[au n us,.int a,.int b]/\0<=n/\n<=60/\us.length<=100/\OkN n us/\0<=a/\a<n/\P (VR (qx n.toNat us a b))
def Qt(ds:List D)(P:D->Prop):Prop:=∃n us a b w,ds=[au n us,.int a,.int b]/\1<=n/\n<=60/\us.length<=100/\OkN n us/\0<=a/\a<n/\0<=b/\b<n/\bU n.toNat (aJ us) a b=some w/\P (ptF n.toNat us a b w.2)
def fBy(ds:List D)(P:D->Prop):Prop:=∃n us a b,ds=[au n us,.int a,.int b]/\1<=n/\n<=60/\us.length<=100/\OkN n us/\0<=a/\a<n/\0<=b/\b<n/\a≠b/\P (byD n.toNat us a b)
section
variable {P:Program}{w:World}{K:Ý}{mg:Str->Option Value}{base:Heap}{f:Addr}{fd:FuncData}
def gF:FnScope ["web","numbers"] ["web","numbers"] (ak (top 21)):=zC
def eG:(["number","tie","web","numbers"]:List Str).Nodup:=by decide +kernel
def pF(F:Fun K "without_ties" "without_ties" (top 21) f fd)(B:ī mg)(ad:mg "enumerate"=none):FnOk P w K mg base CX0 1 f fd ["web","numbers"] (spD fWo):=by
 refine F.ok gF ė (λcdv A outer s H vs Q E hr h=>?_)
 have nd:=gF.nd
 refine⟨_,ó (Ù (ß (ë (À (Ì (Ã 0) Å) (À (Wr.jy B.tuple (À (Ž ["number","tie"] rfl (Wr.mO ad (À (Ì (Ã 0) Å) Á)) (λc=>(Wr.cZ (n:=2) rfl (đ (ã (i:=0) eG rfl zQ) (đ (ã (i:=1) eG rfl zQ) ŭ)))) (λc=>(Wr.dz (Ŷ hr.units (Ã 0) (Ã 3)))) (λc=>(Ã 1))) Á)) Á))))),aH h ?_⟩
 rintro ds P ⟨n,us,F,rfl,lu,q⟩
 refine⟨[.im (au n us),.sh (iD F)],by show [aF (au n us),.sh (iD F)]=_;rw[ķ],?_⟩
 refine⟨.int n,rfl,.tuple (us.map pD),rfl,?_⟩
 refine o7 us.zipIdx (λp=>ŋ [.int ((p.2:Nat):Int),pD p.1]) (λp=>decide (((p.2:Nat):Int)∉F)) (λp=>pD p.1) .imm (enum_zip us) (by rw[List.length_zipIdx];omega) ?_ ?_
 ·rintro⟨t,k⟩ hk A B h1 h2
  refine⟨rfl,rfl,š F,?_⟩
  show if (!((F.map Â).any λe=>á e (.int ((k:Nat):Int))))=true then _ else _
  rw[Ğ]
  by_cases hF:((k:Nat):Int)∈F
  ·rw[decide_eq_true hF]
   exact aC (A:=True) (h2 (decide_eq_false λz=>z hF))
  ·rw[decide_eq_false hF]
   exact aA (B:=True) ⟨rfl,h1 (decide_eq_true hF)⟩
 ·have e:((us.zipIdx.filter λp=>decide (((p.2:Nat):Int)∉F)).map λp=>pD p.1)=(wo us F).map pD:=by
   unfold wo
   rw[ĺ]
   rfl
  show _/\_/\P (.tuple [.int n,.tuple ((us.zipIdx.filter λp=>decide (((p.2:Nat):Int)∉F)).map λp=>pD p.1)])
  rw[e]
  refine⟨zK,?_,q⟩
  show(norm _ (au n (wo us F))).le .n0=true
  rw[aU (qg _ _)]
  rfl
def gJ:FnScope ["web","arcs","tie"] ["web"] (ak (top 28)):=zC
def pI(F:Fun K "arcs_of_ties" "arcs_of_ties" (top 28) f fd)(B:ī mg):FnOk P w K mg base CX0 1 f fd ["web"] (spD QB):=by
 refine F.ok gJ ė (λcdv A outer s H vs Q E hr h=>?_)
 have nd:=gJ.nd
 refine⟨_,ó (È (å (some 0) (i:=1) nd rfl zQ (â Á))
  (È (ņ þ rfl (Ĺ (Ì (Ã 0) Å)) (ã (i:=2) nd rfl zQ) (È (ń (č 1) (À (ë (À (Ì (Ã 2) Å) (À (Ì (Ã 2) Å) Á))) Á))
  (È (ń (č 1) (À (ë (À (Ì (Ã 2) Å) (À (Ì (Ã 2) Å) Á))) Á)) (î [2] æ))))
  (î [2] (Ù (ß (Ã 1)))))),aH h ?_⟩
 rintro ds P ⟨n,us,rfl,lu,q⟩
 refine⟨[.im (au n us),.any,.any],by show [aF (au n us),.any,.any]=_;rw[ķ],?_⟩
 refine⟨zK,.tuple (us.map pD),rfl,rfl,λ(i:Nat) ρ=>ρ=[.im (au n us),.dw 0 (.list ((aD (us.take i)).map pD)),.any],rfl,?_,?_⟩
 ·rintro i d ρ hd rfl
  obtain⟨t,ht,rfl⟩:=gb hd
  have hi:=(Ç.mp ht).1
  have tk:us.take (i+1)=us.take i++[t]:=by rw[Ķ,ht];rfl
  have l:=dX (us.take i)
  rw[ě] at l
  have ea:(aD (us.take (i+1))).map pD=(aD (us.take i)).map pD++[pD t]++[pD (t.2,t.1)]:=by
   unfold aD
   rw[tk,List.flatMap_append,ñ,List.append_assoc]
   rfl
  refine⟨.int t.1,rfl,.int t.2,rfl,zK,rfl,by rw[Ä];omega,.int t.2,rfl,.int t.1,rfl,zK,rfl,by rw[Í,Ä];show _+1<1000;omega,?_⟩
  show [_,Sl.dw 0 (.list ((aD (us.take i)).map pD++[pD t]++[pD (t.2,t.1)])),_]=[_,Sl.dw 0 (.list ((aD (us.take (i+1))).map pD)),_]
  rw[ea]
  rfl
 ·rintro ρ rfl
  rw[Ä,Į]
  exact⟨rfl,q⟩
def gW:FnScope ["web","a","b","arcs","used","needed"] ["web","a","b"] (ak (top 29)):=zC
def nJ:(["index","web","a","b","arcs","used","needed"]:List Str).Nodup:=by decide +kernel
def fL:(["places","indexes","web","a","b","arcs","used","needed"]:List Str).Nodup:=by decide +kernel
def nH:(["index","places","indexes","web","a","b","arcs","used","needed"]:List Str).Nodup:=by decide +kernel
def rF(F:Fun K "two_by_ties" "two_by_ties" (top 29) f fd)(B:ī mg)(bz:í P w K mg base 1 "arcs_of_ties" ["web"] (spD QB))(bE:í P w K mg base 2 "arcs_of_two" ["count","arcs","start","goal"] (spD Vn))(bP:í P w K mg base 2 "two_along" ["count","arcs","used","start","goal"] (spD Vt)):FnOk P w K mg base CX0 3 f fd ["web","a","b"] (spD Vo):=by
 refine F.ok gW ė (λcdv A outer s H vs Q E hr h=>?_)
 have nd:=gW.nd
 refine⟨_,ó (È (å none (i:=3) nd rfl zQ (Ă bz hr (À (Ã 0) Á)))
  (È (å none (i:=4) nd rfl zQ (Ă bE hr (À (Ì (Ã 0) Å) (À (Ã 3) (À (Ã 1) (À (Ã 2) Á))))))
  (È (ā (Wr.lE (Ã 4) ŧ) (Ù (ß ŧ)) æ)
  (È (Wr.jd none ["index"] (i:=5) rfl nd rfl zQ (Ĺ (Ã 4)) (λc=>(ã (i:=0) nJ rfl zQ)) (λc=>(Wr.dz (Ŷ hr.units (Wr.Np (Ã 0) Å) (Ã 5)))) (λc=>(Ã 0)))
  (Ù (ß (Ž ["places","indexes"] rfl (Ĺ (Ă bP hr (À (Ì (Ã 0) Å) (À (Ã 3) (À (Ã 5) (À (Ã 1) (À (Ã 2) Á))))))) (λc=>(Wr.cZ (n:=2) rfl (đ (ã (i:=0) fL rfl zQ) (đ (ã (i:=1) fL rfl zQ) ŭ)))) (λc=>ŷ) (λc=>(ë (À (Ã 0) (À (Ž ["index"] rfl (Ĺ (Ã 1)) (λc=>(ã (i:=0) nH rfl zQ)) (λc=>ŷ) (λc=>(Wr.vU (Ã 0) Å))) Á))))))))))),aH h ?_⟩
 rintro ds P ⟨n,us,a,b,rfl,n0,n60,lu,ok,a0,a1,q⟩
 refine⟨[.im (au n us),.im (.int a),.im (.int b),.any,.any,.any],by show [aF (au n us),.im (.int a),.im (.int b),.any,.any,.any]=_;rw[ķ],?_⟩
 have la:(aD us).length<=200:=by rw[dX];omega
 have oka:=mU ok
 refine⟨n,us,rfl,lu,.int n,rfl,n,aD us,a,b,rfl,n0,by omega,la,oka,a0,a1,?_⟩
 cases hU:aug n.toNat (aD us) a b 2 [] with
 |none =>
  have e:qx n.toNat us a b=none:=by unfold qx;rw[hU]
  rw[e] at q
  exact aA (B:=True) ⟨rfl,q⟩
 |some U =>
  obtain⟨iU,fU⟩:=tM n0 la oka a0 a1 2 (InL.nil _) (sU _ a b) hU
  obtain⟨r1,r2,p1,p2,W1,W2,l1,l2⟩:=xR n0 lu ok a0 a1 iU (by simpa using fU)
  have e:qx n.toNat us a b=some (hlf r1,hlf r2):=by
   unfold qx
   rw[hU]
   dsimp only
   rw[p1]
   dsimp only
   rw[p2]
  rw[e] at q
  refine aC (A:=True) ?_
  refine o7 U Â (λi=>!decide (prt i∈U)) Â .imm rfl (by have:=iU.1;omega) (λi hi A B hA hB=>?_) ?_
  ·refine⟨rfl,š U,?_⟩
   show if (!((U.map Â).any λe=>á e (.int (Builtin.bitXor i 1))))=true then _ else _
   have:=iU.2 i hi
   rw[Ğ,Mi this.1 (by omega)]
   exact bB (λc=>⟨rfl,hA c⟩) (λc=>hB (Bool.eq_false_iff.mpr c))
  refine⟨.int n,rfl,n,aD us,fK U,a,b,r1,r2,rfl,n0,by omega,la,oka,qe iU,a0,a1,p1,p2,?_⟩
  refine yV [r1,r2] (λr=>cT (some r)) (λr=>cT (some (hlf r))) .snw rfl (by show 2<=1000;decide) (λr hr A B h=>aA (B:=True) ?_) ?_
  ·have lr:r.2.length<=1000:=by
    simp only[Ü,ý,or_false] at hr
    rcases hr with rfl|rfl <;> omega
   refine⟨rfl,yV r.2 Â (λi=>Â (i / 2)) .imm rfl lr (λi hi A B h=>aA (B:=True) ⟨?_,rfl,h⟩) ⟨zK,?_,?_⟩⟩
   ·exact⟨by decide,by decide⟩
   ·rfl
   ·have eh:(r.2.map λi=>Â (i / 2))=(r.2.map λi=>i / 2).map Â:=by
     rw[ĺ]
     rfl
    show A (.tuple [iD r.1,.list (r.2.map λi=>Â (i / 2))])
    rw[eh]
    exact h
  exact⟨rfl,q⟩
def gZ:FnScope ["web","a","b","number","side"] ["web","a","b"] (ak (top 30)):=zC
def rH(F:Fun K "parting_tie" "parting_tie" (top 30) f fd)(B:ī mg)(bS:í P w K mg base 5 "way" ["web","a","b"] (spD Vm))(ag:í P w K mg base 2 "part_of" ["web","place"] (spD zM))(a7:í P w K mg base 1 "without_ties" ["web","numbers"] (spD fWo)):FnOk P w K mg base CX0 6 f fd ["web","a","b"] (spD Qt):=by
 refine F.ok gZ ė (λcdv A outer s H vs Q E hr h=>?_)
 have nd:=gZ.nd
 refine⟨_,ó (È (ņ þ rfl (Ĺ (Ì (Ă bS hr (À (Ã 0) (À (Ã 1) (À (Ã 2) Á)))) Å)) (ã (i:=3) nd rfl zQ) (È (å none (i:=4) nd rfl zQ (Ă ag hr (À (Ă a7 hr (À (Ã 0) (À (â (À (Ã 3) Á)) Á))) (À (Ã 1) Á))))
  (È (ā (Ŷ hr.units (Ã 2) (Ã 4)) (Ù (ß (ë (À Ĥ (À (Ã 3) (À (Ã 4) Á)))))) æ) (î [3,4] æ))))
  (î [3,4] (Ù (ß ŧ)))),aH h ?_⟩
 rintro ds P ⟨n,us,a,b,w,rfl,n0,n60,lu,ok,a0,a1,b0,b1,hw,q⟩
 refine⟨[.im (au n us),.im (.int a),.im (.int b),.any,.any],by show [aF (au n us),.im (.int a),.im (.int b),.any,.any]=_;rw[ķ],?_⟩
 generalize hG:ptF n.toNat us a b w.2=G at q
 refine⟨n,us,a,b,rfl,by omega,n60,lu,ok,a0,a1,b0,b1,?_⟩
 rw[hw]
 refine⟨iD w.2,rfl,rfl,λ(i:Nat) ρ=>ρ=[.im (au n us),.im (.int a),.im (.int b),.any,.any]/\ptF n.toNat us a b (w.2.drop i)=G,⟨rfl,hG⟩,?_,?_⟩
 ·rintro i d ρ hd ⟨rfl,e⟩
  obtain⟨k,hk,rfl⟩:=gb hd
  have dr:w.2.drop i=k::w.2.drop (i+1):=by
   have hi:=(Ç.mp hk).1
   rw[Ţ hi,(Ç.mp hk).2]
  rw[dr] at e
  unfold ptF at e
  have lw:=Ie us [k]
  have er:rsI (adj (wo us [k]) [] []) n.toNat a=rsI (adj us [k] []) n.toNat a:=Eh λx=>PL
  refine⟨zK,n,us,[k],rfl,lu,n,wo us [k],a,rfl,by omega,n60,by omega,Py ok,a0,a1,?_⟩
  rw[er]
  refine⟨rfl,š _,?_⟩
  show if (!(((rsI (adj us [k] []) n.toNat a).map Â).any λe=>á e (.int b)))=true then _ else _
  rw[Ğ]
  have mb:b∈rsI (adj us [k] []) n.toNat a↔Rt (adj us [k] []) a b:=by
   rw[nR]
   exact⟨λz=>z.2,λz=>⟨⟨b0,by omega⟩,z⟩⟩
  by_cases r:Rt (adj us [k] []) a b
  ·rw[decide_eq_true (mb.mpr r)]
   rw[if_pos (bM.mpr r)] at e
   exact aC (A:=True) ⟨rfl,e⟩
  ·rw[decide_eq_false λz=>r (mb.mp z)]
   rw[if_neg λz=>r (bM.mp z)] at e
   rw[←e] at q
   exact aA (B:=True) ⟨zK,rfl,q⟩
 ·rintro ρ ⟨rfl,e⟩
  rw[Ä,List.drop_length] at e
  have e:PyData.none=G:=e
  rw[←e] at q
  exact⟨rfl,q⟩
def qP:FnScope ["web","a","b","side","found"] ["web","a","b"] (ak (top 31)):=zC
def BL(F:Fun K "by_ties" "by_ties" (top 31) f fd)(B:ī mg)(a8:í P w K mg base 5 "check_two_places" ["web","a","b"] (spD Tc))(ag:í P w K mg base 2 "part_of" ["web","place"] (spD zM))(bX:í P w K mg base 3 "two_by_ties" ["web","a","b"] (spD Vo))(cc:í P w K mg base 6 "parting_tie" ["web","a","b"] (spD Qt)):FnOk P w K mg base CX0 7 f fd ["web","a","b"] (spD fBy):=by
 refine F.ok qP ė (λcdv A outer s H vs Q E hr h=>?_)
 have nd:=qP.nd
 refine⟨_,ó (È (Wr.dB (Ă a8 hr (À (Ã 0) (À (Ã 1) (À (Ã 2) Á)))))
  (È (å none (i:=3) nd rfl zQ (Ă ag hr (À (Ã 0) (À (Ã 1) Á))))
  (È (ā (Ŷ hr.units (Ã 2) (Ã 3)) (Ù (ß (ë (À Ĥ (À (Ã 3) Á))))) æ)
  (È (å none (i:=4) nd rfl zQ (Ă bX hr (À (Ã 0) (À (Ã 1) (À (Ã 2) Á)))))
  (È (ā (Wr.lE (Ã 4) ŧ) (Ù (ß (Ă cc hr (À (Ã 0) (À (Ã 1) (À (Ã 2) Á)))))) æ)
  (Ù (ß (ë (À Ĥ (À (Ì (Ã 4) Å) (À (Ì (Ã 4) Å) Á))))))))))),aH h ?_⟩
 rintro ds P ⟨n,us,a,b,rfl,n0,n60,lu,ok,a0,a1,b0,b1,ne,q⟩
 refine⟨[.im (au n us),.im (.int a),.im (.int b),.any,.any],by show [aF (au n us),.im (.int a),.im (.int b),.any,.any]=_;rw[ķ],?_⟩
 refine⟨n,us,a,b,rfl,a0,a1,b0,b1,ne,n,us,a,rfl,by omega,n60,lu,ok,a0,a1,rfl,š _,?_⟩
 show if (!(((rsI (adj us [] []) n.toNat a).map Â).any λe=>á e (.int b)))=true then _ else _
 rw[Ğ]
 have mb:b∈rsI (adj us [] []) n.toNat a↔Rt (adj us [] []) a b:=by
  rw[nR]
  exact⟨λz=>z.2,λz=>⟨⟨b0,by omega⟩,z⟩⟩
 unfold byD at q
 by_cases r:Rt (adj us [] []) a b
 ·rw[decide_eq_true (mb.mpr r)]
  rw[if_pos (bM.mpr r)] at q
  obtain⟨PW,KW,hw,W,_,_⟩:=cW (iB (by omega) lu ok) a0 (by omega) (qQ.mpr r)
  refine aC (A:=True) ⟨n,us,a,b,rfl,by omega,n60,lu,ok,a0,a1,?_⟩
  cases hR:qx n.toNat us a b with
  |none =>
   rw[hR,hw] at q
   refine aA (B:=True) ⟨n,us,a,b,(PW,KW),rfl,n0,n60,lu,ok,a0,a1,b0,b1,hw,?_,q⟩
   show(norm .new (ptF n.toNat us a b KW)).le .n0=true
   exact Er KW
  |some R =>
   rw[hR] at q
   refine aC (A:=True) ⟨_,rfl,_,rfl,zK,rfl,q⟩
 ·rw[decide_eq_false λz=>r (mb.mp z)]
  rw[if_neg λz=>r (bM.mp z)] at q
  exact aA (B:=True) ⟨zK,rfl,q⟩
end
def toI:D->Int
 |.int i=>i
 |_=>0
def oJ{n:Int}{d:D}(h:aM n d=true):∃i:Int,d=.int i:=by
 cases d with
 |int i=>exact⟨i,rfl⟩
 |_=>cases h
theorem ints_of{n:Int}:∀{es:List D},es.all (aM n)=true->es=(es.map toI).map Â
 |[],_=>rfl
 |d::es,h=>by
  rw[Ū,Õ] at h
  obtain⟨i,rfl⟩:=oJ h.1
  have:=ints_of h.2
  rw[ò,ò,←this]
  rfl
def cB(l:List Int):(l.map Â).map toI=l:=by rw[ĺ];exact List.map_id' l
def dF{α:Type}(l:List α):cU l none (some (-1))=l.dropLast:=by
 unfold cU
 have e1:HT.sIx l.length 0 none=0:=rfl
 have e2:HT.sIx l.length l.length (some (-1))=l.length - 1:=by
  have e:HT.sIx l.length l.length (some (-1))=((-1:Int)+(l.length:Int)).toNat:=rfl
  rw[e]
  omega
 rw[e1,e2,List.drop_zero,Nat.sub_zero,List.dropLast_eq_take]
def mQ{α:Type}(l:List α):cU l (some 1) none=l.drop 1:=by
 unfold cU
 have e1:HT.sIx l.length l.length none=l.length:=rfl
 have e2:HT.sIx l.length 0 (some 1)=min 1 l.length:=HT.kY l.length 0 1
 rw[e1,e2]
 rw[Ŵ (by rw[ŝ];omega)]
 by_cases h:1<=l.length
 ·rw[Nat.min_eq_left h]
 ·have:l=[]:=List.length_eq_zero_iff.mp (by omega)
  subst this
  rfl
def xK(a b:List Int):((a.map Â).zip (b.map Â)).map prD=(a.zip b).map pD:=by
 rw[List.zip_map,ĺ]
 rfl
def mmT(t:Tie):Tie:=(if t.2<t.1 then t.2 else t.1,if t.2 > t.1 then t.2 else t.1)
def pJ(l:List Int):Bool:=decide ((once l).length=l.length)
def yg(n a b:Int):D->Bool
 |.list es=>!es.isEmpty&&es.all (aM n)&&decide ((es.map toI).head?=some a)&&decide ((es.map toI).getLast?=some b)&&pJ (es.map toI)
 |_=>false
def Qw(ds:List D)(P:D->Prop):Prop:=∃l:List Int,ds=[.list (l.map Â)]/\l.length<=400/\P (.list ((l.dropLast.zip (l.drop 1)).map pD))
section
variable {P:Program}{w:World}{K:Ý}{mg:Str->Option Value}{base:Heap}{f:Addr}{fd:FuncData}
def sc7:FnScope ["places"] ["places"] (ak (top 18)):=zC
def Ny(F:Fun K "hops" "hops" (top 18) f fd)(B:ī mg)(mz:mg "zip"=none):FnOk P w K mg base CX0 1 f fd ["places"] (spD Qw):=by
 refine F.ok sc7 ė (λcdv A outer s H vs Q E hr h=>?_)
 refine⟨_,oh (n8 (Bp rfl B.list mz (dD (JG (dv 0) cR (bY (cV iH))) (dD (JG (dv 0) (bY iH) cR) jx)))),wI h ?_⟩
 rintro ds P ⟨l,rfl,hl,q⟩
 refine .inl ⟨?_,.inl ⟨?_,?_,.inl ⟨?_,rfl,?_⟩⟩⟩
 ·show cu (cU (l.map Â) none (some (-1)))=true
  rw[dF,←List.map_dropLast]
  exact bA _
 ·show cu (cU (l.map Â) (some 1) none)=true
  rw[mQ,←List.map_drop]
  exact bA _
 ·show(cU (l.map Â) none (some (-1))).length<=1000
  rw[dF,List.length_dropLast,Ä]
  omega
 ·show cu _=true
  rw[dF,mQ,←List.map_dropLast,←List.map_drop,xK]
  exact nY _
 ·show P _
  rw[dF,mQ,←List.map_dropLast,←List.map_drop,xK]
  exact q
end
def xg{l:List Int}{y:Int}(h:l.getLast?=some y):atI (l.map Â) (-1)=some (.int y):=by
 obtain⟨l',rfl⟩:=List.getLast?_eq_some_iff.mp h
 rw[ñ]
 exact Lw _ _
def Pk(d:D):Prop:=∀es,d=.list es->es.length<=400
def Vp(ds:List D)(P:D->Prop):Prop:=∃n us a b d,ds=[au n us,.int a,.int b,d]/\Pk d/\P (.bool (yg n a b d))
section
variable {P:Program}{w:World}{K:Ý}{mg:Str->Option Value}{base:Heap}{f:Addr}{fd:FuncData}
def dM:FnScope ["web","a","b","thing"] ["web","a","b","thing"] (ak (top 16)):=zC
def gP:(["place","web","a","b","thing"]:List Str).Nodup:=by decide +kernel
def jJ(F:Fun K "is_row_of_places" "is_row_of_places" (top 16) f fd)(B:ī mg)(a9:mg "set"=none)(aT:í P w K mg base 3 "is_place" ["web","thing"] (spD K7)):FnOk P w K mg base CX0 4 f fd ["web","a","b","thing"] (spD Vp):=by
 refine F.ok dM ė (λcdv A outer s H vs Q E hr h=>?_)
 have nd:=dM.nd
 refine⟨_,ó (È (ā (ű (Ŀ (Ď (Đ (Ń mj B.isinstance (Ã 3) (Wr.wty rfl B.list boot_list)))) (ū (Ď (Wr.pU (Ã 3)))))) (Ù (ß Ĳ)) æ)
  (È (ā (Ď (Đ (Wr.nC rfl B.all Dl.boot_all (À (Ž ["place"] rfl (Ĺ (Ã 3)) (λc=>(ã (i:=0) gP rfl zQ)) (λc=>ŷ) (λc=>(Ă aT hr (À (Ã 1) (À (Ã 0) Á))))) Á)))) (Ù (ß Ĳ)) æ)
  (Ù (ß (ŀ (ş hr.units (Ì (Ã 3) Å) (Ã 1)) (ŀ (ş hr.units (Ì (Ã 3) (Wr.cV Å)) (Ã 2)) (Ų (ş hr.units (Wr.jz rfl a9 B.len (À (Ã 3) Á)) (Ĝ B.len (À (Ã 3) Á)))))))))),aH h ?_⟩
 rintro ds P ⟨n,us,a,b,d,rfl,hf,q⟩
 refine⟨[.im (au n us),.im (.int a),.im (.int b),aF d],by show [aF (au n us),_,_,aF d]=_;rw[ķ];rfl,?_⟩
 cases d with
 |list es =>
  have hl:=hf es rfl
  cases hes:es with
  |nil =>
   subst hes
   exact aC (A:=True) (aA (B:=True) ⟨rfl,q⟩)
  |cons e0 es0 =>
   rw[←hes]
   refine aC (A:=True) ?_
   have ne:es.isEmpty=false:=by rw[hes];rfl
   show if (!(!es.isEmpty))=true then _ else _
   rw[ne]
   refine aC (A:=True) (yV es (λd=>d) (λd=>.bool (aM n d)) .imm (List.map_id' es).symm (by omega) (λd hd A B hA=>?_) ?_)
   ·by_cases hi:cL d=true
    ·have en:∀k,norm k d=.imm:=λk=>aU hi
     unfold gNm
     simp only[en]
     exact aA (B:=True) ⟨n,us,d,rfl,rfl,hA⟩
    ·have en:∀k,norm k d=k:=λk=>bN hi
     unfold gNm
     simp only[en]
     exact aA (B:=True) ⟨n,us,d,rfl,rfl,hA⟩
   refine⟨es.map (aM n),by rw[ĺ];rfl,?_⟩
   rw[List.all_map]
   have q1:P (.bool ((((!es.isEmpty&&es.all (aM n))&&decide ((es.map toI).head?=some a))&&decide ((es.map toI).getLast?=some b))&&pJ (es.map toI))):=q
   rw[ne] at q1
   show if (!es.all (aM n))=true then _ else _
   cases ha:es.all (aM n) with
   |false =>
    rw[ha] at q1
    exact aA (B:=True) ⟨rfl,q1⟩
   |true =>
    rw[ha] at q1
    have ei:=ints_of ha
    generalize es.map toI=l at ei q1
    subst ei
    have q1:P (.bool ((decide (l.head?=some a)&&decide (l.getLast?=some b))&&pJ l)):=q1
    have l0:l≠[]:=λz=>by rw[z] at hes;cases hes
    have ll:(l.map Â).length=l.length:=Ä ..
    have lp:=Ĵ.mpr l0
    obtain⟨x,hx⟩:∃x,l.head?=some x:=by
     cases l with
     |nil=>exact absurd rfl l0
     |cons x l=>exact⟨x,rfl⟩
    obtain⟨y,hy⟩:∃y,l.getLast?=some y:=⟨_,List.getLast?_eq_some_getLast l0⟩
    have ax:atI (l.map Â) 0=some (.int x):=bK (j:=0) (by rw[Û,←List.head?_eq_getElem?,hx];rfl)
    have ay:atI (l.map Â) (-1)=some (.int y):=xg hy
    refine aC (A:=True) ⟨.int x,ax,?_⟩
    rw[hx,hy] at q1
    have ea:decide (some x=some a)=decide (x=a):=by simp
    have eb:decide (some y=some b)=decide (y=b):=by simp
    rw[ea,eb] at q1
    show if decide (x=a)=true then _ else _
    refine bB (λc=>?_) (λc=>⟨rfl,?_⟩)
    ·rw[c] at q1
     refine⟨.int y,ay,?_⟩
     show if decide (y=b)=true then _ else _
     refine bB (λc=>?_) (λc=>⟨rfl,?_⟩)
     ·rw[c] at q1
      refine⟨_,l,rfl,by omega,rfl,?_⟩
      have q1:P (.bool (pJ l)):=q1
      show P (.bool (decide ((((once l).length:Nat):Int)=(((l.map Â).length:Nat):Int))))
      have e:decide ((((once l).length:Nat):Int)=(((l.map Â).length:Nat):Int))=pJ l:=by
       unfold pJ
       rw[Ä,ĕ,decide_eq_true_eq,decide_eq_true_eq]
       omega
      rw[e]
      exact q1
     ·have c:decide (y=b)=false:=by simpa using c
      rw[c] at q1
      exact q1
    ·have c:decide (x=a)=false:=by simpa using c
     rw[c] at q1
     exact q1
 |tuple es=>rcases aY (.tuple es) with e|e <;> rw[e] <;> exact aA (B:=True) ⟨rfl,q⟩
 |_=>exact aA (B:=True) ⟨rfl,q⟩
end
def U9:D->Nat
 |.list es=>es.length
 |_=>0
def mG(n m a b:Int):D->Bool
 |.tuple [d1,.list ns]=>yg n a b d1&&(decide (((ns.length:Nat):Int)=((U9 d1:Nat):Int) - 1)&&ns.all (aM m))
 |_=>false
def LQ(d:D):Prop:=∀es,d=.tuple es->∀e∈es,Pk e
def Qy(ds:List D)(P:D->Prop):Prop:=∃n us a b d,ds=[au n us,.int a,.int b,d]/\LQ d/\P (.bool (mG n (us.length:Nat) a b d))
def yd{n a b:Int}{d:D}(h:yg n a b d=true):∃es,d=.list es:=by
 cases d with
 |list es=>exact⟨es,rfl⟩
 |_=>cases h
def zG{n m a b:Int}{es:List D}(h:es.length≠2):mG n m a b (.tuple es)=false:=by
 match es,h with
 |[],_=>rfl
 |[_],_=>rfl
 |[_,_],h=>exact absurd rfl h
 |_::x::_::_,_=>cases x <;> rfl
section
variable {P:Program}{w:World}{K:Ý}{mg:Str->Option Value}{base:Heap}{f:Addr}{fd:FuncData}
def dY:FnScope ["web","a","b","thing"] ["web","a","b","thing"] (ak (top 17)):=zC
def iQ:(["number","web","a","b","thing"]:List Str).Nodup:=by decide +kernel
def j4(F:Fun K "has_form_of_way" "has_form_of_way" (top 17) f fd)(B:ī mg)(cf:í P w K mg base 4 "is_row_of_places" ["web","a","b","thing"] (spD Vp))(ba:í P w K mg base 3 "is_tie_number" ["web","thing"] (spD K6)):FnOk P w K mg base CX0 5 f fd ["web","a","b","thing"] (spD Qy):=by
 refine F.ok dY ė (λcdv A outer s H vs Q E hr h=>?_)
 have nd:=dY.nd
 refine⟨_,ó (È (ā (ű (Ŀ (Ď (Đ (Ń kit_tuple B.isinstance (Ã 3) (Wr.wty rfl B.tuple boot_tuple)))) (ū (Ľ hr.units (Ĝ B.len (À (Ã 3) Á)) Å)))) (Ù (ß Ĳ)) æ)
  (È (ā (ű (Ŀ (Ď (Đ (Ă cf hr (À (Ã 0) (À (Ã 1) (À (Ã 2) (À (Ì (Ã 3) Å) Á))))))) (ū (Ď (Đ (Ń mj B.isinstance (Ì (Ã 3) Å) (Wr.wty rfl B.list boot_list))))))) (Ù (ß Ĳ)) æ)
  (Ù (ß (ŀ (ş hr.units (Ĝ B.len (À (Ì (Ã 3) Å) Á)) (Wr.dI (Ĝ B.len (À (Ì (Ã 3) Å) Á)) Å)) (Ų (Wr.nC rfl B.all Dl.boot_all (À (Ž ["number"] rfl (Ĺ (Ì (Ã 3) Å)) (λc=>(ã (i:=0) iQ rfl zQ)) (λc=>ŷ) (λc=>(Ă ba hr (À (Ã 1) (À (Ã 0) Á))))) Á)))))))),aH h ?_⟩
 rintro ds P ⟨n,us,a,b,d,rfl,hf,q⟩
 refine⟨[.im (au n us),.im (.int a),.im (.int b),aF d],by show [aF (au n us),_,_,aF d]=_;rw[ķ];rfl,?_⟩
 cases d with
 |tuple es =>
  by_cases h2:es.length=2
  ·obtain⟨d1,d2,rfl⟩:∃d1 d2,es=[d1,d2]:=by
    match es,h2 with
    |[x,y],_=>exact⟨x,y,rfl⟩
   have f1:=hf _ rfl d1 Ñ
   have f2:=hf _ rfl d2 (Ê _ Ñ)
   rcases aY (.tuple [d1,d2]) with e|e
   all_goals
    rw[e]
    refine aC (A:=True) (aC (A:=True) ⟨d1,rfl,n,us,a,b,d1,rfl,f1,?_⟩)
    show if (!yg n a b d1)=true then _ else _
    cases hr:yg n a b d1 with
    |false =>
     have e0:mG n ((us.length:Nat):Int) a b (.tuple [d1,d2])=false:=by
      cases d2 with
      |list ns=>show(yg n a b d1&&_)=false;rw[hr];rfl
      |_=>rfl
     rw[e0] at q
     exact aA (B:=True) ⟨rfl,q⟩
    |true =>
     refine aC (A:=True) ⟨d2,rfl,?_⟩
     cases d2 with
     |list ns =>
      obtain⟨es1,rfl⟩:=yd hr
      have hn:=f2 ns rfl
      have q1:P (.bool (yg n a b (.list es1)&&(decide (((ns.length:Nat):Int)=((es1.length:Nat):Int) - 1)&&ns.all (aM ((us.length:Nat):Int))))):=q
      rw[hr,Ċ] at q1
      refine aC (A:=True) ⟨.list ns,rfl,.list es1,rfl,?_⟩
      show if decide (((ns.length:Nat):Int)=((es1.length:Nat):Int) - 1)=true then _ else _
      refine bB (λc=>?_) (λc=>⟨rfl,?_⟩)
      ·rw[c,Ċ] at q1
       refine⟨.list ns,rfl,yV ns (λd=>d) (λd=>.bool (aM ((us.length:Nat):Int) d)) .imm (List.map_id' ns).symm (by omega) (λd hd A B hA=>?_) ?_⟩
       ·by_cases hi:cL d=true
        ·have en:∀k,norm k d=.imm:=λk=>aU hi
         unfold gNm
         simp only[en]
         exact aA (B:=True) ⟨n,us,d,rfl,rfl,hA⟩
        ·have en:∀k,norm k d=k:=λk=>bN hi
         unfold gNm
         simp only[en]
         exact aA (B:=True) ⟨n,us,d,rfl,rfl,hA⟩
       ·refine⟨ns.map (aM ((us.length:Nat):Int)),by rw[ĺ];rfl,rfl,?_⟩
        rw[List.all_map]
        exact q1
      ·have c:decide (((ns.length:Nat):Int)=((es1.length:Nat):Int) - 1)=false:=by simpa using c
       rw[c] at q1
       exact q1
     |_=>exact aA (B:=True) ⟨rfl,q⟩
  ·rw[zG h2] at q
   have c:decide (((es.length:Nat):Int)=2)=false:=decide_eq_false λz=>h2 (by omega)
   rcases aY (.tuple es) with e|e
   all_goals
    rw[e]
    refine aC (A:=True) ?_
    show if (!decide (((es.length:Nat):Int)=2))=true then _ else _
    rw[c]
    exact aA (B:=True) ⟨rfl,q⟩
 |list es=>exact aA (B:=True) ⟨rfl,q⟩
 |_=>exact aA (B:=True) ⟨rfl,q⟩
end
def qj(t u:Tie):á (pD t) (pD u)=decide (t=u):=by
 show(t.1 == u.1&&(t.2 == u.2&&true))=_
 rw[ĕ]
 simp[Prod.ext_iff]
def qG(both:Bool)(us:List Tie)(h:Tie)(k:Int):Bool:=decide (us[k.toNat]?=some (if both=true then mmT h else h))
def jT(l:List Int):List Tie:=l.dropLast.zip (l.drop 1)
def Ar(both:Bool)(us:List Tie):D->Bool
 |.tuple [.list es,.list ns]=>((jT (es.map toI)).zip (ns.map toI)).all λp=>qG both us p.1 p.2
 |_=>false
def bZ(both:Bool)(n:Int)(us:List Tie)(a b:Int)(d:D):Bool:=mG n (us.length:Nat) a b d&&Ar both us d
def K5(both:Bool)(ds:List D)(P:D->Prop):Prop:=∃n us a b d,ds=[au n us,.int a,.int b,d]/\0<=a/\a<n/\0<=b/\b<n/\LQ d/\P (.bool (bZ both n us a b d))
def jD{n m a b:Int}{d:D}(h:mG n m a b d=true):∃ps ks:List Int,d=.tuple [iD ps,iD ks]/\∀k∈ks,0<=k/\k<m:=by
 match d,h with
 |.tuple [d1,.list ns],h =>
  have h:(yg n a b d1&&(decide (((ns.length:Nat):Int)=((U9 d1:Nat):Int) - 1)&&ns.all (aM m)))=true:=h
  rw[Õ,Õ] at h
  obtain⟨es,rfl⟩:=yd h.1
  have h1:((((!es.isEmpty&&es.all (aM n))&&decide ((es.map toI).head?=some a))&&decide ((es.map toI).getLast?=some b))&&pJ (es.map toI))=true:=h.1
  simp only[Õ] at h1
  have e1:=ints_of h1.1.1.1.2
  have e2:=ints_of h.2.2
  refine⟨es.map toI,ns.map toI,?_,λk hk=>?_⟩
  ·unfold iD
   rw[←e1,←e2]
  ·obtain⟨e,he,rfl⟩:=Ā.mp hk
   have hb:=Ĕ.mp h.2.2 e he
   obtain⟨i,rfl⟩:=oJ hb
   exact of_decide_eq_true hb
section
variable {P:Program}{w:World}{K:Ý}{mg:Str->Option Value}{base:Heap}{f:Addr}{fd:FuncData}
def uy:FnScope ["web","a","b","thing"] ["web","a","b","thing"] (ak (top 19)):=zC
def oZ:(["hop","number","web","a","b","thing"]:List Str).Nodup:=by decide +kernel
def GP(F:Fun K "is_way" "is_way" (top 19) f fd)(B:ī mg)(ci:mg "zip"=none)(ae:í P w K mg base 4 "check_place" ["web","thing"] (spD OJ))(ck:í P w K mg base 5 "has_form_of_way" ["web","a","b","thing"] (spD Qy))(cn:í P w K mg base 1 "hops" ["places"] (spD Qw)):FnOk P w K mg base CX0 6 f fd ["web","a","b","thing"] (spD (K5 true)):=by
 refine F.ok uy ė (λcdv A outer s H vs Q E hr h=>?_)
 have nd:=uy.nd
 refine⟨_,ó (È (Wr.dB (Ă ae hr (À (Ã 0) (À (Ã 1) Á))))
  (È (Wr.dB (Ă ae hr (À (Ã 0) (À (Ã 2) Á))))
  (È (ā (Ď (Đ (Ă ck hr (À (Ã 0) (À (Ã 1) (À (Ã 2) (À (Ã 3) Á))))))) (Ù (ß Ĳ)) æ)
  (Ù (ß (Wr.nC rfl B.all Dl.boot_all (À (Ž ["hop","number"] rfl (Wr.CV ci (À (Ă cn hr (À (Ì (Ã 3) Å) Á)) (À (Ì (Ã 3) Å) Á))) (λc=>(Wr.cZ (n:=2) rfl (đ (ã (i:=0) oZ rfl zQ) (đ (ã (i:=1) oZ rfl zQ) ŭ)))) (λc=>ŷ) (λc=>(ş hr.units (Ì (Ì (Ã 2) Å) (Ã 1)) (ë (À (Wr.vP rfl B.min (À (Ã 0) Á)) (À (Wr.vQ rfl B.max (À (Ã 0) Á)) Á)))))) Á))))))),aH h ?_⟩
 rintro ds P ⟨n,us,a,b,d,rfl,a0,a1,b0,b1,hf,q⟩
 refine⟨[.im (au n us),.im (.int a),.im (.int b),aF d],by show [aF (au n us),_,_,aF d]=_;rw[ķ];rfl,?_⟩
 rcases aY d with e|e
 all_goals
  rw[e]
  refine⟨n,us,a,rfl,a0,a1,n,us,b,rfl,b0,b1,n,us,a,b,d,rfl,hf,?_⟩
  show if (!mG n ((us.length:Nat):Int) a b d)=true then _ else _
  cases hr:mG n ((us.length:Nat):Int) a b d with
  |false =>
   have q1:P (.bool (mG n ((us.length:Nat):Int) a b d&&Ar true us d)):=q
   rw[hr] at q1
   exact aA (B:=True) ⟨rfl,q1⟩
  |true =>
   obtain⟨ps,ks,rfl,hk⟩:=jD hr
   have q1:P (.bool (mG n ((us.length:Nat):Int) a b (.tuple [iD ps,iD ks])&&Ar true us (.tuple [iD ps,iD ks]))):=q
   rw[hr,Ċ] at q1
   have q1:P (.bool (((jT ((ps.map Â).map toI)).zip ((ks.map Â).map toI)).all λp=>qG true us p.1 p.2)):=q1
   rw[cB,cB] at q1
   refine aC (A:=True) ⟨iD ps,rfl,ps,rfl,?_,?_⟩
   ·have:=hf _ rfl (iD ps) Ñ _ rfl
    rw[Ä] at this
    exact this
   refine⟨iD ks,rfl,yV ((jT ps).zip ks) (λp=>prD (pD p.1,.int p.2)) (λp=>.bool (qG true us p.1 p.2)) .imm ?_ ?_ (λp hp A B hA=>?_) ?_⟩
   ·show(((jT ps).map pD).zip (ks.map Â)).map prD=_
    rw[List.zip_map,ĺ]
    rfl
   ·have:=hf _ rfl (iD ks) (Ê _ Ñ) _ rfl
    rw[Ä] at this
    rw[List.length_zip]
    omega
   ·obtain⟨h,k⟩:=p
    have k1:=hk k (List.of_mem_zip hp).2
    have hlt:k.toNat<us.length:=by omega
    have ht:=É hlt
    generalize us[k.toNat]=t at ht
    have att:atI (us.map pD) k=some (pD t):=by
     have:=bK (xs:=us.map pD) (j:=k.toNat) (v:=pD t) (by rw[Û,ht];rfl)
     rwa [show((k.toNat:Nat):Int)=k by omega] at this
    refine⟨rfl,aA (B:=True) ⟨.tuple (us.map pD),rfl,pD t,att,zK,rfl,rfl,rfl,?_⟩⟩
    show A (.bool (á (pD t) (pD (mmT h))))
    rw[qj]
    have e:qG true us h k=decide (t=mmT h):=by
     unfold qG
     rw[ht]
     simp
    rw[←e]
    exact hA
   ·refine⟨((jT ps).zip ks).map λp=>qG true us p.1 p.2,by rw[ĺ];rfl,rfl,?_⟩
    rw[List.all_map]
    exact q1
end
def cg(w:Str):D->Bool
 |.str x=>decide (x=w)
 |_=>false
def hasB(w:Str)(c:Int):D->Bool
 |.tuple (e::es)=>decide ((((e::es).length:Nat):Int)=c)&&cg w e
 |_=>false
def OD(ds:List D)(P:D->Prop):Prop:=∃d w c,ds=[d,.str w,.int c]/\1<=c/\P (.bool (hasB w c d))
def at0{x:D}{r:List D}:atI (x::r) 0=some x:=by
 have:atI (x::r) ((0:Nat):Int)=some x:=bK rfl
 exact this
def kW(l:List Int):D->Bool
 |.list es=>es.all isW&&decide (es.map toI=l)
 |_=>false
structure ThD(d:D):Prop where
 few:LQ d
 row:∀es,d=.tuple es->∀e∈es,LQ e
def KZ(ds:List D)(P:D->Prop):Prop:=∃d l,ds=[d,iD l]/\Pk d/\P (.bool (kW l d))
def qI(p q:List Int):Bool:=p.any λx=>decide (x∈q)
def KY(ds:List D)(P:D->Prop):Prop:=∃p q:List Int,ds=[iD p,iD q]/\p.length<=400/\P (.bool (qI p q))
def uJ:D->List Int
 |.tuple [_,.list ns]=>ns.map toI
 |_=>[]
def tR(n:Int)(us:List Tie)(a b:Int):D->Bool
 |.tuple [e,x,y]=>cg "ways" e&&(bZ true n us a b x&&(bZ true n us a b y&&!qI (uJ x) (uJ y)))
 |_=>false
def f2W(ds:List D)(P:D->Prop):Prop:=∃n us a b d,ds=[au n us,.int a,.int b,d]/\0<=a/\a<n/\0<=b/\b<n/\ThD d/\P (.bool (tR n us a b d))
def Fq{d:D}(h:isW d=true):∃i:Int,d=.int i:=by
 cases d with
 |int i=>exact⟨i,rfl⟩
 |_=>cases h
theorem wF:∀{es:List D},es.all isW=true->es=(es.map toI).map Â
 |[],_=>rfl
 |d::es,h=>by
  rw[Ū,Õ] at h
  obtain⟨i,rfl⟩:=Fq h.1
  have:=wF h.2
  rw[ò,ò,←this]
  rfl
def jB{w:Str}{d:D}(h:hasB w 3 d=true):∃e x y,d=.tuple [e,x,y]/\cg w e=true:=by
 match d,h with
 |.tuple (e::es),h =>
  have h:(decide ((((e::es).length:Nat):Int)=3)&&cg w e)=true:=h
  rw[Õ,decide_eq_true_eq] at h
  match es,h with
  |[x,y],h=>exact⟨e,x,y,rfl,h.2⟩
  |[],h=>exact absurd h.1 (by show ¬(((1:Nat):Int)=3);decide)
  |[_],h=>exact absurd h.1 (by show ¬(((2:Nat):Int)=3);decide)
  |_::_::_::r,h=>exact absurd h.1 (by show ¬(((r.length+4:Nat):Int)=3);omega)
def Ft{w:Str}{d:D}(h:hasB w 2 d=true):∃e x,d=.tuple [e,x]/\cg w e=true:=by
 match d,h with
 |.tuple (e::es),h =>
  have h:(decide ((((e::es).length:Nat):Int)=2)&&cg w e)=true:=h
  rw[Õ,decide_eq_true_eq] at h
  match es,h with
  |[x],h=>exact⟨e,x,rfl,h.2⟩
  |[],h=>exact absurd h.1 (by show ¬(((1:Nat):Int)=2);decide)
  |_::_::r,h=>exact absurd h.1 (by show ¬(((r.length+3:Nat):Int)=2);omega)
def zm{w:Str}{e x y:D}(h:hasB w 3 (.tuple [e,x,y])=false):cg w e=false:=by
 have h:(decide (((3:Nat):Int)=3)&&cg w e)=false:=h
 simpa using h
def Kq{w:Str}{e x:D}(h:hasB w 2 (.tuple [e,x])=false):cg w e=false:=by
 have h:(decide (((2:Nat):Int)=2)&&cg w e)=false:=h
 simpa using h
def Ip{n:Int}{us:List Tie}{a b:Int}{d:D}(h:hasB "ways" 3 d=false):tR n us a b d=false:=by
 match d,h with
 |.tuple [e,x,y],h=>show(cg "ways" e&&_)=false;rw[zm h];rfl
 |.tuple [],_=>rfl
 |.tuple [_],_=>rfl
 |.tuple [_,_],_=>rfl
 |.tuple (_::_::_::_::_),_=>rfl
 |.none,_=>rfl
 |.bool _,_=>rfl
 |.int _,_=>rfl
 |.str _,_=>rfl
 |.list _,_=>rfl
 |.dict _,_=>rfl
section
variable {P:Program}{w:World}{K:Ý}{mg:Str->Option Value}{base:Heap}{f:Addr}{fd:FuncData}{CN:Addr}
def oX:FnScope ["thing","word","count"] ["thing","word","count"] (ak (top 33)):=zC
def yL(F:Fun K "has_form" "has_form" (top 33) f fd)(B:ī mg)(ah:mg "str"=none):FnOk P w K mg base CX0 1 f fd ["thing","word","count"] (spD OD):=by
 refine F.ok oX ė (λcdv A outer s H vs Q E hr h=>?_)
 have nd:=oX.nd
 refine⟨_,ó (È (ā (ű (Ŀ (Ď (Đ (Ń kit_tuple B.isinstance (Ã 0) (Wr.wty rfl B.tuple boot_tuple)))) (ū (Ľ hr.units (Ĝ B.len (À (Ã 0) Á)) (Ã 2))))) (Ù (ß Ĳ)) æ)
  (Ù (ß (ŀ (Ń Fl B.isinstance (Ì (Ã 0) Å) (Wr.wty rfl ah Dl.boot_str)) (Ų (ş hr.units (Ì (Ã 0) Å) (Ã 1))))))),aH h ?_⟩
 rintro ds P ⟨d,w,c,rfl,c1,q⟩
 refine⟨[aF d,.im (.str w),.im (.int c)],rfl,?_⟩
 cases d with
 |tuple es =>
  rcases aY (.tuple es) with e|e
  all_goals
   rw[e]
   show if (!decide (((es.length:Nat):Int)=c))=true then _ else _
   by_cases h:((es.length:Nat):Int)=c
   ·rw[decide_eq_true h]
    refine aC ?_
    match es,h,q with
    |[],h,q=>exact absurd h (by show ¬(0:Int)=c;omega)
    |x::r,h,q =>
     have a0:=at0 (x:=x) (r:=r)
     have q:P (.bool (decide ((((x::r).length:Nat):Int)=c)&&cg w x)):=q
     rw[decide_eq_true h,Ċ] at q
     refine⟨x,a0,?_⟩
     cases x with
     |str s=>exact aA (B:=True) ⟨.str s,a0,rfl,q⟩
     |_=>exact aC (A:=True) ⟨rfl,q⟩
   ·rw[decide_eq_false h]
    refine aA ⟨rfl,?_⟩
    match es,h,q with
    |[],h,q=>exact q
    |x::r,h,q =>
     have q:P (.bool (decide ((((x::r).length:Nat):Int)=c)&&cg w x)):=q
     rw[decide_eq_false h,Bool.false_and] at q
     exact q
 |_=>exact aA (B:=True) ⟨rfl,q⟩
def iw:FnScope ["thing","some"] ["thing","some"] (ak (top 34)):=zC
def nP:(["place","thing","some"]:List Str).Nodup:=by decide +kernel
def rM(F:Fun K "is_same_set" "is_same_set" (top 34) f fd)(B:ī mg)(cq:í P w K mg base 1 "is_whole" ["thing"] (spD Cv)):FnOk P w K mg base CX0 2 f fd ["thing","some"] (spD KZ):=by
 refine F.ok iw ė (λcdv A outer s H vs Q E hr h=>?_)
 have nd:=iw.nd
 refine⟨_,ó (Ù (ß (ŀ (Ń mj B.isinstance (Ã 0) (Wr.wty rfl B.list boot_list)) (ŀ (Wr.nC rfl B.all Dl.boot_all (À (Ž ["place"] rfl (Ĺ (Ã 0)) (λc=>(ã (i:=0) nP rfl zQ)) (λc=>ŷ) (λc=>(Ă cq hr (À (Ã 0) Á)))) Á)) (Ų (ş hr.units (Ã 0) (Ã 1))))))),aH h ?_⟩
 rintro ds P ⟨d,l,rfl,fd,q⟩
 refine⟨[aF d,.sh (iD l)],rfl,?_⟩
 cases d with
 |list es =>
  have hl:=fd es rfl
  refine aA (B:=True) (yV es (λd=>d) (λd=>.bool (isW d)) .imm (List.map_id' es).symm (by omega) (λd hd A B hA=>?_) ?_)
  ·by_cases hi:cL d=true
   ·have en:∀k,norm k d=.imm:=λk=>aU hi
    unfold gNm
    simp only[en]
    exact aA (B:=True) ⟨d,rfl,rfl,hA⟩
   ·have en:∀k,norm k d=k:=λk=>bN hi
    unfold gNm
    simp only[en]
    exact aA (B:=True) ⟨d,rfl,rfl,hA⟩
  refine⟨es.map isW,by rw[ĺ];rfl,?_⟩
  rw[List.all_map]
  have q1:P (.bool (es.all isW&&decide (es.map toI=l))):=q
  show if es.all isW=true then _ else _
  cases ha:es.all isW with
  |false =>
   rw[ha] at q1
   exact aC (A:=True) ⟨rfl,q1⟩
  |true =>
   rw[ha] at q1
   have ei:=wF ha
   generalize es.map toI=k at ei q1
   subst ei
   refine aA (B:=True) ⟨rN _,rN _,rfl,?_⟩
   show P (.bool (á (iD k) (iD l)))
   have e:á (iD k) (iD l)=decide (k=l):=by
    clear q1 q ha hl fd
    induction k generalizing l with
    |nil=>cases l <;> simp[iD,á,PyData.eqvAll]
    |cons x k ih =>
     cases l with
     |nil=>rfl
     |cons y l =>
      have:=ih (l:=l)
      show(x == y&&á (iD k) (iD l))=_
      rw[this,ĕ]
      simp
   rw[e]
   exact q1
 |tuple es=>rcases aY (.tuple es) with e|e <;> rw[e] <;> exact aC (A:=True) ⟨rfl,q⟩
 |_=>exact aC (A:=True) ⟨rfl,q⟩
def xZ:FnScope ["one","other"] ["one","other"] (ak (top 35)):=zC
def BR:(["number","one","other"]:List Str).Nodup:=by decide +kernel
def JT(F:Fun K "share" "share" (top 35) f fd)(B:ī mg)(cv:mg "any"=none):FnOk P w K mg base CX0 1 f fd ["one","other"] (spD KY):=by
 refine F.ok xZ ė (λcdv A outer s H vs Q E hr h=>?_)
 have nd:=xZ.nd
 refine⟨_,ó (Ù (ß (Wr.Bs rfl cv (À (Ž ["number"] rfl (Ĺ (Ã 0)) (λc=>(ã (i:=0) BR rfl zQ)) (λc=>ŷ) (λc=>(Wr.uG hr.units (Ã 0) (Ã 2)))) Á)))),aH h ?_⟩
 rintro ds P ⟨p,q',rfl,lp,q⟩
 refine⟨[.sh (iD p),.sh (iD q')],rfl,?_⟩
 refine yV p Â (λx=>.bool (decide (x∈q'))) .imm rfl (by omega) (λx hx A B hA=>aA (B:=B) ⟨rfl,š q',rfl,?_⟩) ?_
 ·show A (.bool ((q'.map Â).any λe=>á e (.int x)))
  rw[Ğ]
  exact hA
 ·refine⟨p.map λx=>decide (x∈q'),by rw[ĺ];rfl,rfl,?_⟩
  rw[List.any_map]
  exact q
def iu:FnScope ["web","a","b","thing"] ["web","a","b","thing"] (ak (top 36)):=zC
def rK(F:Fun K "is_two_ways" "is_two_ways" (top 36) f fd)(B:ī mg)(ar:í P w K mg base 1 "has_form" ["thing","word","count"] (spD OD))(bj:í P w K mg base 6 "is_way" ["web","a","b","thing"] (spD (K5 true)))(cw:í P w K mg base 1 "share" ["one","other"] (spD KY)):FnOk P w K mg base CX0 7 f fd ["web","a","b","thing"] (spD f2W):=by
 refine F.ok iu ė (λcdv A outer s H vs Q E hr h=>?_)
 have nd:=iu.nd
 refine⟨_,ó (È (ā (Ď (Đ (Ă ar hr (À (Ã 3) (À Ĥ (À Å Á)))))) (Ù (ß Ĳ)) æ)
  (È (ā (ű (Ŀ (Ď (Đ (Ă bj hr (À (Ã 0) (À (Ã 1) (À (Ã 2) (À (Ì (Ã 3) Å) Á))))))) (ū (Ď (Đ (Ă bj hr (À (Ã 0) (À (Ã 1) (À (Ã 2) (À (Ì (Ã 3) Å) Á)))))))))) (Ù (ß Ĳ)) æ)
  (Ù (ß (Wr.vN (Ă cw hr (À (Ì (Ì (Ã 3) Å) Å) (À (Ì (Ì (Ã 3) Å) Å) Á)))))))),aH h ?_⟩
 rintro ds P ⟨n,us,a,b,d,rfl,a0,a1,b0,b1,th,q⟩
 refine⟨[.im (au n us),.im (.int a),.im (.int b),aF d],by show [aF (au n us),.im (.int a),.im (.int b),aF d]=_;rw[ķ],?_⟩
 rcases aY d with z|z
 all_goals
  rw[z]
  refine⟨d,"ways",3,rfl,by decide,?_⟩
  show if (!hasB "ways" 3 d)=true then _ else _
  cases hh:hasB "ways" 3 d with
  |false =>
   rw[Ip hh] at q
   exact aA (B:=True) ⟨rfl,q⟩
  |true =>
   obtain⟨e,x,y,rfl,se⟩:=jB hh
   have q1:P (.bool (cg "ways" e&&(bZ true n us a b x&&(bZ true n us a b y&&!qI (uJ x) (uJ y))))):=q
   rw[se,Ċ] at q1
   have fx:=th.row _ rfl x (Ê _ Ñ)
   have fy:=th.row _ rfl y (Ê _ (Ê _ Ñ))
   refine aC (A:=True) ⟨x,rfl,n,us,a,b,x,rfl,a0,a1,b0,b1,fx,?_⟩
   show if (!bZ true n us a b x)=true then _ else _
   cases hx:bZ true n us a b x with
   |false =>
    rw[hx] at q1
    exact aA (B:=True) (aA (B:=True) ⟨rfl,q1⟩)
   |true =>
    rw[hx,Ċ] at q1
    refine aC (A:=True) ⟨y,rfl,n,us,a,b,y,rfl,a0,a1,b0,b1,fy,?_⟩
    show if (!bZ true n us a b y)=true then _ else _
    cases hy:bZ true n us a b y with
    |false =>
     rw[hy] at q1
     exact aA (B:=True) (aA (B:=True) ⟨rfl,q1⟩)
    |true =>
     rw[hy,Ċ] at q1
     obtain⟨p1,k1,rfl,_⟩:=jD (by unfold bZ at hx;rw[Õ] at hx;exact hx.1)
     obtain⟨p2,k2,rfl,_⟩:=jD (by unfold bZ at hy;rw[Õ] at hy;exact hy.1)
     have q1:P (.bool (!qI ((k1.map Â).map toI) ((k2.map Â).map toI))):=q1
     rw[cB,cB] at q1
     have l1:=fx _ rfl (iD k1) (Ê _ Ñ) _ rfl
     rw[Ä] at l1
     refine aC (A:=True) (aC (A:=True) ?_)
     refine⟨.tuple [iD p1,iD k1],rfl,iD k1,rfl,.tuple [iD p2,iD k2],rfl,iD k2,rfl,k1,k2,rfl,l1,rfl,q1⟩
end
abbrev aL(n:Int)(us:List Tie)(F:List Int)(a:Int):List Int:=rsI (adj us F []) n.toNat a
def zu(n:Int)(us:List Tie)(a b:Int):D->Bool
 |.tuple [e,x]=>cg "apart" e&&(!decide (b∈aL n us [] a)&&kW (aL n us [] a) x)
 |_=>false
def tU(n:Int)(us:List Tie)(a b:Int):D->Bool
 |.tuple [e,k,x]=>cg "tie" e&&(aM (us.length:Nat) k&&(decide (b∈aL n us [] a)&&(!decide (b∈aL n us [toI k] a)&&kW (aL n us [toI k] a) x)))
 |_=>false
def Ed(n:Int)(us:List Tie)(a b:Int)(d:D):Bool:=tR n us a b d || (tU n us a b d || zu n us a b d)
structure Pl(n:Int)(us:List Tie)(a b:Int):Prop where
 n1:1<=n
 n30:n<=30
 lu:us.length<=50
 ok:OkN n us
 a0:0<=a
 a1:a<n
 b0:0<=b
 b1:b<n
def Vr(ds:List D)(P:D->Prop):Prop:=∃n us a b d,ds=[au n us,.int a,.int b,d]/\Pl n us a b/\ThD d/\P (.bool (zu n us a b d))
def fPT(ds:List D)(P:D->Prop):Prop:=∃n us a b d,ds=[au n us,.int a,.int b,d]/\Pl n us a b/\ThD d/\P (.bool (tU n us a b d))
def KR(ds:List D)(P:D->Prop):Prop:=∃n us a b d,ds=[au n us,.int a,.int b,d]/\Pl n us a b/\a≠b/\ThD d/\P (.bool (Ed n us a b d))
def Kv{n:Int}{us:List Tie}{a b:Int}{d:D}(h:hasB "apart" 2 d=false):zu n us a b d=false:=by
 match d,h with
 |.tuple [e,x],h=>show(cg "apart" e&&_)=false;rw[Kq h];rfl
 |.tuple [],_=>rfl
 |.tuple [_],_=>rfl
 |.tuple (_::_::_::_),_=>rfl
 |.none,_=>rfl
 |.bool _,_=>rfl
 |.int _,_=>rfl
 |.str _,_=>rfl
 |.list _,_=>rfl
 |.dict _,_=>rfl
def Iw{n:Int}{us:List Tie}{a b:Int}{d:D}(h:hasB "tie" 3 d=false):tU n us a b d=false:=by
 match d,h with
 |.tuple [e,x,y],h=>show(cg "tie" e&&_)=false;rw[zm h];rfl
 |.tuple [],_=>rfl
 |.tuple [_],_=>rfl
 |.tuple [_,_],_=>rfl
 |.tuple (_::_::_::_::_),_=>rfl
 |.none,_=>rfl
 |.bool _,_=>rfl
 |.int _,_=>rfl
 |.str _,_=>rfl
 |.list _,_=>rfl
 |.dict _,_=>rfl
section
variable {P:Program}{w:World}{K:Ý}{mg:Str->Option Value}{base:Heap}{f:Addr}{fd:FuncData}{CN:Addr}
def oW:FnScope ["web","a","b","thing","side"] ["web","a","b","thing"] (ak (top 37)):=zC
def yK(F:Fun K "is_apart" "is_apart" (top 37) f fd)(B:ī mg)(ag:í P w K mg base 2 "part_of" ["web","place"] (spD zM))(bb:í P w K mg base 2 "is_same_set" ["thing","some"] (spD KZ))(ar:í P w K mg base 1 "has_form" ["thing","word","count"] (spD OD)):FnOk P w K mg base CX0 3 f fd ["web","a","b","thing"] (spD Vr):=by
 refine F.ok oW ė (λcdv A outer s H vs Q E hr h=>?_)
 have nd:=oW.nd
 refine⟨_,ó (È (å none (i:=4) nd rfl zQ (Ă ag hr (À (Ã 0) (À (Ã 1) Á))))
  (Ù (ß (ŀ (Ă ar hr (À (Ã 3) (À Ĥ (À Å Á)))) (ŀ (Wr.fG hr.units (Ã 2) (Ã 4)) (Ų (Ă bb hr (À (Ì (Ã 3) Å) (À (Ã 4) Á))))))))),aH h ?_⟩
 rintro ds P ⟨n,us,a,b,d,rfl,L,th,q⟩
 refine⟨[.im (au n us),.im (.int a),.im (.int b),aF d,.any],by show [aF (au n us),.im (.int a),.im (.int b),aF d,.any]=_;rw[ķ],?_⟩
 obtain⟨n1,n30,lu,ok,a0,a1,b0,b1⟩:=L
 refine⟨n,us,a,rfl,by omega,by omega,by omega,ok,a0,a1,?_⟩
 rcases aY d with z|z
 all_goals
  rw[z]
  refine⟨d,"apart",2,rfl,by decide,?_⟩
  show if hasB "apart" 2 d=true then _ else _
  cases hh:hasB "apart" 2 d with
  |false =>
   rw[Kv hh] at q
   exact aC (A:=True) ⟨rfl,q⟩
  |true =>
   obtain⟨e,x,rfl,se⟩:=Ft hh
   have q1:P (.bool (cg "apart" e&&(!decide (b∈aL n us [] a)&&kW (aL n us [] a) x))):=q
   rw[se,Ċ] at q1
   refine aA (B:=True) ⟨rfl,š _,?_⟩
   show if (!(((rsI (adj us [] []) n.toNat a).map Â).any λe=>á e (.int b)))=true then _ else _
   rw[Ğ]
   cases hb:decide (b∈rsI (adj us [] []) n.toNat a) with
   |true =>
    rw[show decide (b∈aL n us [] a)=true from hb] at q1
    exact aC (A:=True) ⟨rfl,q1⟩
   |false =>
    rw[show decide (b∈aL n us [] a)=false from hb] at q1
    exact aA (B:=True) ⟨x,rfl,x,_,rfl,th.few _ rfl x (Ê _ Ñ),rfl,q1⟩
def eE:FnScope ["web","a","b","thing","side"] ["web","a","b","thing"] (ak (top 38)):=zC
def lM(F:Fun K "is_parting_tie" "is_parting_tie" (top 38) f fd)(B:ī mg)(ag:í P w K mg base 2 "part_of" ["web","place"] (spD zM))(ba:í P w K mg base 3 "is_tie_number" ["web","thing"] (spD K6))(ar:í P w K mg base 1 "has_form" ["thing","word","count"] (spD OD))(a7:í P w K mg base 1 "without_ties" ["web","numbers"] (spD fWo))(bb:í P w K mg base 2 "is_same_set" ["thing","some"] (spD KZ)):FnOk P w K mg base CX0 4 f fd ["web","a","b","thing"] (spD fPT):=by
 refine F.ok eE ė (λcdv A outer s H vs Q E hr h=>?_)
 have nd:=eE.nd
 refine⟨_,ó (È (ā (ű (Ŀ (Ď (Đ (Ă ar hr (À (Ã 3) (À Ĥ (À Å Á)))))) (Ŀ (Ď (Đ (Ă ba hr (À (Ã 0) (À (Ì (Ã 3) Å) Á))))) (ū (Ŷ hr.units (Ã 2) (Ă ag hr (À (Ã 0) (À (Ã 1) Á)))))))) (Ù (ß Ĳ)) æ)
  (È (å none (i:=4) nd rfl zQ (Ă ag hr (À (Ă a7 hr (À (Ã 0) (À (â (À (Ì (Ã 3) Å) Á)) Á))) (À (Ã 1) Á))))
  (Ù (ß (ŀ (Wr.fG hr.units (Ã 2) (Ã 4)) (Ų (Ă bb hr (À (Ì (Ã 3) Å) (À (Ã 4) Á))))))))),aH h ?_⟩
 rintro ds P ⟨n,us,a,b,d,rfl,L,th,q⟩
 refine⟨[.im (au n us),.im (.int a),.im (.int b),aF d,.any],by show [aF (au n us),.im (.int a),.im (.int b),aF d,.any]=_;rw[ķ],?_⟩
 obtain⟨n1,n30,lu,ok,a0,a1,b0,b1⟩:=L
 rcases aY d with z|z
 all_goals
  rw[z]
  refine⟨d,"tie",3,rfl,by decide,?_⟩
  show if (!hasB "tie" 3 d)=true then _ else _
  cases hh:hasB "tie" 3 d with
  |false =>
   rw[Iw hh] at q
   exact aA (B:=True) (aA (B:=True) ⟨rfl,q⟩)
  |true =>
   obtain⟨e,k,x,rfl,se⟩:=jB hh
   have q1:P (.bool (cg "tie" e&&(aM (us.length:Nat) k&&(decide (b∈aL n us [] a)&&(!decide (b∈aL n us [toI k] a)&&kW (aL n us [toI k] a) x))))):=q
   rw[se,Ċ] at q1
   refine aC (A:=True) ⟨k,rfl,n,us,k,rfl,?_⟩
   show if (!aM ((us.length:Nat):Int) k)=true then _ else _
   cases hk:aM ((us.length:Nat):Int) k with
   |false =>
    rw[hk] at q1
    exact aA (B:=True) (aA (B:=True) ⟨rfl,q1⟩)
   |true =>
    rw[hk,Ċ] at q1
    obtain⟨i,rfl⟩:=oJ hk
    refine aC (A:=True) ⟨n,us,a,rfl,by omega,by omega,by omega,ok,a0,a1,rfl,š _,?_⟩
    show if (!(((rsI (adj us [] []) n.toNat a).map Â).any λe=>á e (.int b)))=true then _ else _
    rw[Ğ]
    cases hb:decide (b∈rsI (adj us [] []) n.toNat a) with
    |false =>
     rw[show decide (b∈aL n us [] a)=false from hb] at q1
     exact aA (B:=True) ⟨rfl,q1⟩
    |true =>
     rw[show decide (b∈aL n us [] a)=true from hb,Ċ] at q1
     have lw:=Ie us [i]
     refine aC (A:=True) ⟨.int i,rfl,zK,n,us,[i],rfl,by omega,n,wo us [i],a,rfl,by omega,by omega,by omega,Py ok,a0,a1,rfl,š _,?_⟩
     show if (!(((rsI (adj (wo us [i]) [] []) n.toNat a).map Â).any λe=>á e (.int b)))=true then _ else _
     rw[Ğ,show rsI (adj (wo us [i]) [] []) n.toNat a=aL n us [i] a from Eh λx=>PL]
     have q1:P (.bool (!decide (b∈aL n us [i] a)&&kW (aL n us [i] a) x)):=q1
     cases hb2:decide (b∈aL n us [i] a) with
     |true =>
      rw[hb2] at q1
      exact aC (A:=True) ⟨rfl,q1⟩
     |false =>
      rw[hb2] at q1
      exact aA (B:=True) ⟨x,rfl,x,_,rfl,th.few _ rfl x (Ê _ (Ê _ Ñ)),rfl,q1⟩
def fj:FnScope ["web","a","b","thing"] ["web","a","b","thing"] (ak (top 39)):=zC
def nD(F:Fun K "shows_by_ties" "shows_by_ties" (top 39) f fd)(B:ī mg)(a8:í P w K mg base 5 "check_two_places" ["web","a","b"] (spD Tc))(cy:í P w K mg base 7 "is_two_ways" ["web","a","b","thing"] (spD f2W))(cz:í P w K mg base 3 "is_apart" ["web","a","b","thing"] (spD Vr))(cE:í P w K mg base 4 "is_parting_tie" ["web","a","b","thing"] (spD fPT)):FnOk P w K mg base CX0 8 f fd ["web","a","b","thing"] (spD KR):=by
 refine F.ok fj ė (λcdv A outer s H vs Q E hr h=>?_)
 have nd:=fj.nd
 refine⟨_,ó (È (Wr.dB (Ă a8 hr (À (Ã 0) (À (Ã 1) (À (Ã 2) Á)))))
  (È (ā (Đ (Ă cy hr (À (Ã 0) (À (Ã 1) (À (Ã 2) (À (Ã 3) Á)))))) (Ù (ß Ĳ)) æ)
  (Ù (ß (Wr.yx (Ă cE hr (À (Ã 0) (À (Ã 1) (À (Ã 2) (À (Ã 3) Á))))) (Ų (Ă cz hr (À (Ã 0) (À (Ã 1) (À (Ã 2) (À (Ã 3) Á))))))))))),aH h ?_⟩
 rintro ds P ⟨n,us,a,b,d,rfl,L,ne,th,q⟩
 refine⟨[.im (au n us),.im (.int a),.im (.int b),aF d],by show [aF (au n us),.im (.int a),.im (.int b),aF d]=_;rw[ķ],?_⟩
 have L':=L
 obtain⟨n1,n30,lu,ok,a0,a1,b0,b1⟩:=L'
 refine⟨n,us,a,b,rfl,a0,a1,b0,b1,ne,?_⟩
 have q:P (.bool (tR n us a b d || (tU n us a b d || zu n us a b d))):=q
 rcases aY d with z|z
 all_goals
  rw[z]
  refine⟨n,us,a,b,d,rfl,a0,a1,b0,b1,th,?_⟩
  show if tR n us a b d=true then _ else _
  cases h1:tR n us a b d with
  |true =>
   rw[h1] at q
   exact aA (B:=True) ⟨rfl,q⟩
  |false =>
   rw[h1,Bool.false_or] at q
   refine aC (A:=True) ⟨n,us,a,b,d,rfl,L,th,?_⟩
   show if tU n us a b d=true then _ else _
   cases h2:tU n us a b d with
   |true =>
    rw[h2] at q
    exact aA (B:=True) ⟨rfl,q⟩
   |false =>
    rw[h2,Bool.false_or] at q
    exact aC (A:=True) ⟨n,us,a,b,d,rfl,L,th,rfl,q⟩
end
def d9(e:D):Prop:=∀xs,e=.list xs->xs.length<=400/\∀x∈xs,x.canLay0=true/\x.depth<=50
def gQ(e:D):Prop:=∀es,e=.tuple es->∀x∈es,d9 x
def ThO(d:D):Prop:=∀es,d=.tuple es->∀e∈es,d9 e/\gQ e/\e.canLay0=true/\e.depth<=50
def d9.few{e:D}(h:d9 e):Pk e:=λxs x=>(h xs x).1
def gQ.few{e:D}(h:gQ e):LQ e:=λes x y hy=>(h es x y hy).few
def ThO.th{d:D}(h:ThO d):ThD d:=⟨λes e x hx=>(h es e x hx).1.few,λes e x hx=>(h es e x hx).2.1.few⟩
def jE(xs:List D):á (.list xs) (.list [])=xs.isEmpty:=by cases xs <;> rfl
def yM{xs:List D}(h:∀x∈xs,x.canLay0=true/\x.depth<=50):okD (.list xs)=true:=by
 have a:Ĉ xs=true/\ē xs<=50:=by
  induction xs with
  |nil=>exact⟨rfl,ü _⟩
  |cons x xs ih =>
   obtain⟨i1,i2⟩:=ih λy hy=>h y (Ê _ hy)
   obtain⟨j1,j2⟩:=h x Ñ
   refine⟨?_,?_⟩
   ·show(x.canLay0&&Ĉ xs)=true
    rw[j1,i1];rfl
   ·show max x.depth (ē xs)<=50
    omega
 show(Ĉ xs&&decide (ē xs+1<=60))=true
 rw[a.1,decide_eq_true (by omega)]
 rfl
def Ow(p:D->Bool)(es:List D):(((es.filter λd=>!p d).map λd=>d)).isEmpty=es.all p:=by
 rw[List.map_id']
 induction es with
 |nil=>rfl
 |cons e es ih =>
  cases h:p e with
  |true=>rw[List.filter_cons_of_neg (by rw[h];decide),Ū,h,ih];rfl
  |false=>rw[List.filter_cons_of_pos (by rw[h];rfl),Ū,h];rfl
def norm_le{k s:Kd}{d:D}(h:k.le s=true):(norm k d).le s=true:=by
 by_cases c:cL d=true
 ·rw[aU c];rfl
 ·rw[bN c];exact h
def lN:D->Bool
 |.list es=>es.all isW
 |_=>false
def Fz(ds:List D)(P:D->Prop):Prop:=∃d,ds=[d]/\d9 d/\P (.bool (lN d))
def Oz(ds:List D)(P:D->Prop):Prop:=∃d w c,ds=[d,.str w,.int c]/\1<=c/\P (.bool (hasB w c d))
def K4(ds:List D)(P:D->Prop):Prop:=∃d l,ds=[d,iD l]/\d9 d/\P (.bool (kW l d))
def Vq(ds:List D)(P:D->Prop):Prop:=∃n us a b d,ds=[au n us,.int a,.int b,d]/\us.length<=100/\OkN n us/\0<=a/\a<n/\gQ d/\P (.bool (bZ true n us a b d))
def StO(us:List Tie)(ps ks:List Int)(i:Nat):Prop:=∀k,ks[i]?=some k->(0<=k/\k<(us.length:Nat))/\∃p q,ps[i]?=some p/\ps[i+1]?=some q/\us[k.toNat]?=some (mmT (p,q))
def zj{ps:List Int}{i:Nat}{p q:Int}(h1:ps[i]?=some p)(h2:ps[i+1]?=some q):(jT ps)[i]?=some (p,q):=by
 unfold jT
 have hi:=(Ç.mp h2).1
 rw[List.getElem?_zip_eq_some]
 refine⟨?_,?_⟩
 ·rw[List.dropLast_eq_take,List.getElem?_take_of_lt (by omega)]
  exact h1
 ·rw[List.getElem?_drop,Nat.add_comm]
  exact h2
def Du{n:Int}{us:List Tie}{a b:Int}{ps ks:List Int}(ok:OkN n us)(a0:0<=a)(a1:a<n):bZ true n us a b (.tuple [iD ps,iD ks])=true↔(ps.length=ks.length+1/\ps.head?=some a/\ps.getLast?=some b/\pJ ps=true/\∀i,i<ks.length->StO us ps ks i):=by
 have e:bZ true n us a b (.tuple [iD ps,iD ks])=(((((!(ps.map Â).isEmpty&&(ps.map Â).all (aM n)&&decide (((ps.map Â).map toI).head?=some a))&&decide (((ps.map Â).map toI).getLast?=some b))&&pJ ((ps.map Â).map toI))&&(decide ((((ks.map Â).length:Nat):Int)=(((ps.map Â).length:Nat):Int) - 1)&&(ks.map Â).all (aM ((us.length:Nat):Int))))&&(((jT ((ps.map Â).map toI)).zip ((ks.map Â).map toI)).all λp=>qG true us p.1 p.2)):=rfl
 rw[e,cB,cB]
 simp only[Õ,decide_eq_true_eq,Ä,Ĕ]
 constructor
 ·rintro⟨⟨⟨⟨⟨⟨h1,h2⟩,h3⟩,h4⟩,h5⟩,h6,h7⟩,h8⟩
  have lp:ps.length=ks.length+1:=by
   cases ps with
   |nil=>cases h3
   |cons x r=>rw[ï] at h6 ⊢;omega
  refine⟨lp,h3,h4,h5,λi hi k hk=>?_⟩
  have hb:=h7 (.int k) (Ā.mpr ⟨k,Ð hk,rfl⟩)
  have hb:0<=k/\k<(us.length:Nat):=of_decide_eq_true hb
  have g1:=É (show i<ps.length by omega)
  have g2:=É (show i+1<ps.length by omega)
  refine⟨hb,_,_,g1,g2,?_⟩
  have hz:((jT ps).zip ks)[i]?=some ((ps[i],ps[i+1]),k):=List.getElem?_zip_eq_some.mpr ⟨zj g1 g2,hk⟩
  have:=h8 _ (Ð hz)
  exact of_decide_eq_true this
 ·rintro⟨lp,h3,h4,h5,h8⟩
  have step:∀i,i<ks.length->∃k p q,ks[i]?=some k/\ps[i]?=some p/\ps[i+1]?=some q/\(0<=k/\k<(us.length:Nat))/\us[k.toNat]?=some (mmT (p,q)):=λi hi=>by
   have hk:=É hi
   obtain⟨hb,p,q,g1,g2,g3⟩:=h8 i hi _ hk
   exact⟨_,p,q,hk,g1,g2,hb,g3⟩
  have rng:∀x∈ps,0<=x/\x<n:=λx hx=>by
   obtain⟨j,hj,e⟩:=Ŧ.mp hx
   have gx:ps[j]?=some x:=by rw[É hj,e]
   cases j with
   |zero =>
    rw[←List.head?_eq_getElem?,h3] at gx
    cases gx
    exact⟨a0,a1⟩
   |succ i =>
    obtain⟨k,p,q,_,_,g2,_,g3⟩:=step i (by omega)
    rw[gx] at g2
    cases g2
    have t:=ok _ (Ð g3)
    have t1:0<=(if x<p then x else p)/\(if x<p then x else p)<n:=t.1
    have t2:0<=(if x > p then x else p)/\(if x > p then x else p)<n:=t.2.1
    by_cases c:x<p
    ·rw[if_pos c] at t1
     exact t1
    ·by_cases c2:x > p
     ·rw[if_pos c2] at t2
      exact t2
     ·have:x=p:=by omega
      subst this
      rw[if_neg c] at t1
      exact t1
  refine⟨⟨⟨⟨⟨⟨?_,λd hd=>?_⟩,h3⟩,h4⟩,h5⟩,by omega,λd hd=>?_⟩,λz hz=>?_⟩
  ·cases ps with
   |nil=>cases h3
   |cons x r=>rfl
  ·obtain⟨x,hx,rfl⟩:=Ā.mp hd
   exact decide_eq_true (rng x hx)
  ·obtain⟨k,hk,rfl⟩:=Ā.mp hd
   obtain⟨j,hj,e⟩:=Ŧ.mp hk
   obtain⟨k',_,_,gk,_,_,hb,_⟩:=step j hj
   rw[É hj,e] at gk
   cases gk
   exact decide_eq_true hb
  ·obtain⟨j,hj,e⟩:=Ŧ.mp hz
   have gz:((jT ps).zip ks)[j]?=some z:=by rw[É hj,e]
   obtain⟨g1,g2⟩:=List.getElem?_zip_eq_some.mp gz
   have hj:=(Ç.mp g2).1
   obtain⟨k,p,q,gk,gp,gq,hb,g3⟩:=step j hj
   rw[zj gp gq] at g1
   rw[gk] at g2
   have e1:=Ø g1
   have e2:=Ø g2
   show decide (us[z.2.toNat]?=some (mmT z.1))=true
   rw[←e1,←e2]
   exact decide_eq_true g3
def qu{n:Int}{us:List Tie}{a b:Int}{x y:D}(h:bZ true n us a b (.tuple [x,y])=true):lN x=true/\lN y=true:=by
 unfold bZ at h
 rw[Õ] at h
 obtain⟨ps,ks,e,_⟩:=jD h.1
 cases e
 have al:∀l:List Int,(l.map Â).all isW=true:=λl=>Ĕ.mpr λd hd=>by
  obtain⟨i,_,rfl⟩:=Ā.mp hd
  rfl
 exact⟨al ps,al ks⟩
def JZ{d:D}(h:lN d=true):∃k,d=iD k:=by
 cases d with
 |list es=>exact⟨_,congrArg Ć (wF h)⟩
 |_=>cases h
def O8{l:List Int}{i:Nat}{p y:Int}(h1:l[i]?=some p)(h2:l[i+1]?=some y):cU (l.map Â) (some ((i:Nat):Int)) (some (((i:Nat):Int)+2))=[p,y].map Â:=by
 have hi:=(Ç.mp h2).1
 have lm:(l.map Â).length=l.length:=Ä ..
 unfold cU
 have e1:HT.sIx (l.map Â).length 0 (some ((i:Nat):Int))=i:=by
  rw[HT.kY]
  omega
 have e2:HT.sIx (l.map Â).length (l.map Â).length (some (((i:Nat):Int)+2))=i+2:=by
  rw[show((i:Nat):Int)+2=((i+2:Nat):Int) by omega,HT.kY]
  omega
 rw[e1,e2,show i+2 - i=2 by omega,←List.map_drop,←List.map_take]
 congr 1
 rw[Ţ (by omega),Ţ hi,(Ç.mp h2).2]
 have:=(Ç.mp h1).2
 rw[this]
 rfl
def Mw{p y:Int}{out:List Int}(hp:out.Perm [p,y])(hs:out.Pairwise (·<=·)):out=[(mmT (p,y)).1,(mmT (p,y)).2]:=by
 have h2:([(mmT (p,y)).1,(mmT (p,y)).2]:List Int).Pairwise (·<=·):=by
  unfold mmT
  simp
  split <;> split <;> omega
 have pm:out.Perm [(mmT (p,y)).1,(mmT (p,y)).2]:=by
  refine hp.trans ?_
  unfold mmT
  dsimp only
  by_cases c:y<p
  ·rw[if_pos c,if_neg (by omega)]
   exact List.Perm.swap _ _ _
  ·by_cases c2:y > p
   ·rw[if_neg c,if_pos c2]
   ·rw[if_neg c,if_neg c2,show y=p by omega]
 exact pm.eq_of_pairwise (λa b _ _ h1 h2=>by omega) hs h2
def Cg{c:Bool}{A B:Prop}(h:c=true)(a:A):if c=true then A else B:=by rw[if_pos h];exact a
def wD{c:Bool}{A B:Prop}(h:c=false)(b:B):if c=true then A else B:=by rw[h,if_neg Ó];exact b
def Td(k l:List Int):á (iD k) (iD l)=decide (k=l):=by
 induction k generalizing l with
 |nil=>cases l <;> simp[iD,á,PyData.eqvAll]
 |cons x k ih =>
  cases l with
  |nil=>rfl
  |cons y l =>
   have:=ih (l:=l)
   show(x == y&&á (iD k) (iD l))=_
   rw[this,ĕ]
   simp
section
variable {P:Program}{w:World}{K:Ý}{mg:Str->Option Value}{base:Heap}{f:Addr}{fd:FuncData}{CN:Addr}
def g8:FnScope ["_law_thing"] ["_law_thing"] (ak (top 45)):=zC
def nO:(["_law_one","_law_thing"]:List Str).Nodup:=by decide +kernel
def rJ(F:Fun K "_law_numbers" "_law_numbers" (top 45) f fd)(B:ī mg):FnOk P w K mg base CX0 1 f fd ["_law_thing"] (spD Fz):=by
 refine F.ok g8 ė (λcdv A outer s H vs Q E hr h=>?_)
 have nd:=g8.nd
 refine⟨_,ó (È (ā (Ď (Đ (Ń mj B.isinstance (Ã 0) (Wr.wty rfl B.list boot_list)))) (Ù (ß Ĳ)) æ)
  (Ù (ß (ş hr.units (Ž ["_law_one"] rfl (Ĺ (Ã 0)) (λc=>(ã (i:=0) nO rfl zQ)) (λc=>(Wr.dz (ű (Ŀ (Ď (Đ (Ń Fo B.isinstance (Ã 0) (Wr.wty rfl B.int boot_int)))) (ū (Đ (Ń sG B.isinstance (Ã 0) (Wr.wty rfl B.bool boot_bool)))))))) (λc=>(Ã 0))) (â Á))))),aH h ?_⟩
 rintro ds P ⟨d,rfl,rd,q⟩
 refine⟨[aF d],rfl,?_⟩
 cases d with
 |list es =>
  obtain⟨hl,lay⟩:=rd es rfl
  refine aC (A:=True) (o7 es (λd=>d) (λd=>!isW d) (λd=>d) .shr (List.map_id' es).symm (by omega) (λd hd A B h1 h2=>?_) ?_)
  ·by_cases hi:cL d=true
   ·have en:∀k,norm k d=.imm:=λk=>aU hi
    unfold gNm
    simp only[en]
    cases d with
    |int i=>exact aC (A:=True) (aC (A:=True) (h2 rfl))
    |bool b=>exact aC (A:=True) (aA (B:=True) ⟨rfl,h1 rfl⟩)
    |_=>exact aA (B:=True) ⟨norm_le rfl,h1 rfl⟩
   ·have en:∀k,norm k d=k:=λk=>bN hi
    unfold gNm
    simp only[en]
    cases d with
    |int i=>exact absurd rfl hi
    |bool b=>exact absurd rfl hi
    |_=>exact aA (B:=True) ⟨norm_le rfl,h1 rfl⟩
  ·refine⟨zK,yM λx hx=>?_,rfl,rfl,?_⟩
   ·rw[List.map_id'] at hx
    exact lay x (ð.mp hx).1
   ·show P (.bool (á (.list ((es.filter λd=>!isW d).map λd=>d)) (.list [])))
    rw[jE,Ow]
    exact q
 |tuple es=>rcases aY (.tuple es) with e|e <;> rw[e] <;> exact aA (B:=True) ⟨rfl,q⟩
 |_=>exact aA (B:=True) ⟨rfl,q⟩
def ux:FnScope ["_law_thing","_law_word","_law_many"] ["_law_thing","_law_word","_law_many"] (ak (top 52)):=zC
def GK(F:Fun K "_law_is" "_law_is" (top 52) f fd)(B:ī mg)(ah:mg "str"=none):FnOk P w K mg base CX0 1 f fd ["_law_thing","_law_word","_law_many"] (spD Oz):=by
 refine F.ok ux ė (λcdv A outer s H vs Q E hr h=>?_)
 have nd:=ux.nd
 refine⟨_,ó (Ù (ß (ŀ (Ń kit_tuple B.isinstance (Ã 0) (Wr.wty rfl B.tuple boot_tuple)) (ŀ (ş hr.units (Ĝ B.len (À (Ã 0) Á)) (Ã 2)) (ŀ (Ń Fl B.isinstance (Ì (Ã 0) Å) (Wr.wty rfl ah Dl.boot_str)) (Ų (ş hr.units (Ì (Ã 0) Å) (Ã 1)))))))),aH h ?_⟩
 rintro ds P ⟨d,w,c,rfl,c1,q⟩
 refine⟨[aF d,.im (.str w),.im (.int c)],rfl,?_⟩
 cases d with
 |tuple es =>
  rcases aY (.tuple es) with e|e
  all_goals
   rw[e]
   refine aA (B:=True) ?_
   show if decide (((es.length:Nat):Int)=c)=true then _ else _
   by_cases h:((es.length:Nat):Int)=c
   ·rw[decide_eq_true h]
    refine aA (B:=True) ?_
    match es,h,q with
    |[],h,q=>exact absurd h (by show ¬(0:Int)=c;omega)
    |x::r,h,q =>
     have a0:=at0 (x:=x) (r:=r)
     have q:P (.bool (decide ((((x::r).length:Nat):Int)=c)&&cg w x)):=q
     rw[decide_eq_true h,Ċ] at q
     refine⟨x,a0,?_⟩
     cases x with
     |str s=>exact aA (B:=True) ⟨.str s,a0,rfl,q⟩
     |_=>exact aC (A:=True) ⟨rfl,q⟩
   ·rw[decide_eq_false h]
    refine aC ⟨rfl,?_⟩
    match es,h,q with
    |[],h,q=>exact q
    |x::r,h,q =>
     have q:P (.bool (decide ((((x::r).length:Nat):Int)=c)&&cg w x)):=q
     rw[decide_eq_false h,Bool.false_and] at q
     exact q
 |_=>exact aC (A:=True) ⟨rfl,q⟩
def oR:FnScope ["_law_thing","_law_due"] ["_law_thing","_law_due"] (ak (top 53)):=zC
def yH(F:Fun K "_law_just" "_law_just" (top 53) f fd)(B:ī mg)(am:í P w K mg base 1 "_law_numbers" ["_law_thing"] (spD Fz)):FnOk P w K mg base CX0 2 f fd ["_law_thing","_law_due"] (spD K4):=by
 refine F.ok oR ė (λcdv A outer s H vs Q E hr h=>?_)
 have nd:=oR.nd
 refine⟨_,ó (Ù (ß (ŀ (Ă am hr (À (Ã 0) Á)) (Ų (ş hr.units (Ã 0) (Ã 1)))))),aH h ?_⟩
 rintro ds P ⟨d,l,rfl,rd,q⟩
 refine⟨[aF d,.sh (iD l)],rfl,?_⟩
 rcases aY d with z|z
 all_goals
  rw[z]
  refine⟨d,rfl,rd,?_⟩
  show if lN d=true then _ else _
  cases hn:lN d with
  |false =>
   have e:kW l d=false:=by
    cases d with
    |list es=>show(es.all isW&&_)=false;rw[show es.all isW=false from hn];rfl
    |_=>rfl
   rw[e] at q
   exact aC (A:=True) ⟨rfl,q⟩
  |true =>
   obtain⟨k,rfl⟩:∃k,d=iD k:=by
    cases d with
    |list es=>exact⟨_,congrArg Ć (wF hn)⟩
    |_=>cases hn
   have q1:P (.bool ((k.map Â).all isW&&decide ((k.map Â).map toI=l))):=q
   rw[cB,show(k.map Â).all isW=true from hn] at q1
   refine aA (B:=True) ⟨rN k,rN l,rfl,?_⟩
   show P (.bool (á (iD k) (iD l)))
   rw[Td]
   exact q1
def kJ:FnScope ["_law_web_here","_law_a","_law_b","_law_thing","_law_places","_law_row","_law_k","_law_number","_law_two_here"] ["_law_web_here","_law_a","_law_b","_law_thing"] (ak (top 46)):=zC
def vZ(F:Fun K "_law_leads" "_law_leads" (top 46) f fd)(B:ī mg)(a9:mg "set"=none)(ad:mg "enumerate"=none)(am:í P w K mg base 1 "_law_numbers" ["_law_thing"] (spD Fz)):FnOk P w K mg base CX0 2 f fd ["_law_web_here","_law_a","_law_b","_law_thing"] (spD Vq):=by
 refine F.ok kJ ė (λcdv A outer s H vs Q E hr h=>?_)
 have nd:=kJ.nd
 refine⟨_,ó (È (ā (ű (Ŀ (Ď (Đ (Ń kit_tuple B.isinstance (Ã 3) (Wr.wty rfl B.tuple boot_tuple)))) (Ŀ (Ľ hr.units (Ĝ B.len (À (Ã 3) Á)) Å) (Ŀ (Ď (Đ (Ă am hr (À (Ì (Ã 3) Å) Á)))) (ū (Ď (Đ (Ă am hr (À (Ì (Ã 3) Å) Á))))))))) (Ù (ß Ĳ)) æ)
  (È (Wr.sX (Ã 3) (Wr.cZ (n:=2) rfl (đ (ã (i:=4) nd rfl zQ) (đ (ã (i:=5) nd rfl zQ) ŭ))))
  (È (ā (ű (Ŀ (Ľ hr.units (Ĝ B.len (À (Ã 4) Á)) (Ġ (Ĝ B.len (À (Ã 5) Á)) Å)) (Ŀ (Ľ hr.units (Ì (Ã 4) Å) (Ã 1)) (Ŀ (Ľ hr.units (Ì (Ã 4) (Wr.cV Å)) (Ã 2)) (ū (Ľ hr.units (Wr.jz rfl a9 B.len (À (Ã 4) Á)) (Ĝ B.len (À (Ã 4) Á)))))))) (Ù (ß Ĳ)) æ)
  (È (ņ þ rfl (Wr.mL ad (À (Ã 5) Á)) (Wr.cZ (n:=2) rfl (đ (ã (i:=6) nd rfl zQ) (đ (ã (i:=7) nd rfl zQ) ŭ))) (È (å none (i:=8) nd rfl zQ (Wr.fD B.sorted (À (Wr.jP (Ã 4) (Wr.bY (Ã 6)) (Wr.bY (Ġ (Ã 6) Å))) Á)))
  (È (ā (ű (Ŀ (Ď (Wr.jw JL yC Å (Ã 7) (Ĝ B.len (À (Ì (Ã 0) Å) Á)))) (ū (Ľ hr.units (Ì (Ì (Ã 0) Å) (Ã 7)) (Wr.jy B.tuple (À (Ã 8) Á)))))) (Ù (ß Ĳ)) æ) (î [6,7,8] æ))))
  (î [6,7,8] (Ù (ß Ĳ))))))),aH h ?_⟩
 rintro ds P ⟨n,us,a,b,d,rfl,lu,ok,a0,a1,wo,q⟩
 refine⟨[.im (au n us),.im (.int a),.im (.int b),aF d,.any,.any,.any,.any,.any],by show [aF (au n us),.im (.int a),.im (.int b),aF d,.any,.any,.any,.any,.any]=_;rw[ķ],?_⟩
 cases d with
 |tuple es =>
  by_cases h2:es.length=2
  ·obtain⟨x,y,rfl⟩:∃d1 d2,es=[d1,d2]:=by
    match es,h2 with
    |[x,y],_=>exact⟨x,y,rfl⟩
   have rx:=wo _ rfl x Ñ
   have ry:=wo _ rfl y (Ê _ Ñ)
   have no:∀{c:Bool},c=false->(c=true↔bZ true n us a b (.tuple [x,y])=true)->P (.bool false):=λ{c} hc h=>by
    have e:bZ true n us a b (.tuple [x,y])=false:=by
     rw[←hc,ĕ]
     exact h.symm
    rw[←e]
    exact q
   by_cases im:cL (.tuple [x,y])=true
   ·rw[show aF (.tuple [x,y])=.im (.tuple [x,y]) from if_pos im]
    have hx:lN x=false:=by
     cases x with
     |list _=>exact absurd im Ó
     |_=>rfl
    refine aC (A:=True) (aC (A:=True) ⟨x,rfl,x,rfl,rx,?_⟩)
    show if (!lN x)=true then _ else _
    rw[hx]
    exact aA (B:=True) ⟨rfl,no (c:=false) rfl ⟨λz=>(nomatch z),λz=>by rw[(qu z).1] at hx;cases hx⟩⟩
   rw[show aF (.tuple [x,y])=.sh (.tuple [x,y]) from if_neg im]
   refine aC (A:=True) (aC (A:=True) ⟨x,rfl,x,rfl,rx,?_⟩)
   show if (!lN x)=true then _ else _
   cases hx:lN x with
   |false=>exact aA (B:=True) ⟨rfl,no (c:=false) rfl ⟨λz=>(nomatch z),λz=>by rw[(qu z).1] at hx;cases hx⟩⟩
   |true =>
   refine aC (A:=True) ⟨y,rfl,y,rfl,ry,?_⟩
   show if (!lN y)=true then _ else _
   cases hy:lN y with
   |false=>exact aA (B:=True) ⟨rfl,no (c:=false) rfl ⟨λz=>(nomatch z),λz=>by rw[(qu z).2] at hy;cases hy⟩⟩
   |true =>
   refine aC (A:=True) ?_
   obtain⟨ps,rfl⟩:=JZ hx
   obtain⟨ks,rfl⟩:=JZ hy
   clear hx hy
   have lp:=(rx _ rfl).1
   have lk:=(ry _ rfl).1
   have l1:(ps.map Â).length=ps.length:=Ä ..
   have l2:(ks.map Â).length=ks.length:=Ä ..
   have lu2:(us.map pD).length=us.length:=Ä ..
   have wi:=Du (b:=b) (ps:=ps) (ks:=ks) ok a0 a1
   refine⟨rfl,?_⟩
   show if (!decide ((((ps.map Â).length:Nat):Int)=(((ks.map Â).length:Nat):Int)+1))=true then _ else _
   by_cases hl:ps.length=ks.length+1
   ·rw[decide_eq_true (show(((ps.map Â).length:Nat):Int)=(((ks.map Â).length:Nat):Int)+1 by omega)]
    have ne:ps≠[]:=λz=>by rw[z] at hl;cases hl
    obtain⟨x,hx⟩:∃x,ps.head?=some x:=⟨_,List.head?_eq_some_head ne⟩
    obtain⟨y,hy⟩:∃y,ps.getLast?=some y:=⟨_,List.getLast?_eq_some_getLast ne⟩
    have ax:atI (ps.map Â) 0=some (.int x):=bK (j:=0) (by rw[Û,←List.head?_eq_getElem?,hx];rfl)
    have ay:atI (ps.map Â) (-1)=some (.int y):=xg hy
    refine aC (A:=True) ⟨.int x,ax,?_⟩
    show if (!decide (x=a))=true then _ else _
    by_cases ca:x=a
    case neg =>
     rw[decide_eq_false ca]
     exact aA (B:=True) ⟨rfl,no (c:=false) rfl ⟨λz=>(nomatch z),λz=>absurd (Ø (hx.symm.trans (wi.mp z).2.1)) ca⟩⟩
    rw[decide_eq_true ca]
    refine aC (A:=True) ⟨.int y,ay,?_⟩
    show if (!decide (y=b))=true then _ else _
    by_cases cb:y=b
    case neg =>
     rw[decide_eq_false cb]
     exact aA (B:=True) ⟨rfl,no (c:=false) rfl ⟨λz=>(nomatch z),λz=>absurd (Ø (hy.symm.trans (wi.mp z).2.2.1)) cb⟩⟩
    rw[decide_eq_true cb]
    refine aC (A:=True) ⟨_,ps,rfl,by omega,?_⟩
    have eo:decide ((((once ps).length:Nat):Int)=(((ps.map Â).length:Nat):Int))=pJ ps:=by
     unfold pJ
     rw[l1,ĕ,decide_eq_true_eq,decide_eq_true_eq]
     omega
    show if (!decide ((((once ps).length:Nat):Int)=(((ps.map Â).length:Nat):Int)))=true then _ else _
    rw[eo]
    cases hn:pJ ps with
    |false=>exact aA (B:=True) ⟨rfl,no (c:=false) rfl ⟨λz=>(nomatch z),λz=>by rw[(wi.mp z).2.2.2.1] at hn;cases hn⟩⟩
    |true =>
    refine aC (A:=True) ?_
    subst ca cb
    refine⟨rfl,λ(i:Nat) ρ=>ρ=[.im (au n us),.im (.int x),.im (.int y),.sh (.tuple [iD ps,iD ks]),.sh (iD ps),.sh (iD ks),.any,.any,.any]/\∀j,j<i->StO us ps ks j,⟨rfl,λj hj=>absurd hj (Nat.not_lt_zero j)⟩,?_,?_⟩
    ·rintro i d ρ hd ⟨rfl,al⟩
     rw[cX,Û] at hd
     obtain⟨k,hk,rfl⟩:∃k,ks[i]?=some k/\ŋ [.int ((i:Nat):Int),.int k]=d:=by
      cases e:ks[i]? with
      |none=>rw[e] at hd;cases hd
      |some t=>rw[e] at hd;exact⟨t,rfl,Ø hd⟩
     have hi:=(Ç.mp hk).1
     have g1:=É (show i<ps.length by omega)
     have g2:=É (show i+1<ps.length by omega)
     generalize ps[i]=p at g1
     generalize ps[i+1]=p2 at g2
     have ec:=O8 g1 g2
     refine⟨rfl,.inl ⟨by rw[ec];rfl,[p,p2],ec,(show 2<64 by decide),λout hp hs=>?_⟩⟩
     have eo:=Mw hp hs
     subst eo
     have bad:¬StO us ps ks i->P (.bool false):=λz=>no (c:=false) rfl ⟨λz=>(nomatch z),λy=>absurd ((wi.mp y).2.2.2.2 i hi) z⟩
     have fin:StO us ps ks i->∀j,j<i+1->StO us ps ks j:=λz j hj=>by
      rcases Nat.lt_succ_iff_lt_or_eq.mp hj with h|rfl
      ·exact al j h
      ·exact z
     by_cases k0:0<=k
     case neg =>
      have z:=bad λz=>k0 (z k hk).1.1
      refine wD (c:=decide ((0:Int)<=k)) (decide_eq_false k0) ?_
      exact⟨rfl,z⟩
     refine Cg (c:=decide ((0:Int)<=k)) (decide_eq_true k0) ⟨.tuple (us.map pD),rfl,?_⟩
     by_cases k1:k<(us.length:Nat)
     case neg =>
      have z:=bad λz=>k1 (z k hk).1.2
      exact Cg (c:=!decide (k<(((us.map pD).length:Nat):Int))) (by rw[decide_eq_false (by omega)];rfl) ⟨rfl,z⟩
     have ht:=É (show k.toNat<us.length by omega)
     generalize us[k.toNat]=t at ht
     have aw:atI (us.map pD) k=some (pD t):=by
      have:=bK (xs:=us.map pD) (j:=k.toNat) (v:=pD t) (by rw[Û,ht];rfl)
      rwa [show((k.toNat:Nat):Int)=k by omega] at this
     refine wD (c:=!decide (k<(((us.map pD).length:Nat):Int))) (by rw[decide_eq_true (by omega)];rfl) ⟨.tuple (us.map pD),rfl,pD t,aw,rfl,rfl,?_⟩
     by_cases ct:t=mmT (p,p2)
     ·exact wD (c:=!PyData.eqv (pD t) (pD (mmT (p,p2)))) (by rw[qj,decide_eq_true ct];rfl) ⟨rfl,fin λk' hk'=>by
       rw[hk] at hk'
       cases hk'
       exact⟨⟨k0,k1⟩,p,p2,g1,g2,by rw[ht,ct]⟩⟩
     ·have z:=bad λz=>by
       obtain⟨_,p',q',h1,h2,h3⟩:=z k hk
       rw[g1] at h1
       rw[g2] at h2
       cases h1
       cases h2
       rw[ht] at h3
       exact ct (Ø h3)
      exact Cg (c:=!PyData.eqv (pD t) (pD (mmT (p,p2)))) (by rw[qj,decide_eq_false ct];rfl) ⟨rfl,z⟩
    ·rintro ρ ⟨rfl,al⟩
     have e:bZ true n us x y (.tuple [iD ps,iD ks])=true:=wi.mpr ⟨hl,hx,hy,hn,λi hi=>al i (by rw[cI,Ä];exact hi)⟩
     rw[e] at q
     exact⟨rfl,q⟩
   ·rw[decide_eq_false (show ¬(((ps.map Â).length:Nat):Int)=(((ks.map Â).length:Nat):Int)+1 by omega)]
    exact aA (B:=True) ⟨rfl,no (c:=false) rfl ⟨λz=>(nomatch z),λz=>absurd (wi.mp z).1 hl⟩⟩
  ·have e0:bZ true n us a b (.tuple es)=false:=by unfold bZ;rw[zG h2];rfl
   rw[e0] at q
   have c:decide (((es.length:Nat):Int)=2)=false:=decide_eq_false λz=>h2 (by omega)
   rcases aY (.tuple es) with e|e
   all_goals
    rw[e]
    refine aC (A:=True) ?_
    show if (!decide (((es.length:Nat):Int)=2))=true then _ else _
    rw[c]
    exact aA (B:=True) ⟨rfl,q⟩
 |_=>exact aA (B:=True) ⟨rfl,q⟩
end
def Qp(ds:List D)(P:D->Prop):Prop:=∃n us a b d,ds=[au n us,.int a,.int b,d]/\Pl n us a b/\ThO d/\P (.bool (tR n us a b d))
def Qq(ds:List D)(P:D->Prop):Prop:=∃n us a b d,ds=[au n us,.int a,.int b,d]/\Pl n us a b/\n<=16/\ThO d/\P (.bool (tU n us a b d))
def Qx(ds:List D)(P:D->Prop):Prop:=∃n us a b d,ds=[au n us,.int a,.int b,d]/\Pl n us a b/\n<=16/\ThO d/\P (.bool (zu n us a b d))
def Mx(p q:List Int):(((p.filter λx=>decide (x∈q)).map Â)).isEmpty=!qI p q:=by
 unfold qI
 induction p with
 |nil=>rfl
 |cons x p ih =>
  cases h:decide (x∈q) with
  |true=>rw[List.filter_cons_of_pos (p:=λx=>decide (x∈q)) h,ũ,h];rfl
  |false=>rw[List.filter_cons_of_neg (p:=λx=>decide (x∈q)) (by rw[h];exact Ó),ũ,h,Bool.false_or];exact ih
section
variable {P:Program}{w:World}{K:Ý}{mg:Str->Option Value}{base:Heap}{f:Addr}{fd:FuncData}{CN:Addr}
def qL:FnScope ["_law_web_here","_law_a","_law_b","_law_thing"] ["_law_web_here","_law_a","_law_b","_law_thing"] (ak (top 54)):=zC
def wg:(["_law_number","_law_web_here","_law_a","_law_b","_law_thing"]:List Str).Nodup:=by decide +kernel
def Bw(F:Fun K "_law_two" "_law_two" (top 54) f fd)(B:ī mg)(bn:í P w K mg base 2 "_law_leads" ["_law_web_here","_law_a","_law_b","_law_thing"] (spD Vq))(av:í P w K mg base 1 "_law_is" ["_law_thing","_law_word","_law_many"] (spD Oz)):FnOk P w K mg base CX0 3 f fd ["_law_web_here","_law_a","_law_b","_law_thing"] (spD Qp):=by
 refine F.ok qL ė (λcdv A outer s H vs Q E hr h=>?_)
 have nd:=qL.nd
 refine⟨_,ó (È (ā (ű (Ŀ (Ď (Đ (Ă av hr (À (Ã 3) (À Ĥ (À Å Á)))))) (Ŀ (Ď (Đ (Ă bn hr (À (Ã 0) (À (Ã 1) (À (Ã 2) (À (Ì (Ã 3) Å) Á))))))) (ū (Ď (Đ (Ă bn hr (À (Ã 0) (À (Ã 1) (À (Ã 2) (À (Ì (Ã 3) Å) Á))))))))))) (Ù (ß Ĳ)) æ)
  (Ù (ß (ş hr.units (Ž ["_law_number"] rfl (Ĺ (Ì (Ì (Ã 3) Å) Å)) (λc=>(ã (i:=0) wg rfl zQ)) (λc=>(Wr.dz (Wr.jY hr.units (Ã 0) (Ì (Ì (Ã 4) Å) Å)))) (λc=>(Ã 0))) (â Á))))),aH h ?_⟩
 rintro ds P ⟨n,us,a,b,d,rfl,L,th,q⟩
 refine⟨[.im (au n us),.im (.int a),.im (.int b),aF d],by show [aF (au n us),.im (.int a),.im (.int b),aF d]=_;rw[ķ],?_⟩
 obtain⟨n1,n30,lu,ok,a0,a1,b0,b1⟩:=L
 rcases aY d with z|z
 all_goals
  rw[z]
  refine⟨d,"ways",3,rfl,by decide,?_⟩
  show if (!hasB "ways" 3 d)=true then _ else _
  cases hh:hasB "ways" 3 d with
  |false =>
   rw[Ip hh] at q
   exact aA (B:=True) ⟨rfl,q⟩
  |true =>
   obtain⟨e,x,y,rfl,se⟩:=jB hh
   have q1:P (.bool (cg "ways" e&&(bZ true n us a b x&&(bZ true n us a b y&&!qI (uJ x) (uJ y))))):=q
   rw[se,Ċ] at q1
   have fx:=(th _ rfl x (Ê _ Ñ)).2.1
   have fy:=(th _ rfl y (Ê _ (Ê _ Ñ))).2.1
   refine aC (A:=True) ⟨x,rfl,n,us,a,b,x,rfl,by omega,ok,a0,a1,fx,?_⟩
   show if (!bZ true n us a b x)=true then _ else _
   cases hx:bZ true n us a b x with
   |false =>
    rw[hx] at q1
    exact aA (B:=True) ⟨rfl,q1⟩
   |true =>
    rw[hx,Ċ] at q1
    refine aC (A:=True) ⟨y,rfl,n,us,a,b,y,rfl,by omega,ok,a0,a1,fy,?_⟩
    show if (!bZ true n us a b y)=true then _ else _
    cases hy:bZ true n us a b y with
    |false =>
     rw[hy] at q1
     exact aA (B:=True) ⟨rfl,q1⟩
    |true =>
     rw[hy,Ċ] at q1
     obtain⟨p1,k1,rfl,_⟩:=jD (by unfold bZ at hx;rw[Õ] at hx;exact hx.1)
     obtain⟨p2,k2,rfl,_⟩:=jD (by unfold bZ at hy;rw[Õ] at hy;exact hy.1)
     have q1:P (.bool (!qI ((k1.map Â).map toI) ((k2.map Â).map toI))):=q1
     rw[cB,cB] at q1
     have l1:=(fx _ rfl (iD k1) (Ê _ Ñ) _ rfl).1
     rw[Ä] at l1
     refine aC (A:=True) ?_
     refine⟨.tuple [iD p1,iD k1],rfl,iD k1,rfl,o7 k1 Â (λx=>decide (x∈k2)) Â .imm rfl (by omega) (λx hx A B h1 h2=>⟨.tuple [iD p2,iD k2],rfl,iD k2,rfl,rfl,š k2,?_⟩) ?_⟩
     ·show if ((k2.map Â).any λe=>á e (.int x))=true then _ else _
      rw[Ğ]
      cases hc:decide (x∈k2) with
      |true=>exact aA (B:=True) ⟨rfl,h1 hc⟩
      |false=>exact aC (A:=True) (h2 hc)
     ·refine⟨zK,rN _,rfl,rfl,?_⟩
      show P (.bool (á (.list ((k1.filter λx=>decide (x∈k2)).map Â)) (.list [])))
      rw[jE,Mx]
      exact q1
def qM:FnScope ["_law_web_here","_law_a","_law_b","_law_thing","_law_here"] ["_law_web_here","_law_a","_law_b","_law_thing"] (ak (top 55)):=zC
def Bx(F:Fun K "_law_tie" "_law_tie" (top 55) f fd)(B:ī mg)(am:í P w K mg base 1 "_law_numbers" ["_law_thing"] (spD Fz))(av:í P w K mg base 1 "_law_is" ["_law_thing","_law_word","_law_many"] (spD Oz))(ac:í P w K mg base 1 "_law_met" ["_law_web_here","_law_start","_law_fallen","_law_barred"] (spD Ox))(bc:í P w K mg base 2 "_law_just" ["_law_thing","_law_due"] (spD K4)):FnOk P w K mg base CX0 3 f fd ["_law_web_here","_law_a","_law_b","_law_thing"] (spD Qq):=by
 refine F.ok qM ė (λcdv A outer s H vs Q E hr h=>?_)
 have nd:=qM.nd
 refine⟨_,ó (È (ā (ű (Ŀ (Ď (Đ (Ă av hr (À (Ã 3) (À Ĥ (À Å Á)))))) (Ŀ (Ď (Đ (Ă am hr (À (â (À (Ì (Ã 3) Å) Á)) Á)))) (ū (Ď (Wr.jw JL yC Å (Ì (Ã 3) Å) (Ĝ B.len (À (Ì (Ã 0) Å) Á)))))))) (Ù (ß Ĳ)) æ)
  (È (å none (i:=4) nd rfl zQ (Ă ac hr (À (Ã 0) (À (Ã 1) (À (â (À (Ì (Ã 3) Å) Á)) (À (â Á) Á))))))
  (Ù (ß (ŀ (Wr.uG hr.units (Ã 2) (Ă ac hr (À (Ã 0) (À (Ã 1) (À (â Á) (À (â Á) Á)))))) (ŀ (Wr.fG hr.units (Ã 2) (Ã 4)) (Ų (Ă bc hr (À (Ì (Ã 3) Å) (À (Ã 4) Á)))))))))),aH h ?_⟩
 rintro ds P ⟨n,us,a,b,d,rfl,L,n16,th,q⟩
 refine⟨[.im (au n us),.im (.int a),.im (.int b),aF d,.any],by show [aF (au n us),.im (.int a),.im (.int b),aF d,.any]=_;rw[ķ],?_⟩
 obtain⟨n1,n30,lu,ok,a0,a1,b0,b1⟩:=L
 rcases aY d with z|z
 all_goals
  rw[z]
  refine⟨d,"tie",3,rfl,by decide,?_⟩
  show if (!hasB "tie" 3 d)=true then _ else _
  cases hh:hasB "tie" 3 d with
  |false =>
   rw[Iw hh] at q
   exact aA (B:=True) ⟨rfl,q⟩
  |true =>
   obtain⟨e,k,x,rfl,se⟩:=jB hh
   have q1:P (.bool (cg "tie" e&&(aM (us.length:Nat) k&&(decide (b∈aL n us [] a)&&(!decide (b∈aL n us [toI k] a)&&kW (aL n us [toI k] a) x))))):=q
   rw[se,Ċ] at q1
   have tk:=th _ rfl k (Ê _ Ñ)
   have rk:d9 (.list [k]):=λxs e=>by
    cases e
    exact⟨(show 1<=400 by decide),λy hy=>by rw[Ë.mp hy];exact tk.2.2⟩
   refine aC (A:=True) ⟨k,rfl,zK,.list [k],rfl,rk,?_⟩
   show if (!lN (.list [k]))=true then _ else _
   have nk:lN (.list [k])=isW k:=by show(isW k&&true)=_;rw[Bool.and_true]
   rw[nk]
   cases hk:isW k with
   |false =>
    have e:aM ((us.length:Nat):Int) k=false:=by
     cases k with
     |int i=>cases hk
     |_=>rfl
    rw[e] at q1
    exact aA (B:=True) ⟨rfl,q1⟩
   |true =>
    obtain⟨i,rfl⟩:=Fq hk
    have q1:P (.bool (decide (0<=i/\i<((us.length:Nat):Int))&&(decide (b∈aL n us [] a)&&(!decide (b∈aL n us [i] a)&&kW (aL n us [i] a) x)))):=q1
    refine aC (A:=True) ⟨.int i,rfl,?_⟩
    by_cases i0:0<=i
    case neg =>
     rw[decide_eq_false λz=>i0 z.1] at q1
     exact wD (c:=decide ((0:Int)<=i)) (decide_eq_false i0) ⟨rfl,q1⟩
    have lm:(us.map pD).length=us.length:=Ä ..
    refine Cg (c:=decide ((0:Int)<=i)) (decide_eq_true i0) ⟨.tuple (us.map pD),rfl,?_⟩
    by_cases i1:i<(us.length:Nat)
    case neg =>
     rw[decide_eq_false λz=>i1 z.2] at q1
     exact Cg (c:=!decide (i<(((us.map pD).length:Nat):Int))) (by rw[decide_eq_false (by omega)];rfl) ⟨rfl,q1⟩
    rw[decide_eq_true ⟨i0,i1⟩,Ċ] at q1
    refine wD (c:=!decide (i<(((us.map pD).length:Nat):Int))) (by rw[decide_eq_true (by omega)];rfl) ?_
    refine⟨.int i,rfl,zK,zK,n,us,a,[i],[],rfl,n1,n16,by omega,ok,a0,a1,?_⟩
    refine⟨zK,zK,n,us,a,[],[],rfl,n1,n16,by omega,ok,a0,a1,rfl,š _,?_⟩
    show if (((rsI (adj us [] []) n.toNat a).map Â).any λe=>á e (.int b))=true then _ else _
    rw[Ğ]
    cases hb:decide (b∈rsI (adj us [] []) n.toNat a) with
    |false =>
     rw[show decide (b∈aL n us [] a)=false from hb] at q1
     exact aC (A:=True) ⟨rfl,q1⟩
    |true =>
     rw[show decide (b∈aL n us [] a)=true from hb,Ċ] at q1
     refine aA (B:=True) ⟨rfl,š _,?_⟩
     show if (!(((rsI (adj us [i] []) n.toNat a).map Â).any λe=>á e (.int b)))=true then _ else _
     rw[Ğ]
     cases hb2:decide (b∈rsI (adj us [i] []) n.toNat a) with
     |true =>
      rw[show decide (b∈aL n us [i] a)=true from hb2] at q1
      exact aC (A:=True) ⟨rfl,q1⟩
     |false =>
      rw[show decide (b∈aL n us [i] a)=false from hb2] at q1
      exact aA (B:=True) ⟨x,rfl,x,_,rfl,(th _ rfl x (Ê _ (Ê _ Ñ))).1,rfl,q1⟩
def qO:FnScope ["_law_web_here","_law_a","_law_b","_law_thing","_law_here"] ["_law_web_here","_law_a","_law_b","_law_thing"] (ak (top 56)):=zC
def BK(F:Fun K "_law_gap" "_law_gap" (top 56) f fd)(B:ī mg)(ac:í P w K mg base 1 "_law_met" ["_law_web_here","_law_start","_law_fallen","_law_barred"] (spD Ox))(bc:í P w K mg base 2 "_law_just" ["_law_thing","_law_due"] (spD K4))(av:í P w K mg base 1 "_law_is" ["_law_thing","_law_word","_law_many"] (spD Oz)):FnOk P w K mg base CX0 3 f fd ["_law_web_here","_law_a","_law_b","_law_thing"] (spD Qx):=by
 refine F.ok qO ė (λcdv A outer s H vs Q E hr h=>?_)
 have nd:=qO.nd
 refine⟨_,ó (È (å none (i:=4) nd rfl zQ (Ă ac hr (À (Ã 0) (À (Ã 1) (À (â Á) (À (â Á) Á))))))
  (Ù (ß (ŀ (Ă av hr (À (Ã 3) (À Ĥ (À Å Á)))) (ŀ (Wr.fG hr.units (Ã 2) (Ã 4)) (Ų (Ă bc hr (À (Ì (Ã 3) Å) (À (Ã 4) Á))))))))),aH h ?_⟩
 rintro ds P ⟨n,us,a,b,d,rfl,L,n16,th,q⟩
 refine⟨[.im (au n us),.im (.int a),.im (.int b),aF d,.any],by show [aF (au n us),.im (.int a),.im (.int b),aF d,.any]=_;rw[ķ],?_⟩
 obtain⟨n1,n30,lu,ok,a0,a1,b0,b1⟩:=L
 refine⟨zK,zK,n,us,a,[],[],rfl,n1,n16,by omega,ok,a0,a1,?_⟩
 rcases aY d with z|z
 all_goals
  rw[z]
  refine⟨d,"apart",2,rfl,by decide,?_⟩
  show if hasB "apart" 2 d=true then _ else _
  cases hh:hasB "apart" 2 d with
  |false =>
   rw[Kv hh] at q
   exact aC (A:=True) ⟨rfl,q⟩
  |true =>
   obtain⟨e,x,rfl,se⟩:=Ft hh
   have q1:P (.bool (cg "apart" e&&(!decide (b∈aL n us [] a)&&kW (aL n us [] a) x))):=q
   rw[se,Ċ] at q1
   refine aA (B:=True) ⟨rfl,š _,?_⟩
   show if (!(((rsI (adj us [] []) n.toNat a).map Â).any λe=>á e (.int b)))=true then _ else _
   rw[Ğ]
   cases hb:decide (b∈rsI (adj us [] []) n.toNat a) with
   |true =>
    rw[show decide (b∈aL n us [] a)=true from hb] at q1
    exact aC (A:=True) ⟨rfl,q1⟩
   |false =>
    rw[show decide (b∈aL n us [] a)=false from hb] at q1
    exact aA (B:=True) ⟨x,rfl,x,_,rfl,(th _ rfl x (Ê _ Ñ)).1,rfl,q1⟩
end
def Qs(ds:List D)(P:D->Prop):Prop:=∃n:Int,ds=[.int n]/\2<=n/\n<=16/\∀x y:Int,0<=x->x<n->0<=y->y<n->x≠y->P (.tuple [.int x,.int y])
def Fy(ds:List D)(P:D->Prop):Prop:=∃n us a b,ds=[au n us,.int a,.int b]/\1<=n/\n<=16/\us.length<=40/\OkN n us/\0<=a/\a<n/\0<=b/\b<n/\∀ps ks:List Int,ps.length<=31->ks.length<=31->(∀x∈ps,0<=x/\x<n)->(∀k∈ks,0<=k/\k<(us.length:Nat))->ps≠[]->P (.tuple [iD ps,iD ks])
def onT(us:List Tie)(x:Int)(v:Nat):Bool:=match us[v]? with
 |some t=>decide (x∈[t.1,t.2])
 |none=>false
def Dg{α:Type}(l:List α)(j:Nat):cU l none (some ((j:Nat):Int))=l.take j:=by
 unfold cU
 have e1:HT.sIx l.length 0 none=0:=rfl
 have e2:HT.sIx l.length l.length (some ((j:Nat):Int))=min j l.length:=HT.kY l.length l.length j
 rw[e1,e2,List.drop_zero,Nat.sub_zero]
 by_cases h:j<=l.length
 ·rw[Nat.min_eq_left h]
 ·rw[Nat.min_eq_right (by omega),Ŵ (Ô _),Ŵ (by omega)]
theorem lay_ints:∀ns:List Int,Ĉ (ns.map Â)=true
 |[]=>rfl
 |n::ns=>lay_ints ns
theorem zU:∀ns:List Int,ē (ns.map Â)<=0
 |[]=>Ô _
 |n::ns=>by
  show max 0 (ē (ns.map Â))<=0
  have:=zU ns
  omega
def Va{o:List Int}(few:o.length<=64)(hr:∀x∈o,0<=x/\x<16):(Ć (o.map Â)).layable0=true:=by
 have w:∀l:List Int,(∀x∈l,0<=x/\x<16)->PyData.weightAll (l.map Â)<=6 * l.length:=λl=>by
  induction l with
  |nil=>exact λ_=>Ô _
  |cons x l ih =>
   intro hl
   have hx:=hl x Ñ
   have:=ih λy hy=>hl y (Ê _ hy)
   have e:(if (x == 0)=true then 0 else x.natAbs.log2+1)<=5:=by
    by_cases z:x.natAbs=0
    ·rw[show x=0 by omega];decide
    ·have:=(Nat.log2_lt (k:=4) z).mpr (by omega)
     split <;> omega
   show(if (x == 0)=true then 0 else x.natAbs.log2+1)+1+PyData.weightAll (l.map Â)<=6 * (l.length+1)
   omega
 have h1:=lay_ints o
 have h2:=zU o
 have h3:=w o hr
 show(Ĉ (o.map Â)&&decide (ē (o.map Â)+1<=64)&&decide (PyData.weightAll (o.map Â)<=2 ^ 20))=true
 rw[h1,decide_eq_true (by omega),decide_eq_true (by omega)]
 rfl
structure Stl(n:Int)(m:Nat)(i:Nat)(ps ks:List Int):Prop where
 lp:ps.length<=i+1
 lk:ks.length<=i
 rp:∀x∈ps,0<=x/\x<n
 rk:∀k∈ks,0<=k/\k<(m:Nat)
 ne:ps≠[]
def Stl.up{n:Int}{m i:Nat}{ps ks:List Int}(h:Stl n m i ps ks):Stl n m (i+1) ps ks:=⟨by have:=h.lp;omega,by have:=h.lk;omega,h.rp,h.rk,h.ne⟩
abbrev RSt(K:Ý)(n:Int)(us:List Tie)(a b:Int)(ps ks:List Int):List Sl:=[.pen (CP K),.im (au n us),.im (.int a),.im (.int b),.dw 0 (iD ps),.dw 1 (iD ks),.any,.any,.any,.any,.any]
section
variable {P:Program}{w:World}{K:Ý}{mg:Str->Option Value}{base:Heap}{f:Addr}{fd:FuncData}
def oN:FnScope ["_law_pen","_law_n","_law_a"] ["_law_pen","_law_n"] (ak (top 47)):=zC
def yF(F:Fun K "_law_pair" "_law_pair" (top 47) f fd)(B:ī mg)(aa:í P w K mg base 1 "_law_take" ["_law_pen","_law_many"] (spP (CP K) gO)):FnOk P w K mg base CX0 2 f fd ["_law_pen","_law_n"] (spP (CP K) Qs):=by
 refine F.ok oN gj (λcdv A outer s H vs Q E hr h=>?_)
 have nd:=oN.nd
 refine⟨_,ó (È (å none (i:=2) nd rfl zQ (ĝ aa hr (č 0) (À (Ã 1) Á)))
  (Ù (ß (ë (À (Ã 2) (À (Wr.rB (Ġ (Ġ (Ã 2) Å) (ĝ aa hr (č 0) (À (Wr.dI (Ã 1) Å) Á))) (Ã 1)) Á)))))),enterQ h ?_⟩
 rintro ds P ⟨n,rfl,n2,n16,q⟩
 refine⟨[.im (.int n),.any],rfl,?_⟩
 refine⟨rfl,n,rfl,by omega,by omega,λa a0 a1=>⟨rfl,n - 1,rfl,by omega,by omega,λb b0 b1=>⟨(show(0:Int)<n by omega),zK,rfl,?_⟩⟩⟩
 have h1:=ż (a+1+b) (b:=n) (by omega)
 have h2:=Š (a+1+b) (b:=n) (by omega)
 refine q a _ a0 a1 h1 h2 ?_
 by_cases h:a+1+b<n
 ·rw[Int.emod_eq_of_lt (by omega) h]
  omega
 ·rw[←Int.sub_emod_right,Int.emod_eq_of_lt (by omega) (by omega)]
  omega
def jN:FnScope ["_law_pen","_law_web_here","_law_a","_law_b","_law_places","_law_row","_law_turn","_law_some","_law_number","_law_there","_law_at"] ["_law_pen","_law_web_here","_law_a","_law_b"] (ak (top 48)):=zC
def pL:(["_law_k","_law_pen","_law_web_here","_law_a","_law_b","_law_places","_law_row","_law_turn","_law_some","_law_number","_law_there","_law_at"]:List Str).Nodup:=by decide +kernel
def tY(F:Fun K "_law_stroll" "_law_stroll" (top 48) f fd)(B:ī mg)(aI:mg "sum"=none)(aa:í P w K mg base 1 "_law_take" ["_law_pen","_law_many"] (spP (CP K) gO)):FnOk P w K mg base CX0 2 f fd ["_law_pen","_law_web_here","_law_a","_law_b"] (spP (CP K) Fy):=by
 refine F.ok jN gj (λcdv A outer s H vs Q E hr h=>?_)
 have nd:=jN.nd
 refine⟨_,ó (È (å (some 0) (i:=4) nd rfl zQ (â (À (Ã 2) Á)))
  (È (å (some 1) (i:=5) nd rfl zQ (â Á))
  (È (ņ þ rfl (Ņ B.range (À Å Á)) (ã (i:=6) nd rfl zQ) (È (Wr.jd none ["_law_k"] (i:=7) rfl nd rfl zQ (Ņ B.range (À (Ĝ B.len (À (Ì (Ã 1) Å) Á)) Á)) (λc=>(ã (i:=0) pL rfl zQ)) (λc=>(Wr.dz (Wr.jY hr.units (Ì (Ã 5) (Wr.cV Å)) (Ì (Ì (Ã 2) Å) (Ã 0))))) (λc=>(Ã 0)))
  (È (ā (ű (Ŭ (Ľ hr.units (Ì (Ã 4) (Wr.cV Å)) (Ã 3)) (ŵ (Ľ hr.units (Ã 7) (â Á))))) (È (å none (i:=8) nd rfl zQ (Ì (Ã 7) (ĝ aa hr (č 0) (À (Ĝ B.len (À (Ã 7) Á)) Á))))
  (È (å none (i:=9) nd rfl zQ (Wr.dI (Wr.pX rfl aI (À (Ì (Ì (Ã 1) Å) (Ã 8)) Á)) (Ì (Ã 4) (Wr.cV Å))))
  (Ù (ā (Wr.jY hr.units (Ã 9) (Ã 4)) (È (å none (i:=10) nd rfl zQ (Wr.rC (Ã 4) (À (Ã 9) Á)))
  (È (å (some 0) (i:=4) nd rfl zQ (Wr.jP (Ã 4) Wr.cR (Wr.bY (Ġ (Ã 10) Å))))
  (Ù (å (some 1) (i:=5) nd rfl zQ (Wr.jP (Ã 5) Wr.cR (Wr.bY (Ã 10))))))) (È (ń (č 4) (À (Ã 9) Á))
  (Ù (ń (č 5) (À (Ã 8) Á)))))))) æ) (î [6,7,8,9,10] æ))))
  (î [6,7,8,9,10] (Ù (ß (ë (À (Ã 4) (À (Ã 5) Á))))))))),enterQ h ?_⟩
 rintro ds P ⟨n,us,a,b,rfl,n1,n16,lu,ok,a0,a1,b0,b1,q⟩
 refine⟨[.im (au n us),.im (.int a),.im (.int b),.any,.any,.any,.any,.any,.any,.any],by show [aF (au n us),_,_,.any,.any,.any,.any,.any,.any,.any]=_;rw[ķ];rfl,?_⟩
 have lum:(us.map pD).length=us.length:=Ä ..
 refine⟨zK,zK,⟨by decide,by decide⟩,rfl,λi ρ=>∃ps ks,ρ=RSt K n us a b ps ks/\Stl n us.length i ps ks,⟨[a],[],rfl,⟨Ô _,Ô _,λx hx=>by rw[Ë.mp hx];exact⟨a0,a1⟩,λk hk=>(nomatch hk),by simp⟩⟩,?_,?_⟩
 ·rintro i d ρ hd ⟨ps,ks,rfl,S⟩
  obtain⟨hi,rfl⟩:=cH hd
  obtain⟨x,hx⟩:∃x,ps.getLast?=some x:=⟨_,List.getLast?_eq_some_getLast S.ne⟩
  have ax:atI (ps.map Â) (-1)=some (.int x):=xg hx
  have mx:=List.mem_of_getLast? hx
  have rx:=S.rp x mx
  have lps:(ps.map Â).length=ps.length:=Ä ..
  have atk:∀(k:Int) (t:Tie),0<=k->us[k.toNat]?=some t->atI (us.map pD) k=some (pD t):=λk t k0 ht=>by
   have:=bK (xs:=us.map pD) (j:=k.toNat) (v:=pD t) (by rw[Û,ht];rfl)
   rwa [show((k.toNat:Nat):Int)=k by omega] at this
  refine⟨.tuple (us.map pD),rfl,⟨by omega,by omega⟩,o7 (ê us.length) (λv=>Â (0+((v:Nat):Int))) (onT us x) (λv=>Â (0+((v:Nat):Int))) .imm (by rw[lum,ĩ];rfl) (by rw[ł];omega) (λv hv A B h1 h2=>?_) ?_⟩
  ·have hv:=Ħ.mp hv
   have ht:=É hv
   generalize us[v]=t at ht
   have eo:onT us x v=decide (x∈[t.1,t.2]):=by unfold onT;rw[ht]
   rw[eo] at h1 h2
   refine⟨.int x,ax,.tuple (us.map pD),rfl,pD t,atk _ t (by omega) (by rw[show(0+((v:Nat):Int)).toNat=v by omega];exact ht),rfl,š [t.1,t.2],?_⟩
   show if (([t.1,t.2].map Â).any λe=>á e (.int x))=true then _ else _
   rw[Ğ]
   cases hc:decide (x∈[t.1,t.2]) with
   |true=>exact aA (B:=True) ⟨rfl,h1 hc⟩
   |false=>exact aC (A:=True) (h2 hc)
  obtain⟨L,eL,hL,lL⟩:∃L:List Int,((ê us.length).filter (onT us x)).map (λv=>Â (0+((v:Nat):Int)))=L.map Â/\(∀k∈L,0<=k/\∃t,us[k.toNat]?=some t/\x∈[t.1,t.2])/\L.length<=40:=by
   refine⟨((ê us.length).filter (onT us x)).map λv=>0+((v:Nat):Int),by rw[ĺ];rfl,λk hk=>?_,?_⟩
   ·obtain⟨v,hv,rfl⟩:=Ā.mp hk
    obtain⟨h1,h2⟩:=ð.mp hv
    have ht:=É (Ħ.mp h1)
    refine⟨by omega,_,by rw[show(0+((v:Nat):Int)).toNat=v by omega];exact ht,?_⟩
    unfold onT at h2
    rw[ht] at h2
    exact of_decide_eq_true h2
   ·have:=ħ (onT us x) (ê us.length)
    rw[ł] at this
    rw[Ä]
    omega
  rw[eL]
  show wR _ _ _ [.pen (CP K),.im (au n us),.im (.int a),.im (.int b),.dw 0 (iD ps),.dw 1 (iD ks),.im (.int (0+((i:Nat):Int))),.sn (iD L),.any,.any,.any]
  have stay:∀s8 s9 s10:Sl,Df [6,7,8,9,10] Gd { nx:=λρ=>∃ps ks,ρ=RSt K n us a b ps ks/\Stl n us.length (i+1) ps ks,rt:=P } [.pen (CP K),.im (au n us),.im (.int a),.im (.int b),.dw 0 (iD ps),.dw 1 (iD ks),.im (.int (0+((i:Nat):Int))),.sn (iD L),s8,s9,s10]:=λ_ _ _=>⟨ps,ks,rfl,S.up⟩
  refine⟨.int x,ax,?_⟩
  by_cases cb:x=b
  ·exact wD (c:=!decide (x=b)) (by rw[decide_eq_true cb];rfl) ⟨ps,ks,rfl,S.up⟩
  refine Cg (c:=!decide (x=b)) (by rw[decide_eq_false cb];rfl) ⟨zK,rN L,rfl,?_⟩
  show if (!(á (.list (L.map Â)) (.list [])))=true then _ else _
  rw[jE]
  cases hL0:L with
  |nil=>exact aC (A:=True) ⟨ps,ks,rfl,S.up⟩
  |cons k0 L0 =>
  rw[←hL0]
  refine Cg (by rw[hL0];rfl) ?_
  have lm:(L.map Â).length=L.length:=Ä ..
  have l0:1<=L.length:=by rw[hL0];simp
  refine⟨rfl,_,rfl,by omega,by omega,λr r0 r1=>?_⟩
  have r1:r<(((L.map Â).length:Nat):Int):=r1
  obtain⟨k,hk,mk⟩:∃k,atI (L.map Â) r=some (.int k)/\k∈L:=by
   have hlt:r.toNat<L.length:=by omega
   have:=bK (xs:=L.map Â) (j:=r.toNat) (v:=.int L[r.toNat]) (by rw[Û,É hlt];rfl)
   rw[show((r.toNat:Nat):Int)=r by omega] at this
   exact⟨_,this,į hlt⟩
  obtain⟨kk0,t,ht,hxt⟩:=hL k mk
  have klt:=(Ç.mp ht).1
  have aw:=atk k t kk0 ht
  obtain⟨⟨o1,o2⟩,⟨o3,o4⟩,o5⟩:=ok t (Ð ht)
  refine⟨.int k,hk,?_⟩
  have Si:=S.lp
  have lps2:ps.length<=31:=by have z:i<30:=hi;omega
  refine⟨.tuple (us.map pD),rfl,pD t,aw,[t.1,t.2],rfl,zK,λy hy=>?_,.int x,ax,?_⟩
  ·rcases Ü.mp hy with rfl|hy
   ·omega
   ·rw[Ë.mp hy];omega
  rw[show [t.1,t.2].sum=t.1+t.2 by simp]
  have rz:0<=t.1+t.2 - x/\t.1+t.2 - x<n:=by
   rcases Ü.mp hxt with rfl|h
   ·omega
   ·rw[Ë.mp h];omega
  refine⟨rfl,š ps,?_⟩
  show if ((ps.map Â).any λe=>á e (.int (t.1+t.2 - x)))=true then wR _ _ _ [.pen (CP K),.im (au n us),.im (.int a),.im (.int b),.dw 0 (iD ps),.dw 1 (iD ks),.im (.int (0+((i:Nat):Int))),.sn (iD L),.im (.int k),.im (.int (t.1+t.2 - x)),.any] else wR _ _ _ [.pen (CP K),.im (au n us),.im (.int a),.im (.int b),.dw 0 (iD ps),.dw 1 (iD ks),.im (.int (0+((i:Nat):Int))),.sn (iD L),.im (.int k),.im (.int (t.1+t.2 - x)),.any]
  generalize t.1+t.2 - x=z at rz
  rw[Ğ]
  cases hz:decide (z∈ps) with
  |true =>
   refine aA (B:=True) ⟨ps,rfl,Va (by omega) (λy hy=>by have:=S.rp y hy;omega),of_decide_eq_true hz,?_⟩
   have ec:cU (ps.map Â) none (some (((ps.idxOf z:Nat):Int)+1))=(ps.take (ps.idxOf z+1)).map Â:=by
    rw[show((ps.idxOf z:Nat):Int)+1=((ps.idxOf z+1:Nat):Int) by omega,Dg,List.map_take]
   have ec2:cU (ks.map Â) none (some ((ps.idxOf z:Nat):Int))=(ks.take (ps.idxOf z)).map Â:=by
    rw[Dg,List.map_take]
   refine .inl ⟨by rw[ec];exact bA _,?_⟩
   rw[ec]
   refine .inl ⟨by rw[ec2];exact bA _,?_⟩
   rw[ec2]
   have S':=S.up
   refine⟨ps.take (ps.idxOf z+1),ks.take (ps.idxOf z),rfl,⟨?_,?_,λy hy=>S.rp y (Ő hy),λy hy=>S.rk y (Ő hy),λh=>?_⟩⟩
   ·have:=List.length_take_le (ps.idxOf z+1) ps
    have:=List.length_take_le' (ps.idxOf z+1) ps
    have:=S'.lp
    omega
   ·have:=List.length_take_le' (ps.idxOf z) ks
    have:=S'.lk
    omega
   ·have:=Ĵ.mpr S.ne
    have z0:=congrArg List.length h
    rw[ě,List.length_nil] at z0
    omega
  |false =>
   have lks:(ks.map Â).length=ks.length:=Ä ..
   have Sk:=S.lk
   have e1:Ć (ps.map Â++[.int z])=iD (ps++[z]):=by unfold iD;rw[ñ];rfl
   have e2:Ć (ks.map Â++[.int k])=iD (ks++[k]):=by unfold iD;rw[ñ];rfl
   refine aC (A:=True) ⟨rfl,by omega,rfl,by have z:i<30:=hi;omega,ps++[z],ks++[k],?_,⟨?_,?_,λy hy=>?_,λy hy=>?_,by simp⟩⟩
   ·show([.pen (CP K),.im (au n us),.im (.int a),.im (.int b),.dw 0 (.list (ps.map Â++[.int z])),.dw 1 (.list (ks.map Â++[.int k])),.any,.any,.any,.any,.any]:List Sl)=_
    rw[e1,e2]
   ·rw[Í,è];omega
   ·rw[Í,è];omega
   ·rcases à.mp hy with h|h
    ·exact S.rp y h
    ·rw[Ë.mp h];exact rz
   ·rcases à.mp hy with h|h
    ·exact S.rk y h
    ·rw[Ë.mp h];omega
 ·rintro ρ ⟨ps,ks,rfl,S⟩
  have lp:=S.lp
  have lk:=S.lk
  refine⟨zK,rfl,q ps ks ?_ ?_ S.rp S.rk S.ne⟩
  ·have z:ps.length<=30+1:=lp
   omega
  ·have z:ks.length<=30:=lk
   omega
end
def Sh(k m:Nat)(d:D):Prop:=d.showable=true/\d.leavesShort 400=true/\d.depth<=k/\d.bulk<=m
instance (k m:Nat)(d:D):Decidable (Sh k m d):=by unfold Sh;exact inferInstance
def Sh.mono{k m k' m':Nat}{d:D}(h:Sh k m d)(h1:k<=k')(h2:m<=m'):Sh k' m' d:=⟨h.1,h.2.1,õ h.2.2.1 h1,õ h.2.2.2 h2⟩
def Sh.int{k m:Nat}{i:Int}(h0:-1000<=i)(h1:i<=1000):Sh k m (.int i):=by
 refine⟨?_,?_,ü _,ü _⟩
 ·simp only[PyData.showable,decide_eq_true_eq]
  have:=Nat.log2_le_self i.natAbs
  omega
 ·simp only[PyData.leavesShort,decide_eq_true_eq]
  have:=PyData.shown_int_le (i:=i) (by omega)
  omega
theorem Bb{k m:Nat}:∀{ds:List D},(∀d∈ds,Sh k m d)->PyData.showableAll ds=true/\PyData.leavesShortAll 400 ds=true/\ē ds<=k/\PyData.bulkAll ds<=ds.length * (m+1)
 |[],_=>⟨rfl,rfl,ü _,ü _⟩
 |d::ds,h=>by
  obtain⟨h1,h2,h3,h4⟩:=Bb (ds:=ds) λe he=>h e (Ê _ he)
  obtain⟨g1,g2,g3,g4⟩:=h d Ñ
  refine⟨?_,?_,?_,?_⟩
  ·show(d.showable&&PyData.showableAll ds)=true
   rw[g1,h1];rfl
  ·show(d.leavesShort 400&&PyData.leavesShortAll 400 ds)=true
   rw[g2,h2];rfl
  ·show max d.depth (ē ds)<=k
   omega
  ·show d.bulk+1+PyData.bulkAll ds<=(ds.length+1) * (m+1)
   rw[Nat.add_mul]
   omega
def Sh.list{k m c:Nat}{ds:List D}(h:∀d∈ds,Sh k m d)(hc:ds.length * (m+1)<=c):Sh (k+1) c (.list ds):=by
 obtain⟨h1,h2,h3,h4⟩:=Bb h
 exact⟨h1,h2,Nat.succ_le_succ h3,õ h4 hc⟩
def Sh.tuple{k m c:Nat}{ds:List D}(h:∀d∈ds,Sh k m d)(hc:ds.length * (m+1)<=c):Sh (k+1) c (.tuple ds):=by
 obtain⟨h1,h2,h3,h4⟩:=Bb h
 exact⟨h1,h2,Nat.succ_le_succ h3,õ h4 hc⟩
def Sh.ok{k m:Nat}{d:D}(h:Sh k m d)(hk:k<=50)(hm:m<=40000):Nz d:=by
 obtain⟨h1,h2,h3,h4⟩:=h
 refine⟨h1,by omega,?_⟩
 have b:=PyData.shown_le_bulk 400 (by decide) d h2
 have h24:=ą
 have:(400+2) * d.bulk<=402 * 40000:=Nat.mul_le_mul (by decide) (by omega)
 omega
def pO(x:Str):Prop:=x.cps.size<=3000/\∀c∈x.cps.toList,c<128
def pO.chars{x y:Str}(h:∀c∈x.cps.toList,c<128)(h2:∀c∈y.cps.toList,c<128):∀c∈(x++y).cps.toList,c<128:=λc hc=>by
 have e:(x++y).cps.toList=x.cps.toList++y.cps.toList:=by
  show(x.cps++y.cps).toList=_
  simp
 rw[e] at hc
 exact(à.mp hc).elim (h c) (h2 c)
def uQ:∀i:Nat,i<202->(∀c∈(Â (((i:Nat):Int) - 1)).shown.cps.toList,c<128)/\(Â (((i:Nat):Int) - 1)).shown.length<=4:=by
 have h:((ê 202).all λi=>((Ś (toString (((i:Nat):Int) - 1))).cps.toList.all λc=>decide (c<128))&&decide ((Ś (toString (((i:Nat):Int) - 1))).length<=4))=true:=by decide +kernel
 intro i hi
 have:=Ĕ.mp h i (Ħ.mpr hi)
 rw[Õ,decide_eq_true_eq,Ĕ] at this
 rw[PyData.shown_int]
 exact⟨λc hc=>of_decide_eq_true (this.1 c hc),this.2⟩
theorem qy:∀(ts:List Str) (k:Nat) (acc:Str),(∀c∈acc.cps.toList,c<128)->(∀t∈ts,∀c∈t.cps.toList,c<128)->∀c∈(textFrom k acc ts).cps.toList,c<128
 |[],_,_,ha,_=>ha
 |t::ts,k,acc,ha,ht=>qy ts (k+1) _ (pO.chars (pO.chars ha (by split <;> decide +kernel)) (ht t Ñ)) λu hu=>ht u (Ê _ hu)
def Gn{l:List Int}(ll:l.length<=100)(h:∀x∈l,-1<=x/\x<=200):pO (Ć (l.map Â)).shown:=by
 have each:∀x∈l,(∀c∈(Â x).shown.cps.toList,c<128)/\(Â x).shown.length<=4:=λx hx=>by
  have:=h x hx
  have:=uQ (x+1).toNat (by omega)
  rwa [show(((x+1).toNat:Nat):Int) - 1=x by omega] at this
 have sh:PyData.shownAll (l.map Â)=l.map λx=>(Â x).shown:=by
  clear each h ll
  induction l with
  |nil=>rfl
  |cons x l ih=>rw[ò,PyData.shownAll,ih];rfl
 have e:(Ć (l.map Â)).shown=textFrom 0 "[" (l.map λx=>(Â x).shown)++"]":=by
  rw[PyData.shown,sh]
  rfl
 have sm:((l.map λx=>(Â x).shown).map (·.length)).sum<=4 * l.length:=by
  clear sh e ll
  induction l with
  |nil=>exact Ô _
  |cons x l ih =>
   have:=(each x Ñ).2
   have:=ih (λy hy=>h y (Ê _ hy)) λy hy=>each y (Ê _ hy)
   rw[ò,ò,List.sum_cons,ï]
   omega
 rw[e]
 refine⟨?_,pO.chars (qy _ _ _ (by decide +kernel) λt ht=>?_) (by decide +kernel)⟩
 ·have:=textFrom_len_le (l.map λx=>(Â x).shown) 0 "["
  have e1:(("[":Str)).length=1:=by decide +kernel
  have e2:(("]":Str)).cps.size=1:=by decide +kernel
  have e3:(textFrom 0 "[" (l.map λx=>(Â x).shown)++("]":Str)).cps.size=(textFrom 0 "[" (l.map λx=>(Â x).shown)).cps.size+(("]":Str)).cps.size:=by
   show(_++_:Array Nat).size=_
   simp
  have e4:(textFrom 0 "[" (l.map λx=>(Â x).shown)).length=(textFrom 0 "[" (l.map λx=>(Â x).shown)).cps.size:=rfl
  rw[Ä] at this
  omega
 ·obtain⟨x,hx,rfl⟩:=Ā.mp ht
  exact(each x hx).1
theorem no_dict:∀l:List Int,PyData.hasDictAll (l.map Â)=false
 |[]=>rfl
 |_::l=>no_dict l
def shI{l:List Int}{m:Nat}(ll:l.length<=m)(h:∀x∈l,-1000<=x/\x<=1000):Sh 1 m (.list (l.map Â)) :=
 Sh.list (m:=0) (λd hd=>by
  obtain⟨i,hi,rfl⟩:=Ā.mp hd
  exact Sh.int (h i hi).1 (h i hi).2) (by rw[Ä];omega)
def JW{l:List Int}(ll:l.length<=100)(h:∀x∈l,-1000<=x/\x<=1000):okR (.list (l.map Â)):=by
 obtain⟨h1,h2,h3⟩:=(shI ll h).ok (by decide) (by decide)
 exact⟨rN l,h1,no_dict l,h3⟩
def uf(d:D):Prop:=(∃i:Int,d=.int i/\-1000<=i/\i<=1000)\/(∃b,d=.bool b)\/d=.none\/d=.list [.int 0]\/d=.str "0"
def Mf(d:D):Prop:=∃xs:List D,(∀x∈xs,uf x)/\xs.length<=80/\(d=.list xs\/(∃l:List Int,xs=l.map Â)/\(d=.tuple xs\/d=.none\/d=.list [.list xs]\/∃s,d=.str s/\pO s))
def fBL(ds:List D)(P:D->Prop):Prop:=∃(n:Int) (l:List Int),ds=[.int n,iD l]/\0<=n/\n<=100/\l.length<=60/\(∀x∈l,0<=x/\x<100)/\∀d,Mf d->P d
abbrev RBl(K:Ý)(n:Int)(l:List Int)(xs:List D)(s z:Int):List Sl:=[.pen (CP K),.im (.int n),.sh (iD l),.dw 0 (.list xs),.im (.int s),.im (.int z)]
def jj(m:Nat)(xs:List D):Prop:=∃k:List Int,xs=k.map Â/\k.length<=m/\∀x∈k,-1<=x/\x<=200
def jj.up{m:Nat}{xs:List D}(h:jj m xs):jj (m+1) xs:=by
 obtain⟨k,e,l,r⟩:=h
 exact⟨k,e,by omega,r⟩
def jj.odd{m:Nat}{xs:List D}(h:jj m xs):∀x∈xs,uf x:=by
 obtain⟨k,rfl,l,r⟩:=h
 intro x hx
 obtain⟨i,hi,rfl⟩:=Ā.mp hx
 have:=r i hi
 exact .inl ⟨i,rfl,by omega,by omega⟩
def Kl{n:Nat}{j:Int}(h0:0<=j)(h1:j<((n:Nat):Int)):ixN n j=some j.toNat/\seqIndex? j n=some j.toNat/\j.toNat<n:=by
 have e:ixN n j=some j.toNat:=by
  unfold ixN
  rw[if_pos h0,if_pos (by omega)]
 exact⟨e,(wC e).1,by omega⟩
def uf.lay{d:D}(h:uf d):d.canLay0=true/\d.depth<=50:=by
 rcases h with ⟨i,rfl,_⟩|⟨b,rfl⟩|rfl|rfl|rfl
 ·exact⟨rfl,ü _⟩
 ·exact⟨rfl,ü _⟩
 ·exact⟨rfl,ü _⟩
 ·exact⟨by decide +kernel,by decide⟩
 ·exact⟨by decide +kernel,by decide⟩
section
variable {P:Program}{w:World}{K:Ý}{mg:Str->Option Value}{base:Heap}{f:Addr}{fd:FuncData}
def fu:FnScope ["_law_pen","_law_n","_law_some","_law_found","_law_sort","_law_number"] ["_law_pen","_law_n","_law_some"] (ak (top 49)):=zC
def nF(F:Fun K "_law_bent_list" "_law_bent_list" (top 49) f fd)(B:ī mg)(ah:mg "str"=none)(aa:í P w K mg base 1 "_law_take" ["_law_pen","_law_many"] (spP (CP K) gO)):FnOk P w K mg base CX0 2 f fd ["_law_pen","_law_n","_law_some"] (spP (CP K) fBL):=by
 refine F.ok fu gj (λcdv A outer s H vs Q E hr h=>?_)
 have nd:=fu.nd
 refine⟨_,ó (È (å (some 0) (i:=3) nd rfl zQ (Wr.p7 B.list (À (Ã 2) Á)))
  (È (å none (i:=4) nd rfl zQ (ĝ aa hr (č 0) (À Å Á)))
  (È (å none (i:=5) nd rfl zQ (Wr.dI (ĝ aa hr (č 0) (À (Ġ (Ã 1) Å) Á)) Å))
  (Wr.cA (ā (ű (Ŭ (Ĩ hr.units (Ã 4) Å) (ŵ (Ľ hr.units (Ã 3) (â Á))))) (Ù (Wr.qm (č 3) (ĝ aa hr (č 0) (À (Ĝ B.len (À (Ã 3) Á)) Á)) (Ã 5))) æ)
  (Wr.cA (ā (Ĩ hr.units (Ã 4) Å) (Ù (å (some 0) (i:=3) nd rfl zQ (Wr.fD B.sorted (À (Ġ (Ã 3) (â (À (Ã 5) Á))) Á)))) æ)
  (Wr.cA (ā (ű (Ŭ (Ĩ hr.units (Ã 4) Å) (ŵ (Ľ hr.units (Ã 3) (â Á))))) (Ù (Wr.wK (č 3) (À (ĝ aa hr (č 0) (À (Ĝ B.len (À (Ã 3) Á)) Á)) Á))) æ)
  (Wr.cA (ā (Ĩ hr.units (Ã 4) Å) (Ù (Wr.CJ (č 3))) æ)
  (Wr.cA (ā (Ĩ hr.units (Ã 4) Å) (Ù (ß (Ì (â (À (Wr.jy B.tuple (À (Ã 3) Á)) (À ŧ (À (â (À (Ã 3) Á)) (À (Wr.vJ hr.gd hr.units ah (À (Ã 3) Á)) Á))))) (ĝ aa hr (č 0) (À Å Á))))) æ)
  (Wr.cA (ā (ű (Ŭ (Ĩ hr.units (Ã 4) Å) (ŵ (Ľ hr.units (Ã 3) (â Á))))) (Ù (Wr.qm (č 3) (ĝ aa hr (č 0) (À (Ĝ B.len (À (Ã 3) Á)) Á)) (Ì (Wr.vR ["_law_pen","_law_n","_law_some","_law_found","_law_sort","_law_number"] (ak (top 49)) (.lst (.cons (.bl true) (.cons (.bl false) (.cons .non (.cons (.lst (.cons (.int 0) .nil)) (.cons (.str "0") .nil)))))) (by decide +kernel)) (ĝ aa hr (č 0) (À Å Á))))) æ)
  (È (ā (Ĩ hr.units (Ã 4) Å) (Ù (å (some 0) (i:=3) nd rfl zQ (Ġ (Ã 3) (Wr.jP (Ã 3) Wr.cR (Wr.bY Å))))) æ)
  (Ù (ß (Ã 3))))))))))))),enterQ h ?_⟩
 rintro ds P ⟨n,l,rfl,n0,n1,ll,hl,q⟩
 refine⟨[.im (.int n),.sh (iD l),.any,.any,.any],rfl,?_⟩
 refine .inl ⟨bA l,?_⟩
 refine⟨rfl,8,rfl,by decide,by decide,λs s0 s1=>?_⟩
 refine⟨rfl,n+2,rfl,by omega,by omega,λr r0 r1=>?_⟩
 show O6 _ _ _ (RBl K n l (l.map Â) s (r - 1))
 have g0:jj 60 (l.map Â):=⟨l,rfl,ll,λx hx=>by have:=hl x hx;omega⟩
 have z0:-1<=r - 1/\r - 1<=200:=by omega
 generalize r - 1=z at z0
 generalize l.map Â=xs at g0
 have okL:∀{m:Nat}{xs:List D},jj m xs->okD (.list xs)=true:=λg=>yM λx hx=>(g.odd x hx).lay
 refine⟨λρ=>∃xs,ρ=RBl K n l xs s z/\jj 60 xs,?_,?_⟩
 ·show if decide (s=0)=true then _ else _
  refine bB (λc=>⟨zK,okL g0,rfl,?_⟩) (λc=>aC (A:=True) ⟨_,rfl,g0⟩)
  show if (!(á (.list xs) (.list [])))=true then _ else _
  rw[jE]
  refine bB (λc=>?_) (λc=>⟨_,rfl,g0⟩)
  have ne:xs≠[]:=λz=>by rw[z] at c;cases c
  have lp:=Ĵ.mpr ne
  have lx:xs.length<=60:=by obtain⟨k,rfl,h,_⟩:=g0;rw[Ä];exact h
  refine⟨0,xs,rfl,rfl,rfl,_,rfl,by omega,by omega,λj j0 j1=>?_⟩
  obtain⟨h1,h2,h3⟩:=Kl j0 j1
  refine⟨_,h1,xs.set j.toNat (.int z),rfl,?_⟩
  obtain⟨k,rfl,hk,hr⟩:=g0
  refine⟨k.set j.toNat z,by rw[List.map_set],by rw[Ż];exact hk,λx hx=>?_⟩
  rcases List.mem_or_eq_of_mem_set hx with h|rfl
  ·exact hr x h
  ·exact z0
 clear g0
 rintro ρ ⟨xs,rfl,g⟩
 refine⟨λρ=>∃xs,ρ=RBl K n l xs s z/\jj 61 xs,?_,?_⟩
 ·show if decide (s=1)=true then _ else _
  refine bB (λc=>?_) (λc=>⟨_,rfl,g.up⟩)
  obtain⟨k,rfl,hk,hr⟩:=g
  have e:k.map Â++[.int z]=(k++[z]).map Â:=by rw[ñ];rfl
  have lk:(k.map Â).length=k.length:=Ä ..
  have lz:(k++[z]).length=k.length+1:=by rw[Í,è]
  refine⟨zK,(show(k.map Â).length+1<=1000 by omega),.inl ⟨by show cu (k.map Â++[.int z])=true;rw[e];exact bA _,k++[z],e,by omega,λout hp hs=>⟨out.map Â,rfl,out,rfl,by rw[hp.length_eq];omega,λx hx=>?_⟩⟩⟩
  rcases à.mp (hp.mem_iff.mp hx) with h|h
  ·exact hr x h
  ·rw[Ë.mp h];exact z0
 clear g
 rintro ρ ⟨xs,rfl,g⟩
 refine⟨λρ=>∃xs,ρ=RBl K n l xs s z/\jj 61 xs,?_,?_⟩
 ·show if decide (s=2)=true then _ else _
  refine bB (λc=>⟨zK,okL g,rfl,?_⟩) (λc=>aC (A:=True) ⟨_,rfl,g⟩)
  show if (!(á (.list xs) (.list [])))=true then _ else _
  rw[jE]
  refine bB (λc=>?_) (λc=>⟨_,rfl,g⟩)
  have ne:xs≠[]:=λz=>by rw[z] at c;cases c
  have lp:=Ĵ.mpr ne
  have lx:xs.length<=61:=by obtain⟨k,rfl,h,_⟩:=g;rw[Ä];exact h
  refine⟨rfl,_,rfl,by omega,by omega,λj j0 j1=>?_⟩
  have j1:j<((xs.length:Nat):Int):=j1
  obtain⟨h1,h2,h3⟩:=Kl j0 j1
  refine⟨by omega,by omega,_,h2,h3,xs.eraseIdx j.toNat,rfl,?_⟩
  obtain⟨k,rfl,hk,hr⟩:=g
  have e:∀(l:List Int) (i:Nat),(l.map Â).eraseIdx i=(l.eraseIdx i).map Â:=λl=>by
   induction l with
   |nil=>exact λ_=>rfl
   |cons x l ih=>intro i;cases i with|zero=>rfl|succ i=>exact congrArg (Â x::·) (ih i)
  exact⟨k.eraseIdx j.toNat,e k _,õ (List.length_eraseIdx_le _ _) hk,λx hx=>hr x (List.mem_of_mem_eraseIdx hx)⟩
 clear g
 rintro ρ ⟨xs,rfl,g⟩
 refine⟨λρ=>∃xs,ρ=RBl K n l xs s z/\jj 61 xs,?_,?_⟩
 ·show if decide (s=3)=true then _ else _
  refine bB (λc=>⟨xs.reverse,rfl,?_⟩) (λc=>⟨_,rfl,g⟩)
  obtain⟨k,rfl,hk,hr⟩:=g
  exact⟨k.reverse,by rw[List.map_reverse],by rw[ĳ];exact hk,λx hx=>hr x (List.mem_reverse.mp hx)⟩
 clear g
 rintro ρ ⟨xs,rfl,g⟩
 refine⟨λρ=>∃xs,ρ=RBl K n l xs s z/\jj 61 xs,?_,?_⟩
 ·show if decide (s=4)=true then _ else _
  refine bB (λc=>?_) (λc=>⟨_,rfl,g⟩)
  obtain⟨k,rfl,hk,hr⟩:=g
  have lk:(k.map Â).length=k.length:=Ä ..
  have et:norm (.reg 0) (.tuple (k.map Â))=.imm:=aU (bA k)
  have ok:okR (.list (k.map Â)):=JW (by omega) λx hx=>by have:=hr x hx;omega
  have B:∀d,(d=.tuple (k.map Â)\/d=.none\/d=.list [.list (k.map Â)]\/∃s,d=.str s/\pO s)->P d:=λd h=>q d ⟨_,(show jj 61 (k.map Â) from⟨k,rfl,hk,hr⟩).odd,by omega,.inr ⟨⟨k,rfl⟩,h⟩⟩
  refine⟨zK,ok,zK,rfl,4,rfl,by decide,by decide,λj j0 j1=>?_⟩
  have kd:∀d,(norm ((joins [(norm (.reg 0) (.tuple (k.map Â)),.tuple (k.map Â)),(.imm,.none),((joins [(.reg 0,.list (k.map Â))]).join .new,.list [.list (k.map Â)]),(.imm,.str (Ć (k.map Â)).shown)]).join .new) d).le .n0=true:=λd=>by
   rw[et]
   exact norm_le rfl
  rcases(by omega:j=0\/j=1\/j=2\/j=3) with rfl|rfl|rfl|rfl
  ·exact⟨_,rfl,kd _,B _ (.inl rfl)⟩
  ·exact⟨_,rfl,kd _,B _ (.inr (.inl rfl))⟩
  ·exact⟨_,rfl,kd _,B _ (.inr (.inr (.inl rfl)))⟩
  ·exact⟨_,rfl,kd _,B _ (.inr (.inr (.inr ⟨_,rfl,Gn (by omega) hr⟩)))⟩
 clear g
 rintro ρ ⟨xs,rfl,g⟩
 refine⟨λρ=>∃xs,ρ=RBl K n l xs s z/\(∀x∈xs,uf x)/\xs.length<=61/\(s=6->jj 61 xs),?_,?_⟩
 ·have lx:xs.length<=61:=by obtain⟨k,rfl,h,_⟩:=g;rw[Ä];exact h
  show if decide (s=5)=true then _ else _
  refine bB (λc5=>⟨zK,okL g,rfl,?_⟩) (λc=>aC (A:=True) ⟨_,rfl,g.odd,lx,λ_=>g⟩)
  show if (!(á (.list xs) (.list [])))=true then _ else _
  rw[jE]
  refine bB (λc=>?_) (λc=>⟨_,rfl,g.odd,lx,λ_=>g⟩)
  have ne:xs≠[]:=λz=>by rw[z] at c;cases c
  have lp:=Ĵ.mpr ne
  refine⟨_,_,rfl,rfl,5,rfl,by decide,by decide,λj j0 j1=>?_⟩
  have five:∃e,atI [PyData.bool true,.bool false,.none,.list [.int 0],.str "0"] j=some e/\uf e:=by
   rcases(by omega:j=0\/j=1\/j=2\/j=3\/j=4) with rfl|rfl|rfl|rfl|rfl
   ·exact⟨_,rfl,.inr (.inl ⟨_,rfl⟩)⟩
   ·exact⟨_,rfl,.inr (.inl ⟨_,rfl⟩)⟩
   ·exact⟨_,rfl,.inr (.inr (.inl rfl))⟩
   ·exact⟨_,rfl,.inr (.inr (.inr (.inl rfl)))⟩
   ·exact⟨_,rfl,.inr (.inr (.inr (.inr rfl)))⟩
  obtain⟨e,he,oe⟩:=five
  have s5:s=5:=of_decide_eq_true c5
  refine⟨e,he,0,xs,rfl,norm_le (norm_le rfl),rfl,_,rfl,by omega,by omega,λj j0 j1=>?_⟩
  obtain⟨h1,h2,h3⟩:=Kl j0 j1
  refine⟨_,h1,xs.set j.toNat e,rfl,λx hx=>?_,by rw[Ż];exact lx,λh=>absurd (h.symm.trans s5) (by decide)⟩
  rcases List.mem_or_eq_of_mem_set hx with h|rfl
  ·exact g.odd x h
  ·exact oe
 clear g
 rintro ρ ⟨xs,rfl,g,lx,g6⟩
 show if decide (s=6)=true then _ else _
 refine bB (λc=>?_) (λc=>⟨rfl,q _ ⟨xs,g,by omega,.inl rfl⟩⟩)
 obtain⟨k,rfl,hk,hr⟩:=g6 (of_decide_eq_true c)
 have e1:cU (k.map Â) none (some 1)=(k.take 1).map Â:=by
  have:=Dg (k.map Â) 1
  rw[List.map_take]
  exact this
 have l1:(k.take 1).length<=1:=List.length_take_le 1 k
 have lk:(k.map Â).length=k.length:=Ä ..
 have l2:((k.take 1).map Â).length=(k.take 1).length:=Ä ..
 have e:k.map Â++(k.take 1).map Â=(k++k.take 1).map Â:=by rw[ñ]
 refine .inl ⟨by rw[e1];exact bA _,?_⟩
 rw[e1]
 refine⟨(show(k.map Â).length+((k.take 1).map Â).length<=1000 by omega),.inl ⟨by rw[e];exact bA _,?_⟩⟩
 rw[e]
 refine⟨rfl,q _ ⟨(k++k.take 1).map Â,λx hx=>?_,?_,.inl rfl⟩⟩
 ·obtain⟨i,hi,rfl⟩:=Ā.mp hx
  have:i∈k:=(à.mp hi).elim id λh=>Ő h
  have:=hr i this
  exact .inl ⟨i,rfl,by omega,by omega⟩
 ·rw[Ä,Í]
  omega
end
structure Fit(k m:Nat)(d:D):Prop where
 sh:Sh k m d
 lay:d.canLay0=true
def Fit.mono{k m k' m':Nat}{d:D}(h:Fit k m d)(h1:k<=k')(h2:m<=m'):Fit k' m' d:=⟨h.sh.mono h1 h2,h.lay⟩
def eV{ds:List D}(h:∀d∈ds,d.canLay0=true):Ĉ ds=true:=by
 induction ds with
 |nil=>rfl
 |cons d ds ih =>
  show(d.canLay0&&Ĉ ds)=true
  rw[h d Ñ,ih λe he=>h e (Ê _ he)]
  rfl
def Fit.list{k m c:Nat}{ds:List D}(h:∀d∈ds,Fit k m d)(hc:ds.length * (m+1)<=c):Fit (k+1) c (.list ds):=⟨Sh.list (λd hd=>(h d hd).sh) hc,eV λd hd=>(h d hd).lay⟩
def Fit.tuple{k m c:Nat}{ds:List D}(h:∀d∈ds,Fit k m d)(hc:ds.length * (m+1)<=c):Fit (k+1) c (.tuple ds):=⟨Sh.tuple (λd hd=>(h d hd).sh) hc,eV λd hd=>(h d hd).lay⟩
def Fit.int{i:Int}(h0:-1000<=i)(h1:i<=1000):Fit 0 0 (.int i):=⟨Sh.int h0 h1,rfl⟩
def Fit.str{s:Str}(h:pO s):Fit 0 3000 (.str s):=by
 refine⟨⟨rfl,?_,ü _,h.1⟩,?_⟩
 ·show(s.cps.toList.all λc=>decide (c<16 ^ 8))=true
  exact Ĕ.mpr λc hc=>decide_eq_true (Nat.lt_trans (h.2 c hc) (by decide))
 ·show s.cps.all (·<0x110000)=true
  rw[Array.all_eq_true_iff_forall_mem]
  exact λc hc=>decide_eq_true (Nat.lt_trans (h.2 c (Array.mem_toList_iff.mpr hc)) (by decide))
def uf.fit{d:D}(h:uf d):Fit 1 10 d:=by
 rcases h with ⟨i,rfl,h0,h1⟩|⟨b,rfl⟩|rfl|rfl|rfl
 ·exact(Fit.int h0 h1).mono (by decide) (by decide)
 ·exact⟨by cases b <;> decide +kernel,rfl⟩
 ·exact⟨by decide +kernel,rfl⟩
 ·exact⟨by decide +kernel,by decide +kernel⟩
 ·exact⟨by decide +kernel,by decide +kernel⟩
def jj.fit{l:List Int}(h:∀x∈l,-1000<=x/\x<=1000)(ll:l.length<=100):Fit 2 1100 (iD l):=Fit.list (k:=1) (m:=10) (λd hd=>by
 obtain⟨i,hi,rfl⟩:=Ā.mp hd
 exact(Fit.int (h i hi).1 (h i hi).2).mono (by decide) (by decide)) (by rw[Ä];omega)
def d9.oth{d:D}(h:∀es,d≠.list es):d9 d:=λys e=>(h ys e).elim
def gQ.oth{d:D}(h:∀es,d≠.tuple es):gQ d:=λys e=>(h ys e).elim
structure RowB(d:D):Prop where
 row:d9 d
 way:gQ d
 fit:Fit 3 3000 d
def uf.row{d:D}(h:uf d):d9 d:=λxs e=>by
 rcases h with ⟨i,rfl,_⟩|⟨b,rfl⟩|rfl|rfl|rfl
 ·cases e
 ·cases e
 ·cases e
 ·cases e
  exact⟨by decide,λx hx=>by rw[Ë.mp hx];exact⟨rfl,ü _⟩⟩
 ·cases e
def Mf.row{d:D}(h:Mf d):RowB d:=by
 obtain⟨xs,ox,lx,h⟩:=h
 have fl:Fit 2 900 (.list xs):=Fit.list (λd hd=>(ox d hd).fit) (by omega)
 have ft:Fit 2 900 (.tuple xs):=Fit.tuple (λd hd=>(ox d hd).fit) (by omega)
 rcases h with rfl|⟨_,rfl|rfl|rfl|⟨s,rfl,g⟩⟩
 ·exact⟨λys e=>by cases e;exact⟨by omega,λx hx=>(ox x hx).lay⟩,gQ.oth λ_ e=>(nomatch e),fl.mono (by decide) (by decide)⟩
 ·exact⟨d9.oth λ_ e=>(nomatch e),λys e x hx=>(by cases e;exact(ox x hx).row),ft.mono (by decide) (by decide)⟩
 ·exact⟨d9.oth λ_ e=>(nomatch e),gQ.oth λ_ e=>(nomatch e),⟨by decide +kernel,rfl⟩⟩
 ·refine⟨λys e=>?_,gQ.oth λ_ e=>(nomatch e),(Fit.list (k:=2) (m:=900) (c:=3000) (λd hd=>by rw[Ë.mp hd];exact fl) (é rfl))⟩
  cases e
  refine⟨é rfl,λx hx=>?_⟩
  rw[Ë.mp hx]
  exact⟨fl.lay,õ fl.sh.2.2.1 (by decide)⟩
 ·exact⟨d9.oth λ_ e=>(nomatch e),gQ.oth λ_ e=>(nomatch e),(Fit.str g).mono (by decide) (Ô _)⟩
def RowB.ints{l:List Int}(h:∀x∈l,-1000<=x/\x<=1000)(ll:l.length<=100):RowB (iD l) :=
 ⟨λys e=>by
  cases e
  refine⟨by rw[Ä];omega,λx hx=>?_⟩
  obtain⟨i,_,rfl⟩:=Ā.mp hx
  exact⟨rfl,ü _⟩,gQ.oth λ_ e=>(nomatch e),(jj.fit h ll).mono (by decide) (by decide)⟩
structure WayB(d:D):Prop where
 way:gQ d
 row:d9 d
 fit:Fit 5 10000 d
def WayB.tup{es:List D}(h:∀e∈es,RowB e)(l:es.length<=3):WayB (.tuple es) :=
 ⟨λys e x hx=>by cases e;exact(h x hx).row,d9.oth λ_ e=>(nomatch e),(Fit.tuple (c:=10000) (λd hd=>(h d hd).fit) (by omega)).mono (by decide) (Ô _)⟩
def WayB.lst{es:List D}(h:∀e∈es,RowB e)(l:es.length<=3):WayB (.list es) :=
 ⟨λys e=>(nomatch e),λys e=>by
  cases e
  exact⟨by omega,λx hx=>⟨(h x hx).fit.lay,õ (h x hx).fit.sh.2.2.1 (by decide)⟩⟩,(Fit.list (c:=10000) (λd hd=>(h d hd).fit) (by omega)).mono (by decide) (Ô _)⟩
def WayB.non:WayB .none:=⟨λys e=>(nomatch e),d9.oth λ_ e=>(nomatch e),⟨by decide +kernel,rfl⟩⟩
def all1{p:D->Prop}{a:D}(h1:p a):∀x∈[a],p x:=λx hx=>by rw[Ë.mp hx];exact h1
def all2{p:D->Prop}{a b:D}(h1:p a)(h2:p b):∀x∈[a,b],p x:=λx hx=>(Ü.mp hx).elim (λe=>e ▸ h1) (all1 h2 x)
def HW{p:D->Prop}{a b c:D}(h1:p a)(h2:p b)(h3:p c):∀x∈[a,b,c],p x:=λx hx=>(Ü.mp hx).elim (λe=>e ▸ h1) (all2 h2 h3 x)
def fBW(ds:List D)(P:D->Prop):Prop:=∃(n:Int) (us:List Tie) (ps ks:List Int),ds=[au n us,.tuple [iD ps,iD ks]]/\1<=n/\n<=16/\us.length<=40/\ps.length<=60/\ks.length<=60/\(∀x∈ps,0<=x/\x<n)/\(∀k∈ks,0<=k/\k<(us.length:Nat))/\∀d,WayB d->P d
section
variable {P:Program}{w:World}{K:Ý}{mg:Str->Option Value}{base:Heap}{f:Addr}{fd:FuncData}
def gH:FnScope ["_law_pen","_law_web_here","_law_one","_law_places","_law_row","_law_sort","_law_alike"] ["_law_pen","_law_web_here","_law_one"] (ak (top 50)):=zC
def lV:(["_law_number","_law_pen","_law_web_here","_law_one","_law_places","_law_row","_law_sort","_law_alike"]:List Str).Nodup:=by decide +kernel
def lU:(["_law_k","_law_number","_law_pen","_law_web_here","_law_one","_law_places","_law_row","_law_sort","_law_alike"]:List Str).Nodup:=by decide +kernel
def lR:(["_law_some","_law_pen","_law_web_here","_law_one","_law_places","_law_row","_law_sort","_law_alike"]:List Str).Nodup:=by decide +kernel
def pH(F:Fun K "_law_bent_way" "_law_bent_way" (top 50) f fd)(B:ī mg)(aa:í P w K mg base 1 "_law_take" ["_law_pen","_law_many"] (spP (CP K) gO))(aE:í P w K mg base 2 "_law_bent_list" ["_law_pen","_law_n","_law_some"] (spP (CP K) fBL)):FnOk P w K mg base CX0 3 f fd ["_law_pen","_law_web_here","_law_one"] (pC (CP K) fBW):=by
 refine F.ok gH yU (λcdv A outer s H vs Q E hr h=>?_)
 have nd:=gH.nd
 refine⟨_,Dl.WR.h (Dl.jo (Wr.sX (Ã 2) (Wr.cZ (n:=2) rfl (đ (ã (i:=3) nd rfl zQ) (đ (ã (i:=4) nd rfl zQ) ŭ))))
  (Dl.jo (å none (i:=5) nd rfl zQ (ĝ (Ŕ aa) hr (č 0) (À Å Á)))
  (Dl.jO (Wr.jV (Ã 5) Å) (Dl.dH ((ë (À (ĝ (Ŕ aE) hr (č 0) (À (Ì (Ã 1) Å) (À (Ã 3) Á))) (À (Ã 4) Á)))))
  (Dl.jO (Wr.jV (Ã 5) Å) (Dl.dH ((ë (À (Ã 3) (À (ĝ (Ŕ aE) hr (č 0) (À (Ĝ B.len (À (Ì (Ã 1) Å) Á)) (À (Ã 4) Á))) Á)))))
  (Dl.jO (Ĩ hr.units (Ã 5) Å) (Dl.dH ((Ì (â (Wr.pW 4 ["_law_pen","_law_web_here","_law_one","_law_places","_law_row","_law_sort","_law_alike"] (ak (top 50)) (.cons (.lst (.cons (.var 3) (.cons (.var 4) .nil))) (.cons (.tup (.cons (.var 3) (.cons (.var 4) (.cons (.lst .nil) .nil)))) (.cons (.tup (.cons (.var 3) .nil)) (.cons (.tup (.cons (.var 4) (.cons (.var 3) .nil))) .nil)))) (À (ë (À (Wr.pY (Ã 3)) (À (Wr.pY (Ã 4)) Á))) (À ŧ Á)) (by decide +kernel))) (ĝ (Ŕ aa) hr (č 0) (À Å Á)))))
  (Dl.jo (Wr.jd none ["_law_number"] (i:=6) rfl nd rfl zQ (Ĺ (Ã 4)) (λc=>(ã (i:=0) lV rfl zQ)) (λc=>ŷ) (λc=>(Ž ["_law_k"] rfl (Ņ B.range (À (Ĝ B.len (À (Ì (Ã 2) Å) Á)) Á)) (λc=>(ã (i:=0) lU rfl zQ)) (λc=>(Wr.dz (Ĩ hr.units (Ì (Ì (Ã 3) Å) (Ã 0)) (Ì (Ì (Ã 3) Å) (Ã 1))))) (λc=>(Ã 0)))))
  (Dl.dH ((ë (À (Ã 3) (À (Ž ["_law_some"] rfl (Ĺ (Ã 6)) (λc=>(ã (i:=0) lR rfl zQ)) (λc=>ŷ) (λc=>(Ì (Ã 0) (ĝ (Ŕ aa) hr (č 1) (À (Ĝ B.len (À (Ã 0) Á)) Á))))) Á))))))))))),FJ h ?_⟩
 rintro ds P ⟨n,us,ps,ks,rfl,n1,n16,lu,lp,lk,rp,rk,q⟩
 refine⟨[.im (au n us),.sh (.tuple [iD ps,iD ks]),.any,.any,.any,.any],by show [aF (au n us),aF (.tuple [iD ps,iD ks]),.any,.any,.any,.any]=_;rw[ķ];rfl,?_⟩
 refine⟨rfl,?_⟩
 refine⟨rfl,6,rfl,by decide,by decide,λs s0 s1=>?_⟩
 have bp:RowB (iD ps):=RowB.ints (λx hx=>by have:=rp x hx;omega) (by omega)
 have bk:RowB (iD ks):=RowB.ints (λx hx=>by have:=rk x hx;omega) (by omega)
 have lum:(us.map pD).length=us.length:=Ä ..
 show if decide (s<2)=true then Ra _ _ [.pen (CE (CP K)),.im (au n us),.sh (.tuple [iD ps,iD ks]),.sh (iD ps),.sh (iD ks),.im (.int s),.any] else _
 refine bB (λc=>?_) (λc=>?_)
 ·exact⟨rfl,.int n,rfl,n,ps,rfl,by omega,by omega,lp,λx hx=>by have:=rp x hx;omega,λd hd=>⟨zK,q _ (WayB.tup (all2 hd.row bk) (é rfl))⟩⟩
 show if decide (s<4)=true then _ else _
 refine bB (λc=>?_) (λc=>?_)
 ·exact⟨rfl,.tuple (us.map pD),rfl,_,ks,rfl,by omega,by omega,lk,λx hx=>by have:=rk x hx;omega,λd hd=>⟨zK,q _ (WayB.tup (all2 bp hd.row) (é rfl))⟩⟩
 show if decide (s=4)=true then _ else _
 refine bB (λc=>?_) (λc=>?_)
 ·have i1:cu (ps.map Â).reverse=true:=by rw[←List.map_reverse];exact bA _
  have i2:cu (ks.map Â).reverse=true:=by rw[←List.map_reverse];exact bA _
  have rv:∀l:List Int,Ć (l.map Â).reverse=iD l.reverse:=λl=>by unfold iD;rw[List.map_reverse]
  refine⟨_,rfl,.inl ⟨i1,.inl ⟨i2,zK,zK,rfl,6,rfl,by decide,by decide,λj j0 j1=>?_⟩⟩⟩
  have en:RowB (.list []):=RowB.ints (l:=[]) (λx hx=>(nomatch hx)) (by decide)
  have bp':RowB (.list (ps.map Â).reverse):=by
   rw[rv]
   exact RowB.ints (λx hx=>by have:=rp x (List.mem_reverse.mp hx);omega) (by rw[ĳ];omega)
  have bk':RowB (.list (ks.map Â).reverse):=by
   rw[rv]
   exact RowB.ints (λx hx=>by have:=rk x (List.mem_reverse.mp hx);omega) (by rw[ĳ];omega)
  rcases(by omega:j=0\/j=1\/j=2\/j=3\/j=4\/j=5) with rfl|rfl|rfl|rfl|rfl|rfl
  ·exact⟨_,rfl,q _ (WayB.lst (all2 bp bk) (é rfl))⟩
  ·exact⟨_,rfl,q _ (WayB.tup (HW bp bk en) (é rfl))⟩
  ·exact⟨_,rfl,q _ (WayB.tup (all1 bp) (é rfl))⟩
  ·exact⟨_,rfl,q _ (WayB.tup (all2 bk bp) (é rfl))⟩
  ·exact⟨_,rfl,q _ (WayB.tup (all2 bp' bk') (é rfl))⟩
  ·exact⟨_,rfl,q _ WayB.non⟩
 have lkm:(ks.map Â).length=ks.length:=Ä ..
 have atk:∀(k:Int) (t:Tie),0<=k->us[k.toNat]?=some t->atI (us.map pD) k=some (pD t):=λk t k0 ht=>by
  have:=bK (xs:=us.map pD) (j:=k.toNat) (v:=pD t) (by rw[Û,ht];rfl)
  rwa [show((k.toNat:Nat):Int)=k by omega] at this
 refine Ke (λd=>∃L:List Int,d=iD L/\L≠[]/\L.length<=40/\∀k∈L,0<=k/\k<(us.length:Nat)) .new (by omega) (λd hd A B hA=>?_) (λys ly hy=>?_)
 ·obtain⟨k,hk,rfl⟩:=Ā.mp hd
  obtain⟨k0,k1⟩:=rk k hk
  have ht:=É (show k.toNat<us.length by omega)
  generalize us[k.toNat]=t at ht
  refine aA (B:=B) ⟨.tuple (us.map pD),rfl,⟨by omega,by omega⟩,o7 (ê us.length) (λv=>Â (0+((v:Nat):Int))) (λv=>decide (us[v]?=some t)) (λv=>Â (0+((v:Nat):Int))) .imm (by rw[lum,ĩ];rfl) (by rw[ł];omega) (λv hv A B h1 h2=>?_) ?_⟩
  ·have hv:=Ħ.mp hv
   have hu:=É hv
   generalize us[v]=u at hu
   refine⟨.tuple (us.map pD),rfl,pD u,atk _ u (by omega) (by rw[show(0+((v:Nat):Int)).toNat=v by omega];exact hu),.tuple (us.map pD),rfl,pD t,atk k t k0 ht,rfl,rfl,?_⟩
   show if á (pD u) (pD t)=true then _ else _
   rw[qj]
   have e:decide (us[v]?=some t)=decide (u=t):=by rw[hu,ĕ];simp
   rw[e] at h1 h2
   cases hc:decide (u=t) with
   |true=>exact aA (B:=True) ⟨rfl,h1 hc⟩
   |false=>exact aC (A:=True) (h2 hc)
  ·refine⟨rfl,hA _ ⟨((ê us.length).filter λv=>decide (us[v]?=some t)).map λv=>0+((v:Nat):Int),by unfold iD;rw[ĺ];rfl,λh=>?_,?_,λk' hk'=>?_⟩⟩
   ·have h:=List.map_eq_nil_iff.mp h
    have m:k.toNat∈(ê us.length).filter λv=>decide (us[v]?=some t):=ð.mpr ⟨Ħ.mpr (by omega),decide_eq_true ht⟩
    rw[h] at m
    cases m
   ·have:=ħ (λv=>decide (us[v]?=some t)) (ê us.length)
    rw[ł] at this
    rw[Ä]
    omega
   ·obtain⟨v,hv,rfl⟩:=Ā.mp hk'
    have:=Ħ.mp (ð.mp hv).1
    omega
 have lys:ys.length=ks.length:=ly.trans lkm
 refine Ke (λd=>∃k:Int,d=.int k/\0<=k/\k<(us.length:Nat)) .imm (by omega) (λd hd A B hA=>?_) (λzs lz hz=>?_)
 ·obtain⟨L,rfl,ne,lL,rL⟩:=hy d hd
  have lm:(L.map Â).length=L.length:=Ä ..
  have l0:=Ĵ.mpr ne
  refine aA (B:=B) ⟨rfl,_,rfl,by omega,by omega,λr r0 r1=>?_⟩
  have r1:r<(((L.map Â).length:Nat):Int):=r1
  have hlt:r.toNat<L.length:=by omega
  have:=bK (xs:=L.map Â) (j:=r.toNat) (v:=.int L[r.toNat]) (by rw[Û,É hlt];rfl)
  rw[show((r.toNat:Nat):Int)=r by omega] at this
  exact⟨_,this,rfl,hA _ ⟨_,rfl,rL _ (į hlt)⟩⟩
 ·obtain⟨Z,rfl,rZ⟩:∃Z:List Int,zs=Z.map Â/\∀k∈Z,0<=k/\k<(us.length:Nat):=by
   clear lz
   induction zs with
   |nil=>exact⟨[],rfl,λk hk=>(nomatch hk)⟩
   |cons z zs ih =>
    obtain⟨Z,rfl,rZ⟩:=ih λy hy=>hz y (Ê _ hy)
    obtain⟨k,rfl,hk⟩:=hz z Ñ
    exact⟨k::Z,rfl,λk' h=>(Ü.mp h).elim (λe=>by rw[e];exact hk) (rZ k')⟩
  rw[Ä] at lz
  exact⟨zK,q _ (WayB.tup (all2 bp (RowB.ints (λx hx=>by have:=rZ x hx;omega) (by omega))) (é rfl))⟩
end
structure El(k m:Nat)(d:D):Prop where
 row:d9 d
 way:gQ d
 fit:Fit k m d
def El.mono{k m k' m':Nat}{d:D}(h:El k m d)(hk:k<=k')(hm:m<=m'):El k' m' d:=⟨h.row,h.way,h.fit.mono hk hm⟩
def El.int{i:Int}(h0:-1000<=i)(h1:i<=1000):El 0 0 (.int i):=⟨d9.oth λ_ e=>(nomatch e),gQ.oth λ_ e=>(nomatch e),Fit.int h0 h1⟩
def El.word{s:Str}(h:pO s):El 0 3000 (.str s):=⟨d9.oth λ_ e=>(nomatch e),gQ.oth λ_ e=>(nomatch e),Fit.str h⟩
def El.bool(b:Bool):El 0 0 (.bool b):=⟨d9.oth λ_ e=>(nomatch e),gQ.oth λ_ e=>(nomatch e),⟨by cases b <;> decide +kernel,rfl⟩⟩
def El.non:El 0 0 .none:=⟨d9.oth λ_ e=>(nomatch e),gQ.oth λ_ e=>(nomatch e),⟨by decide +kernel,rfl⟩⟩
def RowB.el{d:D}(h:RowB d):El 3 3000 d:=⟨h.row,h.way,h.fit⟩
def WayB.el{d:D}(h:WayB d):El 5 10000 d:=⟨h.row,h.way,h.fit⟩
def El.ints{l:List Int}(h:∀x∈l,-1000<=x/\x<=1000)(ll:l.length<=100):El 2 1100 (iD l) :=
 ⟨(RowB.ints h ll).row,(RowB.ints h ll).way,jj.fit h ll⟩
def El.tup{k m c:Nat}{es:List D}(h:∀e∈es,El k m e)(hc:es.length * (m+1)<=c):El (k+1) c (.tuple es) :=
 ⟨d9.oth λ_ e=>(nomatch e),λys e x hx=>(by cases e;exact(h x hx).row),Fit.tuple (λd hd=>(h d hd).fit) hc⟩
def El.two{p q:List Int}(h:∀x∈p,-1000<=x/\x<=1000)(h2:∀x∈q,-1000<=x/\x<=1000)(lp:p.length<=100)(lq:q.length<=100):El 3 3000 (.tuple [iD p,iD q]):=El.tup (k:=2) (m:=1100) (all2 (El.ints h lp) (El.ints h2 lq)) (é rfl)
structure ThB(d:D):Prop where
 th:ThO d
 ok:Nz d
def ThB.tup{k m:Nat}{es:List D}(h:∀e∈es,El k m e)(hc:es.length * (m+1)<=40000)(hk:k<=40:=by decide):ThB (.tuple es) :=
 ⟨λys e x hx=>by
  cases e
  exact⟨(h x hx).row,(h x hx).way,(h x hx).fit.lay,õ (h x hx).fit.sh.2.2.1 (by omega)⟩,(Sh.tuple (c:=40000) (λd hd=>(h d hd).fit.sh) hc).ok (by omega) (Ô _)⟩
def ThB.oth{k m:Nat}{d:D}(h:∀es,d≠.tuple es)(f:Sh k m d)(hk:k<=50:=by decide)(hm:m<=40000:=by decide):ThB d:=⟨λes e=>(h es e).elim,f.ok hk hm⟩
def Qn{a b:Kd}(ha:a.le .shr=true)(hb:b.le .shr=true):(a.join b).le .shr=true:=by
 cases a <;> cases b <;> first|rfl|(cases ha;done)|(cases hb;done)
def lc{k:Kd}{d:D}{ks:List (Kd×D)}(h:k.le .shr=true)(t:(joins ks).le .shr=true):(joins ((k,d)::ks)).le .shr=true:=Qn h t
theorem Ja{P:DEnds}{ρ:List Sl}{i:Nat}{k:Kd}{d:D}(hk:k.le .shr=true)(h:∀s,s=.im d\/s=.sn d\/s=.sh d->P.nx (ρ.set i s)):(match stK none ρ i (norm k d) d with
 |some s=>P.nx (ρ.set i s)
 |none=>False):=by
 have e:norm k d=.imm\/norm k d=k:=by
  by_cases c:cL d=true
  ·exact .inl (aU c)
  ·exact .inr (bN c)
 rcases e with e|e
 ·rw[e];exact h _ (.inl rfl)
 ·rw[e]
  cases k with
  |imm=>exact h _ (.inl rfl)
  |new=>exact h _ (.inr (.inl rfl))
  |snw=>exact h _ (.inr (.inl rfl))
  |shr=>exact h _ (.inr (.inr rfl))
  |reg r=>cases hk
  |n0=>cases hk
  |wk=>cases hk
def InR(l:List Int):Prop:=(∀x∈l,0<=x/\x<100)/\l.length<=60
def BG(n:Int)(us:List Tie)(d:D):Prop :=
 (∃p q r s:List Int,d=.tuple [.str "ways",.tuple [iD p,iD q],.tuple [iD r,iD s]]/\(∀x∈p,0<=x/\x<n)/\(∀x∈q,0<=x/\x<(us.length:Nat))/\(∀x∈r,0<=x/\x<n)/\(∀x∈s,0<=x/\x<(us.length:Nat))/\p.length<=60/\q.length<=60/\r.length<=60/\s.length<=60) ∨
 (∃(w:Str) (k:Int) (l:List Int),d=.tuple [.str w,.int k,iD l]/\(w="tie"\/w="place")/\0<=k/\k<100/\InR l) ∨
 (∃l:List Int,d=.tuple [.str "apart",iD l]/\InR l)
def Qz(ds:List D)(P:D->Prop):Prop:=∃(n:Int) (us:List Tie) (d:D),ds=[au n us,d]/\1<=n/\n<=16/\us.length<=40/\BG n us d/\∀d,ThB d->P d
def bV{s:Str}(h:(decide (s.cps.size<=3000)&&s.cps.toList.all λc=>decide (c<128))=true):pO s:=by
 rw[Õ,decide_eq_true_eq,Ĕ] at h
 exact⟨h.1,λc hc=>of_decide_eq_true (h.2 c hc)⟩
def w6{n:Int}{us:List Tie}{d:D}(n16:n<=16)(lu:us.length<=40)(h:BG n us d):∃(w:Str) (es:List D),d=.tuple (.str w::es)/\pO w/\(es.length=1\/es.length=2)/\(∀e∈es,El 3 3000 e)/\cu es=false:=by
 rcases h with ⟨p,q,r,s,rfl,hp,hq,hr,hs,lp,lq,lr,ls⟩|⟨w,k,l,rfl,hw,k0,k1,hl,ll⟩|⟨l,rfl,hl,ll⟩
 ·refine⟨_,_,rfl,bV (by decide +kernel),.inr rfl,all2 (El.two ?_ ?_ (by omega) (by omega)) (El.two ?_ ?_ (by omega) (by omega)),rfl⟩
  ·intro x hx;have:=hp x hx;omega
  ·intro x hx;have:=hq x hx;omega
  ·intro x hx;have:=hr x hx;omega
  ·intro x hx;have:=hs x hx;omega
 ·refine⟨w,_,rfl,?_,.inr rfl,all2 ((El.int (by omega) (by omega)).mono (by decide) (by decide)) ((El.ints (λx hx=>?_) (by omega)).mono (by decide) (by decide)),rfl⟩
  ·rcases hw with rfl|rfl
   ·exact bV (by decide +kernel)
   ·exact bV (by decide +kernel)
  ·have:=hl x hx;omega
 ·refine⟨_,_,rfl,bV (by decide +kernel),.inl rfl,all1 ((El.ints (λx hx=>?_) (by omega)).mono (by decide) (by decide)),rfl⟩
  have:=hl x hx;omega
section
variable {P:Program}{w:World}{K:Ý}{mg:Str->Option Value}{base:Heap}{f:Addr}{fd:FuncData}
def oU:FnScope ["_law_pen","_law_web_here","_law_thing","_law_sort","_law_number","_law_odd"] ["_law_pen","_law_web_here","_law_thing"] (ak (top 51)):=zC
def yI(F:Fun K "_law_bent" "_law_bent" (top 51) f fd)(B:ī mg)(ah:mg "str"=none)(aa:í P w K mg base 1 "_law_take" ["_law_pen","_law_many"] (spP (CP K) gO))(bo:í P w K mg base 3 "_law_bent_way" ["_law_pen","_law_web_here","_law_one"] (pC (CP K) fBW))(aE:í P w K mg base 2 "_law_bent_list" ["_law_pen","_law_n","_law_some"] (spP (CP K) fBL)):FnOk P w K mg base CX0 4 f fd ["_law_pen","_law_web_here","_law_thing"] (pC (CP K) Qz):=by
 refine F.ok oU yU (λcdv A outer s H vs Q E hr h=>?_)
 have nd:=oU.nd
 refine⟨_,Dl.WR.h (Dl.jo (å none (i:=3) nd rfl zQ (ĝ (Ŕ aa) hr (č 0) (À Å Á)))
  (Dl.jo (å none (i:=4) nd rfl zQ (Wr.dI (ĝ (Ŕ aa) hr (č 0) (À (Ġ (Ĝ B.len (À (Ì (Ã 1) Å) Á)) Å) Á)) Å))
  (Dl.jO (Ĩ hr.units (Ã 3) Å) (Dl.jo (å none (i:=5) nd rfl zQ (â (À ŧ (À Å (À Ĳ (À (Ì (Ã 2) Å) (Wr.pW 4 ["_law_pen","_law_web_here","_law_thing","_law_sort","_law_number","_law_odd"] (ak (top 51)) (.cons (.tup .nil) (.cons (.lst .nil) (.cons .dct (.cons (.tup (.cons (.var 2) .nil)) .nil)))) (À (Wr.p7 B.list (À (Ã 2) Á)) (À (Ġ (Ã 2) (ë (À Å Á))) (À (Wr.jP (Ã 2) Wr.cR (Wr.bY (Wr.cV Å))) (À (ë (À (Ì (Ã 2) Å) (À ŧ Á))) Á)))) (by decide +kernel))))))))
  (Dl.dH ((Ì (Ã 5) (ĝ (Ŕ aa) hr (č 0) (À Å Á))))))
  ((Dl.jO (Ĩ hr.units (Ã 3) Å) (Dl.dH ((Ġ (ë (À (Ì (Wr.vR ["_law_pen","_law_web_here","_law_thing","_law_sort","_law_number","_law_odd"] (ak (top 51)) (.lst (.cons (.str "ways") (.cons (.str "tie") (.cons (.str "apart") (.cons (.str "place") (.cons (.str "") (.cons .non (.cons (.tup (.cons (.str "tie") .nil)) (.cons (.str "Tie") .nil))))))))) (by decide +kernel)) (ĝ (Ŕ aa) hr (č 0) (À Å Á))) Á)) (Wr.jP (Ã 2) (Wr.bY Å) Wr.cR))))
  (Dl.jO (ű (Ŭ (Ĩ hr.units (Ì (Ã 2) Å) Ĥ) (ŵ (Ĩ hr.units (Ã 3) Å)))) (Dl.dH ((ë (À Ĥ (À (Ì (Ã 2) (Ġ Å (ĝ (Ŕ aa) hr (č 0) (À Å Á)))) (À (Ì (Ã 2) (Ġ Å (ĝ (Ŕ aa) hr (č 0) (À Å Á)))) Á))))))
  (Dl.jO (ű (Ŭ (Ĩ hr.units (Ì (Ã 2) Å) Ĥ) (ŵ (Wr.jV (Ã 3) Å)))) (Dl.dH ((ë (À Ĥ (À (Dl.Tg (Dl.Cal.Vu bo) hr (č 0) (À (Ã 1) (À (Ì (Ã 2) Å) Á))) (À (Ì (Ã 2) Å) Á))))))
  (Dl.jO (Ĩ hr.units (Ì (Ã 2) Å) Ĥ) (Dl.dH ((ë (À Ĥ (À (Ì (Ã 2) Å) (À (Dl.Tg (Dl.Cal.Vu bo) hr (č 0) (À (Ã 1) (À (Ì (Ã 2) Å) Á))) Á))))))
  (Dl.jO (ű (Ŭ (Wr.jV (Ã 3) Å) (ŵ (Ĩ hr.units (Ĝ B.len (À (Ã 2) Á)) Å)))) (Dl.dH ((ë (À (Ì (Ã 2) Å) (À (Ì (â (À (Ã 4) (À (Ã 4) (À Ĳ (À (Wr.vK ah (À (Ì (Ã 2) Å) Á)) (À ŧ Á)))))) (ĝ (Ŕ aa) hr (č 0) (À Å Á))) (À (Ì (Ã 2) Å) Á))))))
  (Dl.jO (Ĩ hr.units (Ã 3) Å) (Dl.dH ((Ġ (ë (À (Ì (â (À Ĥ (À Ĥ Á))) (ĝ (Ŕ aa) hr (č 0) (À Å Á))) (À (Ã 4) Á))) (Wr.jP (Ã 2) (Wr.bY (Wr.cV Å)) Wr.cR))))
  (Dl.dH ((Ġ (Wr.jP (Ã 2) Wr.cR (Wr.bY (Wr.cV Å))) (ë (À (ĝ (Ŕ aE) hr (č 0) (À (Ì (Ã 1) Å) (À (Ì (Ã 2) (Wr.cV Å)) Á))) Á))))))))))))))),FJ h ?_⟩
 rintro ds P ⟨n,us,d,rfl,n1,n16,lu,bg,q⟩
 have lum:(us.map pD).length=us.length:=Ä ..
 obtain⟨wd,es,ed,gw,les,he,im⟩:=w6 n16 lu bg
 have hd:aF d=.sh d:=by
  rw[ed]
  exact if_neg (by show ¬(true&&cu es)=true;rw[im];decide)
 refine⟨[.im (au n us),.sh d,.any,.any,.any],by show [aF (au n us),aF d,.any,.any,.any]=_;rw[ķ,hd],?_⟩
 refine⟨rfl,8,rfl,by decide,by decide,λs s0 s1=>?_⟩
 refine⟨rfl,.tuple (us.map pD),rfl,_,rfl,by omega,by omega,λr r0 r1=>?_⟩
 have z0:-1<=r - 1/\r - 1<=200:=by have r1:r<(((us.map pD).length:Nat):Int)+2:=r1;omega
 show if decide (s=0)=true then Um _ _ _ [.pen (CE (CP K)),.im (au n us),.sh d,.im (.int s),.im (.int (r - 1)),.any] else rIf _ _ _ _ [.pen (CE (CP K)),.im (au n us),.sh d,.im (.int s),.im (.int (r - 1)),.any]
 generalize r - 1=z at z0
 refine bB (λc=>?_) (λc=>?_)
 ·subst ed
  have a0:atI (Č wd::es) 0=some (.str wd):=at0
  have cb:cU (Č wd::es) none (some (-1))=(Č wd::es).dropLast:=dF _
  have l3:(Č wd::es).length<=3:=by rw[ï];omega
  have eT:∀e∈Č wd::es,El 3 3000 e:=λe h=>(Ü.mp h).elim (λh=>by rw[h];exact(El.word gw).mono (by decide) (by decide)) (he e)
  refine⟨.str wd,a0,_,rfl,.inr ?_⟩
  have lL:(Č wd::es).length=es.length+1:=rfl
  have sx:HT.sIx (Č wd::es).length (Č wd::es).length (some (-1))=(Č wd::es).length - 1:=by
   have e:HT.sIx (Č wd::es).length (Č wd::es).length (some (-1))=((-1:Int)+((Č wd::es).length:Int)).toNat:=rfl
   rw[e]
   omega
  refine⟨zK,(show(Č wd::es).length+1<=1000 by omega),λh=>?_,.str wd,a0,zK,zK,?_⟩
  ·rw[sx] at h
   omega
  refine Ja (Qn (lc rfl (lc rfl (lc rfl (lc (norm_le rfl) (lc rfl (lc rfl (lc rfl (lc (norm_le rfl) (lc rfl (lc (norm_le rfl) (lc (norm_le rfl) (lc rfl rfl)))))))))))) rfl) λs5 h5=>?_
  have T:∀j:Int,0<=j->j<12->∃e,atI [PyData.none,.int 7,.bool true,.str wd,.tuple [],.list [],.dict [],.tuple [.tuple (.str wd::es)],.list (.str wd::es),.tuple ((.str wd::es)++[.int 0]),.tuple (Č wd::es).dropLast,.tuple [.str wd,.none]] j=some e/\ThB e:=λj j0 j1=>by
   have lT:=l3
   rcases(by omega:j=0\/j=1\/j=2\/j=3\/j=4\/j=5\/j=6\/j=7\/j=8\/j=9\/j=10\/j=11) with rfl|rfl|rfl|rfl|rfl|rfl|rfl|rfl|rfl|rfl|rfl|rfl
   ·exact⟨_,rfl,.oth (λ_ e=>(nomatch e)) El.non.fit.sh⟩
   ·exact⟨_,rfl,.oth (λ_ e=>(nomatch e)) (El.int (i:=7) (by decide) (by decide)).fit.sh⟩
   ·exact⟨_,rfl,.oth (λ_ e=>(nomatch e)) (El.bool true).fit.sh⟩
   ·exact⟨_,rfl,.oth (λ_ e=>(nomatch e)) (El.word gw).fit.sh⟩
   ·exact⟨_,rfl,.tup (k:=0) (m:=0) (λe h=>(nomatch h)) (by decide)⟩
   ·exact⟨_,rfl,.oth (λ_ e=>(nomatch e)) (show Sh 1 0 (.list []) by decide +kernel)⟩
   ·exact⟨_,rfl,.oth (λ_ e=>(nomatch e)) (show Sh 1 0 (.dict []) by decide +kernel)⟩
   ·exact⟨_,rfl,.tup (k:=4) (m:=10000) (all1 (El.tup eT (by omega))) (é rfl)⟩
   ·exact⟨_,rfl,.oth (λ_ e=>(nomatch e)) (Fit.list (k:=3) (m:=3000) (c:=10000) (λd hd=>(eT d hd).fit) (by omega)).sh⟩
   ·refine⟨_,rfl,.tup (k:=3) (m:=3000) (λe h=>?_) (by rw[Í,è];omega)⟩
    rcases à.mp h with h|h
    ·exact eT e h
    ·rw[Ë.mp h]
     exact(El.int (by decide) (by decide)).mono (by decide) (by decide)
   ·refine⟨_,rfl,.tup (k:=3) (m:=3000) (λe h=>eT e (List.dropLast_subset _ h)) ?_⟩
    rw[List.length_dropLast]
    omega
   ·exact⟨_,rfl,.tup (k:=0) (m:=3000) (all2 (El.word gw) (El.non.mono (by decide) (by decide))) (é rfl)⟩
  rw[←cb] at T
  rcases h5 with rfl|rfl|rfl
  ·refine⟨rfl,12,rfl,by decide,by decide,λj j0 j1=>?_⟩
   obtain⟨e,h1,h2⟩:=T j j0 j1
   exact⟨e,h1,q e h2⟩
  ·refine⟨rfl,12,rfl,by decide,by decide,λj j0 j1=>?_⟩
   obtain⟨e,h1,h2⟩:=T j j0 j1
   exact⟨e,h1,q e h2⟩
  ·refine⟨rfl,12,rfl,by decide,by decide,λj j0 j1=>?_⟩
   obtain⟨e,h1,h2⟩:=T j j0 j1
   exact⟨e,h1,q e h2⟩
 show if decide (s=1)=true then Ra _ _ [.pen (CE (CP K)),.im (au n us),.sh d,.im (.int s),.im (.int z),.any] else _
 refine bB (λc=>?_) (λc=>?_)
 ·subst ed
  refine⟨_,_,rfl,rfl,8,rfl,by decide,by decide,λj j0 j1=>?_⟩
  obtain⟨e,hj,ee⟩:∃e,atI [Č "ways",.str "tie",.str "apart",.str "place",.str "",.none,.tuple [.str "tie"],.str "Tie"] j=some e/\El 3 4000 e:=by
   have wo:∀s:Str,(decide (s.cps.size<=3000)&&s.cps.toList.all λc=>decide (c<128))=true->El 3 4000 (.str s):=λs h=>(El.word (bV h)).mono (by decide) (by decide)
   rcases(by omega:j=0\/j=1\/j=2\/j=3\/j=4\/j=5\/j=6\/j=7) with rfl|rfl|rfl|rfl|rfl|rfl|rfl|rfl
   ·exact⟨_,rfl,wo _ (by decide +kernel)⟩
   ·exact⟨_,rfl,wo _ (by decide +kernel)⟩
   ·exact⟨_,rfl,wo _ (by decide +kernel)⟩
   ·exact⟨_,rfl,wo _ (by decide +kernel)⟩
   ·exact⟨_,rfl,wo _ (by decide +kernel)⟩
   ·exact⟨_,rfl,El.non.mono (by decide) (by decide)⟩
   ·exact⟨_,rfl,(El.tup (k:=0) (m:=3000) (c:=4000) (all1 (El.word (bV (by decide +kernel)))) (é rfl)).mono (by decide) (Ô _)⟩
   ·exact⟨_,rfl,wo _ (by decide +kernel)⟩
  have cr:cU (Č wd::es) (some 1) none=es:=mQ _
  have lL:(Č wd::es).length=es.length+1:=rfl
  have sx:HT.sIx (Č wd::es).length 0 (some 1)=min 1 (Č wd::es).length:=HT.kY _ 0 1
  refine⟨e,hj,zK,λh=>?_,?_⟩
  ·rw[sx] at h
   omega
  rw[cr]
  refine⟨(show 1+es.length<=1000 by omega),q _ (ThB.tup (k:=3) (m:=4000) (es:=e::es) (λx hx=>?_) (by rw[ï];omega))⟩
  rcases Ü.mp hx with rfl|hx
  ·exact ee
  ·exact(he x hx).mono (by decide) (by decide)
 have w3:∀{x y:D},El 5 10000 x->El 5 10000 y->P (.tuple [.str "ways",x,y]):=λhx hy=>q _ (ThB.tup (k:=5) (m:=10000) (HW ((El.word (bV (by decide +kernel))).mono (by decide) (by decide)) hx hy) (é rfl))
 rcases bg with ⟨p1,q1,p2,q2,rfl,hp1,hq1,hp2,hq2,lp1,lq1,lp2,lq2⟩|⟨w,k,l,rfl,hw,k0,k1,hl⟩|⟨l,rfl,hl⟩
 ·have e1:El 5 10000 (.tuple [iD p1,iD q1]):=(El.two (λx hx=>by have:=hp1 x hx;omega) (λx hx=>by have:=hq1 x hx;omega) (by omega) (by omega)).mono (by decide) (by decide)
  have e2:El 5 10000 (.tuple [iD p2,iD q2]):=(El.two (λx hx=>by have:=hp2 x hx;omega) (λx hx=>by have:=hq2 x hx;omega) (by omega) (by omega)).mono (by decide) (by decide)
  have pick:∀j:Int,0<=j->j<2->∃e,atI [Č "ways",.tuple [iD p1,iD q1],.tuple [iD p2,iD q2]] (1+j)=some e/\El 5 10000 e:=λj j0 j1=>by
   rcases(by omega:j=0\/j=1) with rfl|rfl
   ·exact⟨_,rfl,e1⟩
   ·exact⟨_,rfl,e2⟩
  refine⟨.str "ways",rfl,?_⟩
  show if decide (s=2)=true then _ else _
  refine bB (λc=>?_) (λc=>?_)
  ·refine⟨rfl,2,rfl,by decide,by decide,λj j0 j1=>?_⟩
   obtain⟨d1,h1,g1⟩:=pick j j0 j1
   refine⟨d1,h1,rfl,2,rfl,by decide,by decide,λj j0 j1=>?_⟩
   obtain⟨d2,h2,g2⟩:=pick j j0 j1
   exact⟨d2,h2,zK,w3 g1 g2⟩
  refine⟨.str "ways",rfl,?_⟩
  show if decide (s<5)=true then _ else _
  refine bB (λc=>?_) (λc=>?_)
  ·exact⟨rfl,.tuple [iD p1,iD q1],rfl,rfl,n,us,p1,q1,rfl,n1,n16,lu,lp1,lq1,hp1,hq1,λd hd=>⟨.tuple [iD p2,iD q2],rfl,zK,w3 hd.el e2⟩⟩
  refine⟨.str "ways",rfl,?_⟩
  exact⟨.tuple [iD p1,iD q1],rfl,rfl,.tuple [iD p2,iD q2],rfl,rfl,n,us,p2,q2,rfl,n1,n16,lu,lp2,lq2,hp2,hq2,λd hd=>⟨zK,w3 e1 hd.el⟩⟩
 ·have hwn:decide (w="ways")=false:=by rcases hw with rfl|rfl <;> decide +kernel
  have gw:pO w:=by rcases hw with rfl|rfl <;> exact bV (by decide +kernel)
  refine⟨.str w,rfl,wD (c:=decide (w="ways")) hwn ?_⟩
  refine⟨.str w,rfl,wD (c:=decide (w="ways")) hwn ?_⟩
  refine⟨.str w,rfl,wD (c:=decide (w="ways")) hwn ?_⟩
  have ew:El 3 3000 (.str w):=(El.word gw).mono (by decide) (by decide)
  have ek:El 3 3000 (.int k):=(El.int (by omega) (by omega)).mono (by decide) (by decide)
  have el:El 3 3000 (iD l):=(El.ints (λx hx=>by have:=hl.1 x hx;omega) (by have:=hl.2;omega)).mono (by decide) (by decide)
  have ez:El 3 3000 (.int z):=(El.int (by omega) (by omega)).mono (by decide) (by decide)
  show if decide (s<4)=true then _ else _
  refine bB (λc=>?_) (λc=>?_)
  ·have hlog:k.natAbs.log2<1920:=by have:=Nat.log2_le_self k.natAbs;omega
   have es:El 3 3000 (.str (toString k)):=by
    have h:=uQ (k+1).toNat (by omega)
    rw[show(((k+1).toNat:Nat):Int) - 1=k by omega,PyData.shown_int] at h
    exact(El.word ⟨õ h.2 (by decide),h.1⟩).mono (by decide) (by decide)
   refine⟨.str w,rfl,.int k,rfl,hlog,zK,rfl,5,rfl,by decide,by decide,λj j0 j1=>?_⟩
   obtain⟨e,hj,ee⟩:∃e,atI [Â z,.int z,.bool true,.str (toString k),.none] j=some e/\El 3 3000 e:=by
    rcases(by omega:j=0\/j=1\/j=2\/j=3\/j=4) with rfl|rfl|rfl|rfl|rfl
    ·exact⟨_,rfl,ez⟩
    ·exact⟨_,rfl,ez⟩
    ·exact⟨_,rfl,(El.bool true).mono (by decide) (by decide)⟩
    ·exact⟨_,rfl,es⟩
    ·exact⟨_,rfl,El.non.mono (by decide) (by decide)⟩
   exact⟨e,hj,iD l,rfl,zK,q _ (ThB.tup (k:=3) (m:=3000) (HW ew ee el) (é rfl))⟩
  show if decide (s=4)=true then _ else _
  refine bB (λc=>?_) (λc=>?_)
  ·refine⟨zK,rfl,2,rfl,by decide,by decide,λj j0 j1=>?_⟩
   obtain⟨e,hj,ee⟩:∃e,atI [Č "tie",.str "place"] j=some e/\El 3 3000 e:=by
    rcases(by omega:j=0\/j=1) with rfl|rfl
    ·exact⟨_,rfl,(El.word (bV (by decide +kernel))).mono (by decide) (by decide)⟩
    ·exact⟨_,rfl,(El.word (bV (by decide +kernel))).mono (by decide) (by decide)⟩
   have ec:cU [Č w,.int k,iD l] (some (-1)) none=[iD l]:=rfl
   refine⟨e,hj,zK,λh=>absurd h.1 (show ¬HT.sIx 3 0 (some (-1))=0 by decide),?_⟩
   rw[ec]
   exact⟨zK,q _ (ThB.tup (k:=3) (m:=3000) (HW ee ez el) (é rfl))⟩
  ·have ec:cU [Č w,.int k,iD l] none (some (-1))=[Č w,.int k]:=rfl
   refine⟨λh=>absurd h.2 (show ¬HT.sIx 3 3 (some (-1))=3 by decide),?_⟩
   rw[ec]
   refine⟨rfl,.int n,rfl,iD l,rfl,n,l,rfl,by omega,by omega,hl.2,hl.1,λd hd=>?_⟩
   exact⟨zK,zK,q (.tuple [.str w,.int k,d]) (ThB.tup (k:=3) (m:=3000) (HW ew ek hd.row.el) (é rfl))⟩
 ·refine⟨.str "apart",rfl,?_⟩
  refine⟨.str "apart",rfl,?_⟩
  refine⟨.str "apart",rfl,?_⟩
  have ew:El 3 3000 (.str "apart"):=(El.word (bV (by decide +kernel))).mono (by decide) (by decide)
  have el:El 3 3000 (iD l):=(El.ints (λx hx=>by have:=hl.1 x hx;omega) (by have:=hl.2;omega)).mono (by decide) (by decide)
  have ez:El 3 3000 (.int z):=(El.int (by omega) (by omega)).mono (by decide) (by decide)
  show if decide (s<4)=true then _ else _
  refine bB (λc=>?_) (λc=>?_)
  all_goals
   show if decide (s=4)=true then _ else _
   refine bB (λc=>?_) (λc=>?_)
   ·refine⟨zK,rfl,2,rfl,by decide,by decide,λj j0 j1=>?_⟩
    obtain⟨e,hj,ee⟩:∃e,atI [Č "tie",.str "place"] j=some e/\El 3 3000 e:=by
     rcases(by omega:j=0\/j=1) with rfl|rfl
     ·exact⟨_,rfl,(El.word (bV (by decide +kernel))).mono (by decide) (by decide)⟩
     ·exact⟨_,rfl,(El.word (bV (by decide +kernel))).mono (by decide) (by decide)⟩
    have ec:cU [Č "apart",iD l] (some (-1)) none=[iD l]:=rfl
    refine⟨e,hj,zK,λh=>absurd h.1 (show ¬HT.sIx 2 0 (some (-1))=0 by decide),?_⟩
    rw[ec]
    exact⟨zK,q _ (ThB.tup (k:=3) (m:=3000) (HW ee ez el) (é rfl))⟩
   ·have ec:cU [Č "apart",iD l] none (some (-1))=[Č "apart"]:=rfl
    refine⟨λh=>absurd h.2 (show ¬HT.sIx 2 2 (some (-1))=2 by decide),?_⟩
    rw[ec]
    refine⟨rfl,.int n,rfl,iD l,rfl,n,l,rfl,by omega,by omega,hl.2,hl.1,λd hd=>?_⟩
    exact⟨zK,zK,q (.tuple [.str "apart",d]) (ThB.tup (k:=3) (m:=3000) (all2 ew hd.row.el) (é rfl))⟩
end
def Ah{ws:List Put}{a:Int}{P K:List Int}{x:Int}(h:Wy ws a P K x):P.length=K.length+1:=by
 induction h with
 |one=>rfl
 |step _ _ _ ih=>rw[Í,Í,è,è,ih]
def Pu{ws:List Put}{a:Int}{P K:List Int}{x:Int}(h:Wy ws a P K x):P.Nodup:=by
 induction h with
 |one=>simp
 |step _ hx _ ih=>exact List.nodup_append.mpr ⟨ih,by simp,λy hy z hz=>by rw[Ë.mp hz];rintro rfl;exact hx hy⟩
def Ml{ws:List Put}{a:Int}{P K:List Int}{x:Int}(h:Wy ws a P K x):P[0]?=some a:=by
 induction h with
 |one=>rfl
 |step h _ _ ih=>rw[ù (Ç.mp ih).1];exact ih
def Ds{ws:List Put}{a:Int}{P K:List Int}{x:Int}(h:Wy ws a P K x):∃Q,P=Q++[x]:=by
 cases h with
 |one=>exact⟨[],rfl⟩
 |step _ _ _=>exact⟨_,rfl⟩
def QG{ws:List Put}{a:Int}{P K:List Int}{x:Int}(h:Wy ws a P K x):∀(i:Nat) (k:Int),K[i]?=some k->∃p y,P[i]?=some p/\P[i+1]?=some y/\(p,(y,k))∈ws:=by
 induction h with
 |one=>exact λi k e=>by cases e
 |@step P K p y k h hx j ih =>
  intro i k' e
  have l:=Ah h
  by_cases hi:i<K.length
  ·rw[ù hi] at e
   obtain⟨p',y',h1,h2,h3⟩:=ih i k' e
   exact⟨p',y',by rw[ù (by omega)];exact h1,by rw[ù (by omega)];exact h2,h3⟩
  ·rw[Ą (by omega)] at e
   have hi:i=K.length:=by
    have:=(Ç.mp e).1
    rw[è] at this
    omega
   subst hi
   rw[Nat.sub_self] at e
   have e:k=k':=Ø e
   subst e
   obtain⟨Q,rfl⟩:=Ds h
   rw[Í,è] at l
   refine⟨p,y,?_,?_,j⟩
   ·rw[ù (by rw[Í,è];omega),Ą (by omega),show K.length - Q.length=0 by omega]
    rfl
   ·rw[Ą (by rw[Í,è];omega),Í,è,show K.length+1 - (Q.length+1)=0 by omega]
    rfl
def InR.rs{us:List Tie}{n a:Int}(n1:0<=n)(n16:n<=16):InR (rsI us n.toNat a):=by
 refine⟨λx hx=>?_,?_⟩
 ·have h:=(ð.mp hx).1
  obtain⟨v,hv,rfl⟩:=Ā.mp h
  have:=Ħ.mp hv
  omega
 ·have:=Q9 us n.toNat a
  omega
def Vs(ds:List D)(P:D->Prop):Prop:=∃n us a b,ds=[au n us,.int a,.int b]/\1<=n/\n<=16/\us.length<=40/\OkN n us/\0<=a/\a<n/\0<=b/\b<n/\∀L:List D,(∀d∈L,BG n us d)->L.length<=8->P (.list L)
abbrev RBg(K:Ý)(n:Int)(us:List Tie)(a b k v:Int)(L:List D):List Sl:=[.pen (CP K),.im (au n us),.im (.int a),.im (.int b),.im (.int k),.im (.int v),.dw 0 (.list L)]
def Bgs(n:Int)(us:List Tie)(m:Nat)(L:List D):Prop:=(∀d∈L,BG n us d)/\L.length<=m
def Bgs.snoc{n:Int}{us:List Tie}{m:Nat}{L:List D}{d:D}(h:Bgs n us m L)(hd:BG n us d):Bgs n us (m+1) (L++[d]) :=
 ⟨λx hx=>(à.mp hx).elim (h.1 x) λz=>by rw[Ë.mp z];exact hd,by rw[Í,è];have:=h.2;omega⟩
section
variable {P:Program}{w:World}{K:Ý}{mg:Str->Option Value}{base:Heap}{f:Addr}{fd:FuncData}
def kO:FnScope ["_law_pen","_law_web_here","_law_a","_law_b","_law_number","_law_v","_law_some"] ["_law_pen","_law_web_here","_law_a","_law_b"] (ak (top 57)):=zC
def v7(F:Fun K "_law_begun" "_law_begun" (top 57) f fd)(B:ī mg)(aa:í P w K mg base 1 "_law_take" ["_law_pen","_law_many"] (spP (CP K) gO))(bq:í P w K mg base 2 "_law_stroll" ["_law_pen","_law_web_here","_law_a","_law_b"] (spP (CP K) Fy))(ac:í P w K mg base 1 "_law_met" ["_law_web_here","_law_start","_law_fallen","_law_barred"] (spD Ox)):FnOk P w K mg base CX0 3 f fd ["_law_pen","_law_web_here","_law_a","_law_b"] (spP (CP K) Vs):=by
 refine F.ok kO gj (λcdv A outer s H vs Q E hr h=>?_)
 have nd:=kO.nd
 refine⟨_,ó (È (å none (i:=4) nd rfl zQ (ĝ aa hr (č 0) (À (Wr.pZ rfl B.max (À Å (À (Ĝ B.len (À (Ì (Ã 1) Å) Á)) Á))) Á)))
  (È (å none (i:=5) nd rfl zQ (ĝ aa hr (č 0) (À (Ì (Ã 1) Å) Á)))
  (È (å (some 0) (i:=6) nd rfl zQ (â (À (ë (À Ĥ (À (ĝ bq hr (č 0) (À (Ã 1) (À (Ã 2) (À (Ã 3) Á)))) (À (ĝ bq hr (č 0) (À (Ã 1) (À (Ã 2) (À (Ã 3) Á)))) Á)))) (À (ë (À Ĥ (À (Ă ac hr (À (Ã 1) (À (Ã 2) (À (â Á) (À (â Á) Á))))) Á))) Á))))
  (Wr.cA (ń (č 6) (À (ë (À Ĥ (À (Ã 4) (À (Ă ac hr (À (Ã 1) (À (Ã 2) (À (â (À (Ã 4) Á)) (À (â Á) Á))))) Á)))) Á))
  (Wr.cA (ā (Ľ hr.units (Ã 5) (Ã 2)) (Ù (ń (č 6) (À (ë (À Ĥ (À (Ã 5) (À (Ă ac hr (À (Ã 1) (À (Ã 2) (À (â Á) (À (â (À (Ã 5) Á)) Á))))) Á)))) Á))) æ)
  (È (ā (Ľ hr.units (Ã 5) (Ã 3)) (Ù (ń (č 6) (À (ë (À Ĥ (À (Ã 5) (À (Ă ac hr (À (Ã 1) (À (Ã 3) (À (â Á) (À (â (À (Ã 5) Á)) Á))))) Á)))) Á))) æ)
  (Ù (ß (Ġ (Ã 6) (â (À (ë (À Ĥ (À (Ã 4) (À (Ă ac hr (À (Ã 1) (À (Ã 3) (À (â (À (Ã 4) Á)) (À (â Á) Á))))) Á)))) (À (ë (À Ĥ (À (Ă ac hr (À (Ã 1) (À (Ã 3) (À (â Á) (À (â Á) Á))))) Á))) Á)))))))))))),enterQ h ?_⟩
 rintro ds P ⟨n,us,a,b,rfl,n1,n16,lu,ok,a0,a1,b0,b1,q⟩
 refine⟨[.im (au n us),.im (.int a),.im (.int b),.any,.any,.any],by show [aF (au n us),_,_,.any,.any,.any]=_;rw[ķ];rfl,?_⟩
 have lum:(us.map pD).length=us.length:=Ä ..
 have ir:∀us':List Tie,InR (rsI us' n.toNat a):=λus'=>InR.rs (by omega) n16
 have ir2:∀us':List Tie,InR (rsI us' n.toNat b):=λus'=>InR.rs (by omega) n16
 refine⟨rfl,.tuple (us.map pD),rfl,_,rfl,by dsimp only;split <;> omega,by dsimp only;split <;> omega,λk k0 k1=>?_⟩
 have k1:k<100:=by
  have k1:k<(if (((us.map pD).length:Nat):Int) > 1 then (((us.map pD).length:Nat):Int) else 1):=k1
  split at k1 <;> omega
 refine⟨rfl,.int n,rfl,n,rfl,by omega,by omega,λv v0 v1=>?_⟩
 refine⟨rfl,n,us,a,b,rfl,n1,n16,lu,ok,a0,a1,b0,b1,λp1 c1 lp1 lc1 rp1 rc1 _=>?_⟩
 refine⟨rfl,n,us,a,b,rfl,n1,n16,lu,ok,a0,a1,b0,b1,λp2 c2 lp2 lc2 rp2 rc2 _=>?_⟩
 refine⟨zK,zK,zK,n,us,a,[],[],rfl,n1,n16,by omega,ok,a0,a1,zK,zK,?_⟩
 show O6 _ _ _ (RBg K n us a b k v [.tuple [.str "ways",.tuple [iD p1,iD c1],.tuple [iD p2,iD c2]],.tuple [.str "apart",iD (rsI (adj us [] []) n.toNat a)]])
 have g0:Bgs n us 2 [.tuple [.str "ways",.tuple [iD p1,iD c1],.tuple [iD p2,iD c2]],.tuple [.str "apart",iD (rsI (adj us [] []) n.toNat a)]] :=
  ⟨all2 (.inl ⟨p1,c1,p2,c2,rfl,rp1,rc1,rp2,rc2,by omega,by omega,by omega,by omega⟩) (.inr (.inr ⟨_,rfl,ir _⟩)),Ô _⟩
 generalize [ŋ [.str "ways",.tuple [iD p1,iD c1],.tuple [iD p2,iD c2]],.tuple [.str "apart",iD (rsI (adj us [] []) n.toNat a)]]=L at g0
 refine⟨λρ=>∃L,ρ=RBg K n us a b k v L/\Bgs n us 3 L,?_,?_⟩
 ·have:=g0.2
  exact⟨zK,zK,n,us,a,[k],[],rfl,n1,n16,by omega,ok,a0,a1,zK,rfl,by omega,_,rfl,g0.snoc (.inr (.inl ⟨"tie",k,_,rfl,.inl rfl,k0,k1,ir _⟩))⟩
 clear g0
 rintro ρ ⟨L,rfl,g⟩
 refine⟨λρ=>∃L,ρ=RBg K n us a b k v L/\Bgs n us 4 L,?_,?_⟩
 ·have:=g.2
  show if (!decide (v=a))=true then _ else _
  refine bB (λc=>?_) (λc=>⟨_,rfl,g.1,by omega⟩)
  exact⟨zK,zK,n,us,a,[],[v],rfl,n1,n16,by omega,ok,a0,a1,zK,rfl,by omega,_,rfl,g.snoc (.inr (.inl ⟨"place",v,_,rfl,.inr rfl,v0,by omega,ir _⟩))⟩
 clear g
 rintro ρ ⟨L,rfl,g⟩
 have tl:∀L,Bgs n us 5 L->BG n us (.tuple [.str "tie",.int k,iD (rsI (adj us [k] []) n.toNat b)]):=λL g=>.inr (.inl ⟨"tie",k,_,rfl,.inl rfl,k0,k1,ir2 _⟩)
 have te:∀L:List D,Bgs n us 5 L->P (.list (L++[.tuple [.str "tie",.int k,iD (rsI (adj us [k] []) n.toNat b)],.tuple [.str "apart",iD (rsI (adj us [] []) n.toNat b)]])):=λL g=>q _ (λd hd=>by
  rcases à.mp hd with h|h
  ·exact g.1 d h
  ·simp only[Ü,ý,or_false] at h
   rcases h with rfl|rfl
   ·exact .inr (.inl ⟨"tie",k,_,rfl,.inl rfl,k0,k1,ir2 _⟩)
   ·exact .inr (.inr ⟨_,rfl,ir2 _⟩)) (by rw[Í];have:=g.2;show L.length+2<=8;omega)
 clear tl
 show if (!decide (v=b))=true then _ else _
 refine bB (λc=>?_) (λc=>?_)
 ·have:=g.2
  refine⟨zK,zK,n,us,b,[],[v],rfl,n1,n16,by omega,ok,b0,b1,zK,rfl,by omega,?_⟩
  refine⟨zK,zK,n,us,b,[k],[],rfl,n1,n16,by omega,ok,b0,b1,zK,zK,zK,n,us,b,[],[],rfl,n1,n16,by omega,ok,b0,b1,zK,zK,?_⟩
  refine⟨?_,.inr ⟨rfl,te _ (g.snoc (.inr (.inl ⟨"place",v,_,rfl,.inr rfl,v0,by omega,ir2 _⟩)))⟩⟩
  show(L++[_]).length+2<=1000
  rw[Í,è]
  omega
 ·have:=g.2
  refine⟨zK,zK,n,us,b,[k],[],rfl,n1,n16,by omega,ok,b0,b1,zK,zK,zK,n,us,b,[],[],rfl,n1,n16,by omega,ok,b0,b1,zK,zK,?_⟩
  exact⟨(show L.length+2<=1000 by omega),.inr ⟨rfl,te L ⟨g.1,by omega⟩⟩⟩
end
def K3(ds:List D)(P:D->Prop):Prop:=∃n us a b d,ds=[au n us,.int a,.int b,d]/\Pl n us a b/\n<=16/\a≠b/\ThB d/\P (.bool true)
section
variable {P:Program}{w:World}{K:Ý}{mg:Str->Option Value}{base:Heap}{f:Addr}{fd:FuncData}
def kI:FnScope ["_law_web_here","_law_a","_law_b","_law_thing","_law_due","_law_shown","_law_found"] ["_law_web_here","_law_a","_law_b","_law_thing"] (ak (top 58)):=zC
def vY(F:Fun K "_law_right" "_law_right" (top 58) f fd)(B:ī mg)(br:mg "repr"=none)(SY:Dl.tO base)(cK:í P w K mg base 3 "_law_gap" ["_law_web_here","_law_a","_law_b","_law_thing"] (spD Qx))(cS:í P w K mg base 3 "_law_tie" ["_law_web_here","_law_a","_law_b","_law_thing"] (spD Qq))(c8:í P w K mg base 3 "_law_two" ["_law_web_here","_law_a","_law_b","_law_thing"] (spD Qp))(bd:í P w K mg base 8 "shows_by_ties" ["web","a","b","thing"] (spD KR)):FnOk P w K mg base CX0 9 f fd ["_law_web_here","_law_a","_law_b","_law_thing"] (spD K3):=by
 refine F.ok kI ė (λcdv A outer s H vs Q E hr h=>?_)
 have nd:=kI.nd
 refine⟨_,ó (È (å none (i:=4) nd rfl zQ (Wr.yx (Ă c8 hr (À (Ã 0) (À (Ã 1) (À (Ã 2) (À (Ã 3) Á))))) (Wr.yx (Ă cS hr (À (Ã 0) (À (Ã 1) (À (Ã 2) (À (Ã 3) Á))))) (Ų (Ă cK hr (À (Ã 0) (À (Ã 1) (À (Ã 2) (À (Ã 3) Á)))))))))
  (È (å none (i:=5) nd rfl zQ (Wr.lH SY hr.gd hr.units br (À (Ã 3) Á)))
  (È (å none (i:=6) nd rfl zQ (Ă bd hr (À (Ã 0) (À (Ã 1) (À (Ã 2) (À (Ã 3) Á))))))
  (Ù (ß (ŀ (Ń sG B.isinstance (Ã 6) (Wr.wty rfl B.bool boot_bool)) (ŀ (ş hr.units (Ã 6) (Ã 4)) (Ų (ş hr.units (Wr.lH SY hr.gd hr.units br (À (Ã 3) Á)) (Ã 5)))))))))),aH h ?_⟩
 rintro ds P ⟨n,us,a,b,d,rfl,L,n16,ab,th,q⟩
 refine⟨[.im (au n us),.im (.int a),.im (.int b),aF d,.any,.any,.any],by show [aF (au n us),.im (.int a),.im (.int b),aF d,.any,.any,.any]=_;rw[ķ],?_⟩
 rcases aY d with z|z
 all_goals
  rw[z]
  refine⟨n,us,a,b,d,rfl,L,th.th,?_⟩
  have e:P (.bool (decide (d.shown=d.shown))):=by rw[decide_eq_true rfl];exact q
  have sB:Ed n us a b d=(tR n us a b d || (tU n us a b d || zu n us a b d)):=rfl
  cases h2:tR n us a b d with
  |true =>
   rw[h2,Bool.true_or] at sB
   refine aA (B:=True) ⟨_,_,rfl,th.ok,n,us,a,b,d,rfl,L,ab,th.th.th,?_⟩
   rw[sB]
   exact aA (B:=True) (aA (B:=True) ⟨_,_,rfl,th.ok,rfl,e⟩)
  |false =>
   rw[h2,Bool.false_or] at sB
   refine aC (A:=True) ⟨n,us,a,b,d,rfl,L,n16,th.th,?_⟩
   cases h3:tU n us a b d with
   |true =>
    rw[h3,Bool.true_or] at sB
    refine aA (B:=True) ⟨_,_,rfl,th.ok,n,us,a,b,d,rfl,L,ab,th.th.th,?_⟩
    rw[sB]
    exact aA (B:=True) (aA (B:=True) ⟨_,_,rfl,th.ok,rfl,e⟩)
   |false =>
    rw[h3,Bool.false_or] at sB
    refine aC (A:=True) ⟨n,us,a,b,d,rfl,L,n16,th.th,?_⟩
    cases h4:zu n us a b d with
    |true =>
     rw[h4] at sB
     refine⟨_,_,rfl,th.ok,n,us,a,b,d,rfl,L,ab,th.th.th,?_⟩
     rw[sB]
     exact aA (B:=True) (aA (B:=True) ⟨_,_,rfl,th.ok,rfl,e⟩)
    |false =>
     rw[h4] at sB
     refine⟨_,_,rfl,th.ok,n,us,a,b,d,rfl,L,ab,th.th.th,?_⟩
     rw[sB]
     exact aA (B:=True) (aA (B:=True) ⟨_,_,rfl,th.ok,rfl,e⟩)
end
theorem FP{P:DEnds}{ρ:List Sl}{rg:Option Nat}{i:Nat}{k:Kd}{d:D}{s:Sl}(e:Dl.stK rg ρ i (norm k d) d=some s)(h:P.nx (ρ.set i s)):(match Dl.stK rg ρ i (norm k d) d with
 |some s=>P.nx (ρ.set i s)
 |none=>False):=by
 rw[e]
 exact h
def Tr{n:Nat}{us:List Tie}{a b:Int}{d:D}(h:Pq n us a b d):¬cL d=true:=by
 rcases h with ⟨_,rfl⟩|⟨_,k,_,_,rfl⟩|⟨_,_,w1,w2,_,_,_,rfl⟩ <;> exact λz=>nomatch z
def Dr{n:Nat}{ws:List Put}{a:Int}{P K:List Int}{x:Int}(ok:PutsOk n ws)(ha:0<=a/\a<n)(h:Wy ws a P K x):∀y∈P,0<=y/\y<n:=by
 induction h with
 |one=>exact λy hy=>by rw[Ë.mp hy];exact ha
 |step _ _ j ih =>
  intro y hy
  rcases à.mp hy with z|z
  ·exact ih y z
  ·rw[Ë.mp z]
   exact(ok.rng _ j).2
def QJ{n:Nat}{ws:List Put}{a:Int}{P K:List Int}{x:Int}(ok:PutsOk n ws)(ha:0<=a/\a<n)(h:Wy ws a P K x):P.length<=n:=iM (Pu h) (Dr ok ha h)
def VD{n:Int}{us:List Tie}{a b:Int}{d:D}(n0:0<=n)(n16:n<=16)(lu:us.length<=39)(ok:OkN n us)(a0:0<=a)(a1:a<n)(h:Pq n.toNat us a b d):BG n us d:=by
 have po:=iB n0 (by omega:us.length<=100) ok
 have wy:∀w:List Int×List Int,Wy (aJ us) a w.1 w.2 b->(∀x∈w.1,0<=x/\x<n)/\(∀x∈w.2,0<=x/\x<(us.length:Nat))/\w.1.length<=60/\w.2.length<=60:=λw W=>by
  have f1:=QJ po ⟨a0,by omega⟩ W
  have g1:=Ah W
  exact⟨λx hx=>by have:=Dr po ⟨a0,by omega⟩ W x hx;omega,Ib W,by omega,by omega⟩
 rcases h with ⟨_,rfl⟩|⟨_,k,hk,_,rfl⟩|⟨_,_,w1,w2,W1,W2,_,rfl⟩
 ·exact .inr (.inr ⟨_,rfl,InR.rs n0 n16⟩)
 ·exact .inr (.inl ⟨"tie",_,_,rfl,.inl rfl,by omega,by omega,InR.rs n0 n16⟩)
 ·obtain⟨p1,p2,p3,p4⟩:=wy w1 W1
  obtain⟨q1,q2,q3,q4⟩:=wy w2 W2
  exact .inl ⟨_,_,_,_,rfl,p1,p2,q1,q2,p3,p4,q3,q4⟩
def QF{n:Int}{us:List Tie}{d:D}(n16:n<=16)(lu:us.length<=40)(h:BG n us d):ThB d:=by
 obtain⟨wd,es,rfl,gw,les,he,_⟩:=w6 n16 lu h
 refine .tup (k:=3) (m:=3000) (λe h=>?_) (by rw[ï];omega)
 rcases Ü.mp h with rfl|h
 ·exact(El.word gw).mono (by decide) (by decide)
 ·exact he e h
def VF{n:Int}{us:List Tie}{d:D}(n16:n<=16)(lu:us.length<=40)(h:BG n us d):¬cL d=true:=by
 obtain⟨wd,es,rfl,_,_,_,im⟩:=w6 n16 lu h
 show ¬(true&&cu es)=true
 rw[im]
 decide
def S5{i:Nat}{k:Kd}{d:D}{ρ:List Sl}{P:List Sl->Prop}(h:¬cL d=true)(q:P (ρ.set i (Ea k d))):gNm i (norm k d) d ρ P:=by
 show P (ρ.set i (Ea (norm (norm k d) d) d))
 rw[bN h,bN h]
 exact q
def yc(l:List Int):kW l (iD l)=true:=by
 show((l.map Â).all isW&&decide ((l.map Â).map toI=l))=true
 rw[cB,decide_eq_true rfl,Bool.and_true,Ĕ]
 intro x hx
 obtain⟨i,_,rfl⟩:=Ā.mp hx
 rfl
def qF(s:Str):cg s (.str s)=true:=by
 show decide (s=s)=true
 exact decide_eq_true rfl
def Ih{n:Int}{us:List Tie}{a b:Int}{w:List Int×List Int}(okw:OkW n us)(ok:OkN n us)(a0:0<=a)(a1:a<n)(W:Wy (aJ us) a w.1 w.2 b):bZ true n us a b (cT (some w))=true:=by
 obtain⟨ps,ks⟩:=w
 refine(Du ok a0 a1).mpr ⟨Ah W,by rw[List.head?_eq_getElem?];exact Ml W,?_,decide_eq_true ((Bt ps).mpr (Pu W)),λi hi k hk=>?_⟩
 ·obtain⟨Q,e⟩:=Ds W
  have e:ps=Q++[b]:=e
  rw[e]
  exact List.getLast?_concat ..
 ·obtain⟨p,y,h1,h2,h3⟩:=QG W i k hk
  obtain⟨j,rfl,e⟩:=cG.mp h3
  have hj:j<us.length:=e.elim (λe=>(Ç.mp e).1) λe=>(Ç.mp e).1
  refine⟨⟨by omega,by omega⟩,p,y,h1,h2,?_⟩
  rw[ĩ]
  rcases e with e|e
  ·have:=okw _ (Ð e)
   rw[e]
   unfold mmT
   dsimp only at this ⊢
   rw[if_neg (by omega),if_pos (by omega)]
  ·have:=okw _ (Ð e)
   rw[e]
   unfold mmT
   dsimp only at this ⊢
   rw[if_pos (by omega),if_neg (by omega)]
def Lp{n:Int}{us:List Tie}{a b:Int}{d:D}(n0:0<=n)(okw:OkW n us)(ok:OkN n us)(a0:0<=a)(a1:a<n)(b0:0<=b)(b1:b<n)(h:Pq n.toNat us a b d):Ed n us a b d=true:=by
 have sd:∀F:List Int,b∈aL n us F a↔Rt (adj us F []) a b:=λF=>by
  rw[nR]
  exact⟨λz=>z.2,λz=>⟨⟨b0,by omega⟩,z⟩⟩
 unfold Ed
 rcases h with ⟨r,rfl⟩|⟨r,k,hk,nk,rfl⟩|⟨_,_,w1,w2,W1,W2,ap,rfl⟩
 ·have e:zu n us a b (.tuple [.str "apart",iD (rsI (adj us [] []) n.toNat a)])=(cg "apart" (.str "apart")&&(!decide (b∈aL n us [] a)&&kW (aL n us [] a) (iD (aL n us [] a)))):=rfl
  rw[e,yc,decide_eq_false λz=>r ((sd _).mp z)]
  have f:cg "apart" (.str "apart")=true:=qF _
  rw[f]
  show(_ || (_ || true))=true
  rw[Bool.or_true,Bool.or_true]
 ·have e:tU n us a b (.tuple [.str "tie",.int ((k:Nat):Int),iD (rsI (adj us [((k:Nat):Int)] []) n.toNat a)])=(cg "tie" (.str "tie")&&(decide (0<=((k:Nat):Int)/\((k:Nat):Int)<(us.length:Nat))&&(decide (b∈aL n us [] a)&&(!decide (b∈aL n us [((k:Nat):Int)] a)&&kW (aL n us [((k:Nat):Int)] a) (iD (aL n us [((k:Nat):Int)] a)))))):=rfl
  rw[e,yc,decide_eq_true ((sd _).mpr r),decide_eq_false λz=>nk ((sd _).mp z),decide_eq_true ⟨by omega,by omega⟩]
  have f:cg "tie" (.str "tie")=true:=qF _
  rw[f]
  show(_ || (true || _))=true
  rw[Bool.true_or,Bool.or_true]
 ·have e:tR n us a b (.tuple [.str "ways",cT (some w1),cT (some w2)])=(cg "ways" (.str "ways")&&(bZ true n us a b (cT (some w1))&&(bZ true n us a b (cT (some w2))&&!qI ((w1.2.map Â).map toI) ((w2.2.map Â).map toI)))):=rfl
  have f:cg "ways" (.str "ways")=true:=qF _
  have g:qI w1.2 w2.2=false:=by
   unfold qI
   rw[List.any_eq_false]
   exact λx hx z=>ap x hx (of_decide_eq_true z)
  rw[e,f,Ih okw ok a0 a1 W1,Ih okw ok a0 a1 W2,cB,cB,g]
  rfl
abbrev R0(K:Ý)(i j:Nat)(n:Int)(us:List Tie)(x y:Int)(d:D):List Sl:=[.any,.pen (CP K),.im (.int (0+((i:Nat):Int))),.im (au n us),.im (.int (0+((j:Nat):Int))),.im (.int x),.im (.int y),.sn d,.any,.any,.any]
section
variable {P:Program}{w:World}{K:Ý}{mg:Str->Option Value}{base:Heap}{f:Addr}{fd:FuncData}
def Jd:FnScope ["_law_script","_law_pen","_law_turn","_law_web_here","_law_k","_law_a","_law_b","_law_told","_law_thing","_law_again","_law_bent_here"] ["_law_script"] (ak (top 59)):=zC
def R5(F:Fun K "law" "law" (top 59) f fd)(B:ī mg)(SY:Dl.tO base)(c9:í P w K mg base 3 "_law_web" ["_law_pen","_law_few","_law_great"] (spP (CP K) Vl))(de:í P w K mg base 2 "_law_pair" ["_law_pen","_law_n"] (spP (CP K) Qs))(df:í P w K mg base 7 "by_ties" ["web","a","b"] (spD fBy))(bd:í P w K mg base 8 "shows_by_ties" ["web","a","b","thing"] (spD KR))(di:í P w K mg base 3 "_law_begun" ["_law_pen","_law_web_here","_law_a","_law_b"] (spP (CP K) Vs))(bt:í P w K mg base 9 "_law_right" ["_law_web_here","_law_a","_law_b","_law_thing"] (spD K3))(dl:í P w K mg base 4 "_law_bent" ["_law_pen","_law_web_here","_law_thing"] (pC (CP K) Qz)):FnOk P w K mg base CX0 10 f fd ["_law_script"] (DY K):=by
 refine F.ok Jd (λvs H Q E h=>by obtain⟨a,ns,rfl,_⟩:=h;rfl) (λcdv A outer s H vs Q E hr h=>?_)
 obtain⟨sc,ns,rfl,hS,q⟩:=h
 have nd:=Jd.nd
 refine⟨_,(aN (fQ (i:=1) nd rfl zQ (Bh (bJ (pv 0) (bJ Ŏ (bJ Ŏ dZ))))) (ó (È (ņ þ rfl (Ņ B.range (À Å Á)) (ã (i:=2) nd rfl zQ) (È (å none (i:=3) nd rfl zQ (ĝ c9 hr (č 1) (À Å (À Å Á))))
  (È (ņ þ rfl (Ņ B.range (À (Wr.lG Å (Wr.lJ B.int boot_int (À (Wr.Et (Ì (Ã 3) Å) Å) Á))) Á)) (ã (i:=4) nd rfl zQ) (È (Wr.sX (ĝ de hr (č 1) (À (Ì (Ã 3) Å) Á)) (Wr.cZ (n:=2) rfl (đ (ã (i:=5) nd rfl zQ) (đ (ã (i:=6) nd rfl zQ) ŭ))))
  (È (å none (i:=7) nd rfl zQ (Ă df hr (À (Ã 3) (À (Ã 5) (À (Ã 6) Á)))))
  (È (ā (Wr.jX (Ă bd hr (À (Ã 3) (À (Ã 5) (À (Ã 6) (À (Ã 7) Á))))) Ĳ) (Ù (ß Ĳ)) æ)
  (È (ņ þ rfl (Ĺ (Ġ (â (À (Ã 7) (À (Ã 7) Á))) (ĝ di hr (č 1) (À (Ã 3) (À (Ã 5) (À (Ã 6) Á)))))) (ã (i:=8) nd rfl zQ) (È (ā (Ď (Đ (Ă bt hr (À (Ã 3) (À (Ã 5) (À (Ã 6) (À (Ã 8) Á))))))) (Ù (ß Ĳ)) æ)
  (È (ņ þ rfl (Ņ B.range (À Å Á)) (ã (i:=9) nd rfl zQ) (È (å none (i:=10) nd rfl zQ (Dl.Tg dl hr (č 1) (À (Ã 3) (À (Ã 8) Á))))
  (È (ā (Ď (Đ (Ă bt hr (À (Ã 3) (À (Ã 5) (À (Ã 6) (À (Ã 10) Á))))))) (Ù (ß Ĳ)) æ) (î [9,10] æ)))) (î [8,9,10] æ)))) (î [4,5,6,7,8,9,10] æ)))))) (î [2,3,4,5,6,7,8,9,10] æ))))
  (î [2,3,4,5,6,7,8,9,10] (Ù (ß Ĳ)))))),Tf hS q (by decide) ?_⟩
 refine⟨⟨by decide,by decide⟩,rfl,λ(i:Nat) ρ=>ρ=[.any,.pen (CP K),.any,.any,.any,.any,.any,.any,.any,.any,.any],rfl,?_,?_⟩
 rotate_left
 ·rintro ρ rfl
  exact⟨rfl,rfl⟩
 rintro i d ρ hd rfl
 obtain⟨hi,rfl⟩:=cH hd
 refine⟨rfl,6,11,rfl,by decide,by decide,by decide,by decide,λn us n1 nm lu okw=>?_⟩
 have okn:=okw.okN
 have n16:n<=16:=by omega
 refine FP (s:=.im (au n us)) (by
  show Dl.stK none _ 3 (norm _ (au n us)) (au n us)=some (.im (au n us))
  rw[aU (qg n us)];rfl) ?_
 have hc:∃c:Int,(4:Int) * (if decide (1<n)=true then 1 else 0)=c/\0<=c/\c<=4/\(0<c->1<n):=by
  by_cases n2:1<n
  ·exact⟨4,by rw[decide_eq_true n2];rfl,by decide,by decide,λ_=>n2⟩
  ·exact⟨0,by rw[decide_eq_false n2];rfl,by decide,by decide,λz=>absurd z (by decide)⟩
 obtain⟨c,hc,c0,c6,c1⟩:=hc
 have b62:(-(2:Int) ^ 62<=(4:Int) * (if decide (1<n)=true then 1 else 0))/\(4:Int) * (if decide (1<n)=true then 1 else 0)<2 ^ 62:=by rw[hc];exact⟨by omega,by omega⟩
 refine⟨.int n,rfl,.inl ⟨by decide,by decide⟩,b62,rfl,λ(j:Nat) ρ=>ρ=[.any,.pen (CP K),.im (.int (0+((i:Nat):Int))),.im (au n us),.any,.any,.any,.any,.any,.any,.any],rfl,?_,?_⟩
 rotate_left
 ·rintro ρ rfl
  rfl
 rintro j d ρ hd rfl
 obtain⟨hj,rfl⟩:=cH hd
 rw[hc] at hj
 have n2:2<=n:=by have:=c1 (by omega);omega
 refine⟨rfl,.int n,rfl,n,rfl,n2,n16,λx y x0 x1 y0 y1 ne=>⟨rfl,n,us,x,y,rfl,n1,by omega,by omega,okn,x0,x1,y0,y1,ne,?_⟩⟩
 have B1:=VB (b:=y) (by omega) (by omega:us.length<=100) okn x0 x1
 generalize byD n.toNat us x y=D1 at B1 ⊢
 have i1:=Tr B1
 have g1:=VD (by omega) n16 lu okn x0 x1 B1
 have L:Pl n us x y:=⟨n1,by omega,by omega,okn,x0,x1,y0,y1⟩
 have t1:=QF n16 (by omega) g1
 refine FP (s:=.sn D1) ?_ ?_
 ·show Dl.stK none _ 7 (norm _ D1) D1=_
  rw[bN i1,bN i1]
  rfl
 refine⟨n,us,x,y,D1,rfl,L,ne,t1.th.th,?_⟩
 rw[Lp (by omega) okw okn x0 x1 y0 y1 B1]
 refine⟨zK,rfl,n,us,x,y,rfl,n1,n16,by omega,okn,x0,x1,y0,y1,λLs hL lL=>?_⟩
 refine⟨(show 2+Ls.length<=1000 by omega),.inr ⟨rfl,λ(t:Nat) ρ=>ρ=R0 K i j n us x y D1,rfl,?_,?_⟩⟩
 rotate_left
 ·rintro ρ rfl
  rfl
 rintro t e ρ ht rfl
 have hb:BG n us e:=by
  rcases à.mp (Ð ht) with h|h
  ·have h:e∈[D1,D1]:=h
   simp only[Ü,ý,or_false,or_self] at h
   rw[h]
   exact g1
  ·exact hL e h
 have te:=QF n16 (by omega) hb
 refine S5 (VF n16 (by omega) hb) ?_
 show wR _ _ _ ((R0 K i j n us x y D1).set 8 (.sn e))
 refine⟨n,us,x,y,e,rfl,L,n16,ne,te,?_⟩
 refine⟨⟨by decide,by decide⟩,rfl,λ(t:Nat) ρ=>ρ=(R0 K i j n us x y D1).set 8 (.sn e),rfl,?_,?_⟩
 rotate_left
 ·rintro ρ rfl
  rfl
 rintro t' d' ρ hd' rfl
 obtain⟨_,rfl⟩:=cH hd'
 refine⟨rfl,rfl,n,us,e,rfl,n1,n16,by omega,hb,λd2 t2=>?_⟩
 refine Ja (norm_le rfl) λs hs=>?_
 rcases hs with rfl|rfl|rfl
 all_goals
  exact⟨n,us,x,y,d2,rfl,L,n16,ne,t2,rfl⟩
end
theorem len1{α:Type}:∀us:List α,us.length=1->∃a,us=[a]
 |[a],_=>⟨a,rfl⟩
theorem len2{α:Type}:∀us:List α,us.length=2->∃a b,us=[a,b]
 |[a,b],_=>⟨a,b,rfl⟩
theorem Wk{α:Type}:∀us:List α,us.length=3->∃a b c,us=[a,b,c]
 |[a,b,c],_=>⟨a,b,c,rfl⟩
theorem jL{α:Type}:∀us:List α,us.length=4->∃a b c d,us=[a,b,c,d]
 |[a,b,c,d],_=>⟨a,b,c,d,rfl⟩
theorem Wj{α:Type}:∀us:List α,us.length=5->∃a b c d e,us=[a,b,c,d,e]
 |[a,b,c,d,e],_=>⟨a,b,c,d,e,rfl⟩
def Fp{K:Ý}{f:Addr}{oc:Value}{od:Option Addr}{fd:FuncData}{sl:Array (Option Value)}(l:K.lookup f=some ⟨oc,od,.func fd,sl⟩):W.keepIn K (.ref f)=true:=by
 unfold W.keepIn
 simp only[l]
def aB{P:Program}{w:World}{K:Ý}{mg:Str->Option Value}{base:Heap}{k:Nat}{x:Str}{st:Stmt}{f:Addr}{fd:FuncData}{ps:List Str}{sp:Sp}(F:Fun K x x st f fd)(b:Binds K fd ps [])(m:mg x=some (.ref f))(h:FnOk P w K mg base CX0 k f fd ps sp) :
  í P w K mg base k x ps sp:=⟨f,fd,h,b,F.kp,m⟩
abbrev zl(K:Ý)(f:Addr)(x:Str)(st:Stmt)(oc:Value)(od:Option Addr)(kV dc pm:Value)(an:Option Addr)(cd ct:Value)(sl:Array (Option Value)):Prop:=K.lookup f=some ⟨oc,od,.func (W.fnOf x x (jF st) (gA st) (ak st) .none kV dc pm an cd ct),sl⟩
abbrev za(K:Ý)(x:Str)(f:Addr):Prop:=W.nsIn K mainGlobals x=some (some (.ref f))
abbrev zc(K:Ý)(x:Str)(cd:Value):Prop:=W.codeIn K cd x=true
abbrev zn(K:Ý)(x:Str):Prop:=W.nsIn K mainGlobals x=some none
abbrev zf(K:Ý)(f:Addr)(x:Str)(st:Stmt):Prop:=∃oc od kV dc pm an cd ct sl,za K x f/\zl K f x st oc od kV dc pm an cd ct sl/\zc K x cd
def zE{K:Ý}{f:Addr}{x:Str}{st:Stmt}{oc:Value}{od:Option Addr}{kV dc pm:Value}{an:Option Addr}{cd ct:Value}{sl:Array (Option Value)}(a:za K x f)(l:zl K f x st oc od kV dc pm an cd ct sl)(c:zc K x cd):zf K f x st:=⟨_,_,_,_,_,_,_,_,_,a,l,c⟩
def zF{K:Ý}{h:Heap}{mg:Str->Option Value}{f:Addr}{x:Str}{st:Stmt}(X:K.In h)(G:h.Ns mainGlobals mg)(z:zf K f x st):∃fd,Fun K x x st f fd/\mg x=some (.ref f):=by
 obtain⟨_,_,_,_,_,_,_,_,_,a,l,c⟩:=z
 exact⟨_,KQ (st:=st) l c (Fp l),W.mg_of X G a⟩
def all_mk{l:W.OpenLaw}{w:World}{K:Ý}{h:Heap}{mg:Str->Option Value}{fa f0 f1 f2 f3 f4 f5 f6 f7 f8 f9 f10 f11 f12 f13 f14 f15 f16 f17 f18 f19 f20 f21 f22 f23 f24 f25 f26 f27 f28 f29 f30 f31 f32 f33 f34 f35 f36 f37 f38 f39 f40 f41 f42 f43 f44 f45 f46 f47 f48 f49:Addr}(X:K.In h)(G:h.Ns mainGlobals mg)(hfa:mg "law"=some (.ref fa)){od49 an49:Option Addr}{sl49:Array (Option Value)}{oc49 kV49 dc49 pm49 cd49 ct49:Value}(h0:zf K f0 "is_whole" (top 4))(h1:zf K f1 "is_below" (top 5))(h2:zf K f2 "is_place" (top 6))(h3:zf K f3 "is_tie_number" (top 7))(h4:zf K f4 "check_place" (top 8))(h5:zf K f5 "check_two_places" (top 9))(h6:zf K f6 "steps_of_web" (top 11))(h7:zf K f7 "search" (top 12))(h8:zf K f8 "trace" (top 13))(h9:zf K f9 "part_of" (top 14))(h10:zf K f10 "way" (top 15))(h11:zf K f11 "is_row_of_places" (top 16))(h12:zf K f12 "has_form_of_way" (top 17))(h13:zf K f13 "hops" (top 18))(h14:zf K f14 "is_way" (top 19))(h15:zf K f15 "without_ties" (top 21))(h16:zf K f16 "steps_along" (top 23))(h17:zf K f17 "steps_left" (top 24))(h18:zf K f18 "arcs_of_two" (top 25))(h19:zf K f19 "two_along" (top 26))(h20:zf K f20 "arcs_of_ties" (top 28))(h21:zf K f21 "two_by_ties" (top 29))(h22:zf K f22 "parting_tie" (top 30))(h23:zf K f23 "by_ties" (top 31))(h24:zf K f24 "has_form" (top 33))(h25:zf K f25 "is_same_set" (top 34))(h26:zf K f26 "share" (top 35))(h27:zf K f27 "is_two_ways" (top 36))(h28:zf K f28 "is_apart" (top 37))(h29:zf K f29 "is_parting_tie" (top 38))(h30:zf K f30 "shows_by_ties" (top 39))(h31:zf K f31 "_law_take" (top 41))(h32:zf K f32 "_law_more" (top 42))(h33:zf K f33 "_law_web" (top 43))(h34:zf K f34 "_law_met" (top 44))(h35:zf K f35 "_law_numbers" (top 45))(h36:zf K f36 "_law_leads" (top 46))(h37:zf K f37 "_law_pair" (top 47))(h38:zf K f38 "_law_stroll" (top 48))(h39:zf K f39 "_law_bent_list" (top 49))(h40:zf K f40 "_law_bent_way" (top 50))(h41:zf K f41 "_law_bent" (top 51))(h42:zf K f42 "_law_is" (top 52))(h43:zf K f43 "_law_just" (top 53))(h44:zf K f44 "_law_two" (top 54))(h45:zf K f45 "_law_tie" (top 55))(h46:zf K f46 "_law_gap" (top 56))(h47:zf K f47 "_law_begun" (top 57))(h48:zf K f48 "_law_right" (top 58))(a49:za K "law" f49)(l49:zl K f49 "law" (top 59) oc49 od49 kV49 dc49 pm49 an49 cd49 ct49 sl49)(c49:zc K "law" cd49)(z0:zn K "isinstance")(z1:zn K "int")(z2:zn K "bool")(z3:zn K "tuple")(z4:zn K "list")(z5:zn K "len")(z6:zn K "all")(z7:zn K "min")(z8:zn K "max")(z9:zn K "sorted")(z10:zn K "range")(z11:zn K "abs")(z12:zn K "enumerate")(z13:zn K "reversed")(z14:zn K "set")(z15:zn K "zip")(z16:zn K "str")(z17:zn K "any")(z18:zn K "sum")(z19:zn K "repr")
  :
  ∃fd:FuncData,(∀(s:Shared) (v:Value),BindsTo s fd ⟨[v],[]⟩ [("_law_script",v)])/\∀base:Heap,K.In base->base.Ns mainGlobals mg->Dl.tO base->FnOk l.prog w K mg base CX0 10 fa fd ["_law_script"] (DY K):=by
 have e:=hfa.symm.trans (W.mg_of X G a49)
 cases e
 obtain⟨_,F0,m0⟩:=zF X G h0
 have b0:=F0.binds (ps:=["thing"])
 obtain⟨_,F1,m1⟩:=zF X G h1
 have b1:=F1.binds (ps:=["limit","thing"])
 obtain⟨_,F2,m2⟩:=zF X G h2
 have b2:=F2.binds (ps:=["web","thing"])
 obtain⟨_,F3,m3⟩:=zF X G h3
 have b3:=F3.binds (ps:=["web","thing"])
 obtain⟨_,F4,m4⟩:=zF X G h4
 have b4:=F4.binds (ps:=["web","thing"])
 obtain⟨_,F5,m5⟩:=zF X G h5
 have b5:=F5.binds (ps:=["web","a","b"])
 obtain⟨_,F6,m6⟩:=zF X G h6
 have b6:=F6.binds (ps:=["web"])
 obtain⟨_,F7,m7⟩:=zF X G h7
 have b7:=F7.binds (ps:=["steps","start"])
 obtain⟨_,F8,m8⟩:=zF X G h8
 have b8:=F8.binds (ps:=["came","goal"])
 obtain⟨_,F9,m9⟩:=zF X G h9
 have b9:=F9.binds (ps:=["web","place"])
 obtain⟨_,F10,m10⟩:=zF X G h10
 have b10:=F10.binds (ps:=["web","a","b"])
 obtain⟨_,F11,m11⟩:=zF X G h11
 have b11:=F11.binds (ps:=["web","a","b","thing"]) λ_ _ _ _ _ _ us hl=>by obtain⟨_,_,_,_,rfl⟩:=jL us hl;rfl
 obtain⟨_,F12,m12⟩:=zF X G h12
 have b12:=F12.binds (ps:=["web","a","b","thing"]) λ_ _ _ _ _ _ us hl=>by obtain⟨_,_,_,_,rfl⟩:=jL us hl;rfl
 obtain⟨_,F13,m13⟩:=zF X G h13
 have b13:=F13.binds (ps:=["places"])
 obtain⟨_,F14,m14⟩:=zF X G h14
 have b14:=F14.binds (ps:=["web","a","b","thing"]) λ_ _ _ _ _ _ us hl=>by obtain⟨_,_,_,_,rfl⟩:=jL us hl;rfl
 obtain⟨_,F15,m15⟩:=zF X G h15
 have b15:=F15.binds (ps:=["web","numbers"])
 obtain⟨_,F16,m16⟩:=zF X G h16
 have b16:=F16.binds (ps:=["count","arcs","used"])
 obtain⟨_,F17,m17⟩:=zF X G h17
 have b17:=F17.binds (ps:=["count","arcs","used"])
 obtain⟨_,F18,m18⟩:=zF X G h18
 have b18:=F18.binds (ps:=["count","arcs","start","goal"]) λ_ _ _ _ _ _ us hl=>by obtain⟨_,_,_,_,rfl⟩:=jL us hl;rfl
 obtain⟨_,F19,m19⟩:=zF X G h19
 have b19:=F19.binds (ps:=["count","arcs","used","start","goal"]) λ_ _ _ _ _ _ us hl=>by obtain⟨_,_,_,_,_,rfl⟩:=Wj us hl;rfl
 obtain⟨_,F20,m20⟩:=zF X G h20
 have b20:=F20.binds (ps:=["web"])
 obtain⟨_,F21,m21⟩:=zF X G h21
 have b21:=F21.binds (ps:=["web","a","b"])
 obtain⟨_,F22,m22⟩:=zF X G h22
 have b22:=F22.binds (ps:=["web","a","b"])
 obtain⟨_,F23,m23⟩:=zF X G h23
 have b23:=F23.binds (ps:=["web","a","b"])
 obtain⟨_,F24,m24⟩:=zF X G h24
 have b24:=F24.binds (ps:=["thing","word","count"])
 obtain⟨_,F25,m25⟩:=zF X G h25
 have b25:=F25.binds (ps:=["thing","some"])
 obtain⟨_,F26,m26⟩:=zF X G h26
 have b26:=F26.binds (ps:=["one","other"])
 obtain⟨_,F27,m27⟩:=zF X G h27
 have b27:=F27.binds (ps:=["web","a","b","thing"]) λ_ _ _ _ _ _ us hl=>by obtain⟨_,_,_,_,rfl⟩:=jL us hl;rfl
 obtain⟨_,F28,m28⟩:=zF X G h28
 have b28:=F28.binds (ps:=["web","a","b","thing"]) λ_ _ _ _ _ _ us hl=>by obtain⟨_,_,_,_,rfl⟩:=jL us hl;rfl
 obtain⟨_,F29,m29⟩:=zF X G h29
 have b29:=F29.binds (ps:=["web","a","b","thing"]) λ_ _ _ _ _ _ us hl=>by obtain⟨_,_,_,_,rfl⟩:=jL us hl;rfl
 obtain⟨_,F30,m30⟩:=zF X G h30
 have b30:=F30.binds (ps:=["web","a","b","thing"]) λ_ _ _ _ _ _ us hl=>by obtain⟨_,_,_,_,rfl⟩:=jL us hl;rfl
 obtain⟨_,F31,m31⟩:=zF X G h31
 have b31:=F31.binds (ps:=["_law_pen","_law_many"])
 obtain⟨_,F32,m32⟩:=zF X G h32
 have b32:=F32.binds (ps:=["_law_pen","_law_n","_law_ties"])
 obtain⟨_,F33,m33⟩:=zF X G h33
 have b33:=F33.binds (ps:=["_law_pen","_law_few","_law_great"])
 obtain⟨_,F34,m34⟩:=zF X G h34
 have b34:=F34.binds (ps:=["_law_web_here","_law_start","_law_fallen","_law_barred"]) λ_ _ _ _ _ _ us hl=>by obtain⟨_,_,_,_,rfl⟩:=jL us hl;rfl
 obtain⟨_,F35,m35⟩:=zF X G h35
 have b35:=F35.binds (ps:=["_law_thing"])
 obtain⟨_,F36,m36⟩:=zF X G h36
 have b36:=F36.binds (ps:=["_law_web_here","_law_a","_law_b","_law_thing"]) λ_ _ _ _ _ _ us hl=>by obtain⟨_,_,_,_,rfl⟩:=jL us hl;rfl
 obtain⟨_,F37,m37⟩:=zF X G h37
 have b37:=F37.binds (ps:=["_law_pen","_law_n"])
 obtain⟨_,F38,m38⟩:=zF X G h38
 have b38:=F38.binds (ps:=["_law_pen","_law_web_here","_law_a","_law_b"]) λ_ _ _ _ _ _ us hl=>by obtain⟨_,_,_,_,rfl⟩:=jL us hl;rfl
 obtain⟨_,F39,m39⟩:=zF X G h39
 have b39:=F39.binds (ps:=["_law_pen","_law_n","_law_some"])
 obtain⟨_,F40,m40⟩:=zF X G h40
 have b40:=F40.binds (ps:=["_law_pen","_law_web_here","_law_one"])
 obtain⟨_,F41,m41⟩:=zF X G h41
 have b41:=F41.binds (ps:=["_law_pen","_law_web_here","_law_thing"])
 obtain⟨_,F42,m42⟩:=zF X G h42
 have b42:=F42.binds (ps:=["_law_thing","_law_word","_law_many"])
 obtain⟨_,F43,m43⟩:=zF X G h43
 have b43:=F43.binds (ps:=["_law_thing","_law_due"])
 obtain⟨_,F44,m44⟩:=zF X G h44
 have b44:=F44.binds (ps:=["_law_web_here","_law_a","_law_b","_law_thing"]) λ_ _ _ _ _ _ us hl=>by obtain⟨_,_,_,_,rfl⟩:=jL us hl;rfl
 obtain⟨_,F45,m45⟩:=zF X G h45
 have b45:=F45.binds (ps:=["_law_web_here","_law_a","_law_b","_law_thing"]) λ_ _ _ _ _ _ us hl=>by obtain⟨_,_,_,_,rfl⟩:=jL us hl;rfl
 obtain⟨_,F46,m46⟩:=zF X G h46
 have b46:=F46.binds (ps:=["_law_web_here","_law_a","_law_b","_law_thing"]) λ_ _ _ _ _ _ us hl=>by obtain⟨_,_,_,_,rfl⟩:=jL us hl;rfl
 obtain⟨_,F47,m47⟩:=zF X G h47
 have b47:=F47.binds (ps:=["_law_pen","_law_web_here","_law_a","_law_b"]) λ_ _ _ _ _ _ us hl=>by obtain⟨_,_,_,_,rfl⟩:=jL us hl;rfl
 obtain⟨_,F48,m48⟩:=zF X G h48
 have b48:=F48.binds (ps:=["_law_web_here","_law_a","_law_b","_law_thing"]) λ_ _ _ _ _ _ us hl=>by obtain⟨_,_,_,_,rfl⟩:=jL us hl;rfl
 have F49:=KQ (st:=top 59) l49 c49 (Fp l49)
 have B:ī mg:=⟨ę X G z0,ę X G z1,ę X G z2,ę X G z3,ę X G z4,ę X G z5,ę X G z6,ę X G z7,ę X G z8,ę X G z9,ę X G z10,ę X G z11⟩
 have N12:=ę X G z12
 have N13:=ę X G z13
 have N14:=ę X G z14
 have N15:=ę X G z15
 have N16:=ę X G z16
 have N17:=ę X G z17
 have N18:=ę X G z18
 have N19:=ę X G z19
 refine⟨W.fnOf "law" "law" (jF (top 59)) (gA (top 59)) (ak (top 59)) .none kV49 dc49 pm49 an49 cd49 ct49,λs v=>.of_eq rfl,λbase _ _ SY=>?_⟩
 have C0:=aB F0 b0 m0 (JQ (P:=l.prog) (w:=w) (base:=base) F0 B)
 have C1:=aB F1 b1 m1 (JV (P:=l.prog) (w:=w) (base:=base) F1 C0)
 have C2:=aB F2 b2 m2 (yJ (P:=l.prog) (w:=w) (base:=base) F2 B C1)
 have C3:=aB F3 b3 m3 (nG (P:=l.prog) (w:=w) (base:=base) F3 B C1)
 have C4:=aB F4 b4 m4 (rO (P:=l.prog) (w:=w) (base:=base) F4 B C2)
 have C5:=aB F5 b5 m5 (jK (P:=l.prog) (w:=w) (base:=base) F5 B C4)
 have C6:=aB F6 b6 m6 (pG (P:=l.prog) (w:=w) (base:=base) F6 B N12)
 have C7:=aB F7 b7 m7 (GJ (P:=l.prog) (w:=w) (base:=base) F7 B)
 have C8:=aB F8 b8 m8 (JR (P:=l.prog) (w:=w) (base:=base) F8 B N13)
 have C9:=aB F9 b9 m9 (Bu (P:=l.prog) (w:=w) (base:=base) F9 B C7 C6)
 have C10:=aB F10 b10 m10 (R4 (P:=l.prog) (w:=w) (base:=base) F10 B C4 C8 C7 C6)
 have C11:=aB F11 b11 m11 (jJ (P:=l.prog) (w:=w) (base:=base) F11 B N14 C2)
 have C12:=aB F12 b12 m12 (j4 (P:=l.prog) (w:=w) (base:=base) F12 B C11 C3)
 have C13:=aB F13 b13 m13 (Ny (P:=l.prog) (w:=w) (base:=base) F13 B N15)
 have C14:=aB F14 b14 m14 (GP (P:=l.prog) (w:=w) (base:=base) F14 B N15 C4 C12 C13)
 have C15:=aB F15 b15 m15 (pF (P:=l.prog) (w:=w) (base:=base) F15 B N12)
 have C16:=aB F16 b16 m16 (rG (P:=l.prog) (w:=w) (base:=base) F16 B)
 have C17:=aB F17 b17 m17 (tX (P:=l.prog) (w:=w) (base:=base) F17 B N12)
 have C18:=aB F18 b18 m18 (rQ (P:=l.prog) (w:=w) (base:=base) F18 B C8 C7 C17)
 have C19:=aB F19 b19 m19 (vX (P:=l.prog) (w:=w) (base:=base) F19 B C8 C7 C16)
 have C20:=aB F20 b20 m20 (pI (P:=l.prog) (w:=w) (base:=base) F20 B)
 have C21:=aB F21 b21 m21 (rF (P:=l.prog) (w:=w) (base:=base) F21 B C20 C18 C19)
 have C22:=aB F22 b22 m22 (rH (P:=l.prog) (w:=w) (base:=base) F22 B C10 C9 C15)
 have C23:=aB F23 b23 m23 (BL (P:=l.prog) (w:=w) (base:=base) F23 B C5 C9 C21 C22)
 have C24:=aB F24 b24 m24 (yL (P:=l.prog) (w:=w) (base:=base) F24 B N16)
 have C25:=aB F25 b25 m25 (rM (P:=l.prog) (w:=w) (base:=base) F25 B C0)
 have C26:=aB F26 b26 m26 (JT (P:=l.prog) (w:=w) (base:=base) F26 B N17)
 have C27:=aB F27 b27 m27 (rK (P:=l.prog) (w:=w) (base:=base) F27 B C24 C14 C26)
 have C28:=aB F28 b28 m28 (yK (P:=l.prog) (w:=w) (base:=base) F28 B C9 C25 C24)
 have C29:=aB F29 b29 m29 (lM (P:=l.prog) (w:=w) (base:=base) F29 B C9 C3 C24 C15 C25)
 have C30:=aB F30 b30 m30 (nD (P:=l.prog) (w:=w) (base:=base) F30 B C5 C27 C28 C29)
 have C31:=aB F31 b31 m31 (Nx (P:=l.prog) (w:=w) (base:=base) F31 B)
 have C32:=aB F32 b32 m32 (yG (P:=l.prog) (w:=w) (base:=base) F32 B C31)
 have C33:=aB F33 b33 m33 (Bv (P:=l.prog) (w:=w) (base:=base) F33 B C31 C32)
 have C34:=aB F34 b34 m34 (BJ (P:=l.prog) (w:=w) (base:=base) F34 B N12 N18)
 have C35:=aB F35 b35 m35 (rJ (P:=l.prog) (w:=w) (base:=base) F35 B)
 have C36:=aB F36 b36 m36 (vZ (P:=l.prog) (w:=w) (base:=base) F36 B N14 N12 C35)
 have C37:=aB F37 b37 m37 (yF (P:=l.prog) (w:=w) (base:=base) F37 B C31)
 have C38:=aB F38 b38 m38 (tY (P:=l.prog) (w:=w) (base:=base) F38 B N18 C31)
 have C39:=aB F39 b39 m39 (nF (P:=l.prog) (w:=w) (base:=base) F39 B N16 C31)
 have C40:=aB F40 b40 m40 (pH (P:=l.prog) (w:=w) (base:=base) F40 B C31 C39)
 have C41:=aB F41 b41 m41 (yI (P:=l.prog) (w:=w) (base:=base) F41 B N16 C31 C40 C39)
 have C42:=aB F42 b42 m42 (GK (P:=l.prog) (w:=w) (base:=base) F42 B N16)
 have C43:=aB F43 b43 m43 (yH (P:=l.prog) (w:=w) (base:=base) F43 B C35)
 have C44:=aB F44 b44 m44 (Bw (P:=l.prog) (w:=w) (base:=base) F44 B C36 C42)
 have C45:=aB F45 b45 m45 (Bx (P:=l.prog) (w:=w) (base:=base) F45 B C35 C42 C34 C43)
 have C46:=aB F46 b46 m46 (BK (P:=l.prog) (w:=w) (base:=base) F46 B C34 C43 C42)
 have C47:=aB F47 b47 m47 (v7 (P:=l.prog) (w:=w) (base:=base) F47 B C31 C38 C34)
 have C48:=aB F48 b48 m48 (vY (P:=l.prog) (w:=w) (base:=base) F48 B N19 SY C46 C45 C44 C30)
 exact R5 F49 B SY C33 C37 C23 C30 C47 C48 C41
def walk{l:W.OpenLaw}{q:Program}{loose:List Str}{XP:(Str->Option Value)->Heap->Prop}{YP:World->Heap->Prop}{d:DefRec}{K:Params->Ý}(hi:importsNone q=true)(hn:l.most=some 63)(hdf:d.params.defaults=[])(hY:∀(w:World) (h:Heap),YP w h->(K w.params).In h)(F:∀(w:World) (mg:Str->Option Value) (fa:Addr) (h:Heap),(K w.params).In h->h.Ns mainGlobals mg->mg d.name=some (.ref fa) ->
   ∃fd:FuncData,(∀(s:Shared) (u:Value),BindsTo s fd ⟨[u],[]⟩ [("_law_script",u)])/\∀base:Heap,(K w.params).In base->base.Ns mainGlobals mg->Dl.tO base->FnOk l.prog w (K w.params) mg base CX0 10 fa fd ["_law_script"] (DY (K w.params))) :
  W.WalkO q loose XP YP l.row.toRowW d [] (λf vs=>PySem.call f vs) :=
 L2.Ik (n:=63) (k:=10) (x:="_law_script") (CX:=λ_=>CX0) (sp:=λw=>DY (K w.params)) hi hn (by decide) hdf ⟨rfl,by decide,by decide,rfl⟩ hY F (λ_ _ a ns hl hO hS=>⟨a,ns,rfl,hS,λ_=>rfl⟩) λ_ _ _ _ _ z=>z
end Nf
namespace Nf
open PySem PySem.W PyProof.Rows
def uN:List Nat:=[1,2,4,5,6,7,8,9,11,12,13,14,15,16,17,18,19,21,23,24,25,26,28,29,30,31,33,34,35,36,37,38,39,41,42,43,44,45,46,47,48,49,50,51,52,53,54,55,56,57,58,59]
def yR(p:Program)(w:World)(os:OsState):=(Gw p 4096 w os).map (λs=>Jb p (view p uN) (λs=>xlAt (view p uN) [] s&&recOk [] s) w s.abs)
def goodW(p:Program):=some (true,openGood (view p uN) [])
def frF(fr:Frag)(k:Nat):=some ((fr.map λp=>some p.2).take k)
def frB(fr:Frag)(k:Nat):=some ((fr.map λp=>some p.2).drop k)
def sO(p:Program)(w:World)(os:OsState)(as:List Addr)(k:Nat):=(Gw p 4096 w os).map (λs=>(as.map s.abs.heap.get?).take k)
def Ad(p:Program)(w:World)(os:OsState)(as:List Addr)(k:Nat):=(Gw p 4096 w os).map (λs=>(as.map s.abs.heap.get?).drop k)
def Cd:yR=yR:=rfl
def Ck:goodW=goodW:=rfl
def zx:sO=sO:=rfl
def Dm:Ad=Ad:=rfl
end Nf
lay_quick Nf.yR Nf.goodW Nf.sO Nf.Ad
name_quick lookQ for Nf.yR by Nf.Cd
name_quick goodQ for Nf.goodW by Nf.Ck
name_quick frontQ for Nf.sO by Nf.zx
name_quick backQ for Nf.Ad by Nf.Dm
set_option maxHeartbeats 0 in
def Nf.N5(w:PySem.World)(os:PySem.OsState):Nf.yR ø w os=Nf.goodW ø:=by
 rw[PySem.W.Fast.lookQ_eq,PySem.W.Fast.goodQ_eq]
 kernel_rfl
def Nf.well:PySem.Challenge.rw_nofall_k13_what_shows_by_ties.wellSaid=true:=by kernel_rfl
open PySem PySem.W PyProof.Rows
local macro_rules
 |`(tactic| k_qdec)=>`(tactic| fail)
local macro_rules
 |`(tactic| o_head (kmHook $k $a $e $t))=>`(tactic| o_head (kHook (λP=>List.append (List.map (λa=>(a,PySem.W.tabObj #[])) $t) ($k P)) (List.append $t $a) (λ_=>by kernel_rfl)))
local macro_rules
 |`(tactic| o_head (kHook $k $a $e))=>`(tactic| (
  refine holds_open (q:=view ø Nf.uN) (loose:=[]) (Xt:=λs=>xlAt (view ø Nf.uN) [] s&&recOk [] s) (XP:=XL (view ø Nf.uN) []) (Yf:=Hook.obs (kHook $k $a $e)) (Ya:=Hook.val (kHook $k $a $e)) (YP:=Hook.says (kHook $k $a $e)) (N:=4096) ?hl (Hook.of (kHook $k $a $e)) (Hook.keeps (kHook $k $a $e)) (λs e=>xl_of s (Bool.and_eq_true_iff.mp e).1) XL.keeps (by rfl) (by rfl) (by rfl) (λs e=>recFacts_of (Bool.and_eq_true_iff.mp e).2) (by rfl) (by first|assumption|decide +kernel) (by decide +kernel) ⟨rfl,rfl,rfl,rfl,rfl,by decide +kernel⟩ ?hw ?hc))
set_option maxRecDepth 100000 in
set_option maxHeartbeats 0 in
theorem PySem.Challenge.cw_nofall_k13_what_shows_by_ties_holds : PySem.Challenge.rw_nofall_k13_what_shows_by_ties.Holds := by
 w_on;refine PySem.W.holds_law Nf.well λsaid=>?_;k_head
 ·refine Nf.Oa 90 (boot_open (by kernel_rfl) rfl (λs=>by kernel_rfl)) Nf.N5 (λw os=>?_) (λw os=>?_)
  ·show Nf.sO ø w os _ 90=Nf.frF _ 90
   rw[PySem.W.Fast.frontQ_eq]
   kernel_rfl
  ·show Nf.Ad ø w os _ 90=Nf.frB _ 90
   rw[PySem.W.Fast.backQ_eq]
   kernel_rfl
 ·w_witness2
 k_fill
 refine Nf.walk (l:=PySem.Challenge.rw_nofall_k13_what_shows_by_ties) rfl rfl rfl (λw h Y=>PySem.W.kIn_of Y) ?F
 case F =>
  intro w mg fa h KX G hmg
  refine' Nf.all_mk KX G hmg ?h0 ?h1 ?h2 ?h3 ?h4 ?h5 ?h6 ?h7 ?h8 ?h9 ?h10 ?h11 ?h12 ?h13 ?h14 ?h15 ?h16 ?h17 ?h18 ?h19 ?h20 ?h21 ?h22 ?h23 ?h24 ?h25 ?h26 ?h27 ?h28 ?h29 ?h30 ?h31 ?h32 ?h33 ?h34 ?h35 ?h36 ?h37 ?h38 ?h39 ?h40 ?h41 ?h42 ?h43 ?h44 ?h45 ?h46 ?h47 ?h48 ?a49 ?l49 ?c49 ?z0 ?z1 ?z2 ?z3 ?z4 ?z5 ?z6 ?z7 ?z8 ?z9 ?z10 ?z11 ?z12 ?z13 ?z14 ?z15 ?z16 ?z17 ?z18 ?z19
  any_goals first|refine' Nf.zE ?_ ?_ ?_|skip
  any_goals (show _=_;k_is)
  all_goals rfl
end
