import PyProof.Rows.All
import Wide.All
import OpenK.AllK
import Wide.FinOn
import Lean
import PyProof.EqAt
import PyProof.EqKinds
import PyProof.TupleCall
import PySem.Challenge.RW_nofall_k63_webs_as_texts
set_option genSizeOf false
set_option genSizeOfSpec false
set_option Elab.async false
set_option linter.all false
set_option maxRecDepth 100000
open PySem renaming wpAny_bind → Á,wpAny_pure → Ç,sizeLine_eq → ä,wpAny_field → ù,wpAny_truthy_bool → ÿ,wpAny_call_entry → Ĉ,wpAny_callSpecial?_slot → ĉ,wpAny_pyIter_tuple → Ė,strLen_append → ė,mem_of_lookup → ě,wpAny_mono → Ħ,wpAny_newObj_type → ĭ,wpAny_seqItems → Ķ,wpAny_setField_rec → Ļ,wpAny_holding → Ł,call_meets → Ū,wpAny_passesOwn → ų
open List renaming length_map → Ã,replicate → È,size_toArray → Ê,mem_cons → Ï,mem_cons_of_mem → Ð,getElem?_eq_some_iff → Ñ,length_cons → Ó,mem_cons_self → Ô,mem_of_getElem? → Ù,getElem?_map → Ú,mem_append_right → Û,length_append → Ü,getElem?_eq_getElem → Ý,range → ã,not_mem_nil → æ,getElem?_append_right → î,map_cons → ð,mem_append → õ,getElem?_set_self → ö,all_eq_true → ø,length_zip → Ā,mem_map → ċ,map_map → Č,getD_eq_getElem?_getD → č,map_append → ď,getElem?_append_left → Đ,lookup_cons → Ĕ,getElem?_cons_succ → Ę,replicate_succ → Ĝ,find?_cons → ħ,toArray → Ĩ,getElem?_set_ne → ĩ,getElem?_replicate → į,mem_singleton → Ĵ,flatten_cons → ľ,append_assoc → Ŀ,mem_append_left → ł,take → Ņ,length_take → ņ,drop → Ň,getElem?_zip_eq_some → ŋ,getElem?_eq_none_iff → Ō,nodup_cons → œ,length_replicate → Š,length_drop → Ţ,take_add_one → Ÿ,take_length → Ž
open PySem.Heap renaming get?_push_of_some → Ä,lt_size → Å,get?_push_size → Î,size_push → ý,get?_push_ne → ļ,size_update → š,SameBut → Ů
open Nat renaming le_refl → Æ,lt_of_lt_of_le → Õ,ne_of_lt → Ö,lt_irrefl → ñ,le_trans → ú,lt_succ_of_lt → ę,zero_le → Ģ,ne_of_gt → ĸ,le_succ → Ń,lt_succ_self → Ŋ,le_add_right → ť
open Bool renaming false_ne_true → Ë,and_eq_true → â,eq_iff_iff → Ŕ,false_eq_true → Ų
open Option.some renaming inj → Ì
open PySem.W renaming Frag → Í,mg_none_of → û,mg_of → ü,boot_heap → Ĭ,kia_tup → ŏ,kia_one → Ő,boot_o_0 → ő,kitOne → ū,keepIn → ŷ
open PySem.PyData renaming int → Þ,str → ì,tuple → ć,list → Ĥ,canLayAll0 → ĥ,depthAll → ĳ,eqv → ź
open PySem.Challenge renaming pw_nofall_k63_webs_as_texts → ß
open PySem.NameKind renaming free → á,cell → ç
open Ne renaming symm → è
open Array renaming length_toList → é
open Sum renaming inr → ê
open PySem.Obj renaming mapSeq → ë
open PySem.Builtin.SmallTypes renaming nextOf → í,ownedTupleIsFree → đ,ownedTupleHandOut → ű
open PySem.Value renaming ref → ò,type → Ă,none → ă,int → Ğ,bool → ů
open ForInStep renaming yield → ó
open PySem.F renaming slot_enumerate_next → Ą,slot_enumerate_iter → Ĺ
open True renaming intro → Ċ
open PySem.Builtin.Str renaming occurrences → ē
open PySem.Str renaming ofString → ğ,empty → Ű
open PyProof.Rows renaming slot_tupleiter_next → ġ,callWith_type1 → İ,join_cons_cons → ķ
open False renaming elim → Ĳ
open PySem.Builtin.Slice renaming slicePlaces → ĺ,sliceAdjust → Ť
open PySem.Builtin.Tuple renaming tupleExact → Ľ
open PySem.Builtin.List renaming listTooLong → ŀ
open Option renaming isSome_iff_exists → Ŏ,map_eq_some_iff → ż
open PySem.Txt renaming join → Œ,split → ţ
open Int renaming emod_lt_of_pos → Ŗ,le_refl → Ũ,emod_nonneg → ŭ
open List.cons renaming sizeOf_spec → ř
open Or renaming inl → Ş,inr → Ż
open PySem.PassesOwn renaming never → ş
open List.Perm renaming refl → ŧ
noncomputable section
namespace L2
open PySem PySem.Spec PyProof.Rows
def zK{n:Nat}(h:Nat.ble n 1000=true:=by rfl):n<=1000:=Nat.le_of_ble_eq_true h
abbrev Key:=Sum Int Str
def mV:Key->Value->Bool
 |.inl k,v=>Value.isInt k v
 |.inr x,v=>Value.isStrOf x v
def Ji(w:World):Key->Int
 |.inl k=>hashInt k
 |.inr x=>hashStr w x
def aJ:∀{k:Key}{v:Value},mV k v=true->(∃i t,k=Sum.inl i/\v=Ğ i t)\/(∃x t,k=ê x/\v=Value.str x t)
 |.inl i,v,h=>by
  obtain⟨t,e⟩:=Value.isInt_shape (k:=i) (v:=v) h
  exact .inl ⟨i,t,rfl,e⟩
 |.inr x,v,h=>by
  obtain⟨t,e⟩:=Value.isStrOf_shape (x:=x) (v:=v) h
  exact .inr ⟨x,t,rfl,e⟩
def vm(i:Int)(t:Tok):mV (.inl i) (.int i t)=true:=by simp[mV,Value.isInt]
def vh(x:Str)(t:Tok):mV (.inr x) (.str x t)=true:=by simp[mV,Value.isStrOf]
def EY(a b:Int):decide ((Sum.inl a:Key)=Sum.inl b)=(a == b):=by
 by_cases e:a=b
 ·subst e;simp
 ·have h:¬(Sum.inl a:Key)=Sum.inl b:=λq=>e (Sum.inl.inj q)
  rw[decide_eq_false h]
  exact(beq_eq_false_iff_ne.mpr e).symm
def Ew(a b:Str):decide ((ê a:Key)=ê b)=decide (a=b):=by
 by_cases e:a=b
 ·subst e;simp
 ·have h:¬(ê a:Key)=ê b:=λq=>e (Sum.inr.inj q)
  rw[decide_eq_false h,decide_eq_false e]
def Ez(a:Int)(b:Str):decide ((Sum.inl a:Key)=ê b)=false:=decide_eq_false (λq=>nomatch q)
def Ey(a:Str)(b:Int):decide ((ê a:Key)=Sum.inl b)=false:=decide_eq_false (λq=>nomatch q)
def aV(prog:Program)(w:World):PySem.KeyKind prog w Key where
 is:=mV
 hash:=Ji w
 inj:=λv a b ha hb=>by
  rcases aJ ha with ⟨i,t,rfl,rfl⟩|⟨x,t,rfl,rfl⟩
  ·rcases aJ hb with ⟨j,u,rfl,e⟩|⟨y,u,rfl,e⟩
   ·injection e with e1 _;rw[e1]
   ·exact nomatch e
  ·rcases aJ hb with ⟨j,u,rfl,e⟩|⟨y,u,rfl,e⟩
   ·exact nomatch e
   ·injection e with e1 _;rw[e1]
 byValue:=λk v h=>by
  rcases aJ h with ⟨i,t,rfl,rfl⟩|⟨x,t,rfl,rfl⟩ <;> rfl
 pyHash:=λhv h=>by
  rcases aJ hv with ⟨i,t,rfl,rfl⟩|⟨x,t,rfl,rfl⟩
  ·exact wpAny_pyHash_int h
  ·exact wpAny_pyHash_str h
 eqBool:=λhu hv h=>by
  rcases aJ hu with ⟨i,t,rfl,rfl⟩|⟨x,t,rfl,rfl⟩
  ·rcases aJ hv with ⟨j,u,rfl,rfl⟩|⟨y,u,rfl,rfl⟩
   ·rw[EY] at h;exact wpAny_eqBool_int h
   ·rw[Ez] at h;exact SeqAt.EqAt.int_str i t y u _ _ _ _ h
  ·rcases aJ hv with ⟨j,u,rfl,rfl⟩|⟨y,u,rfl,rfl⟩
   ·rw[Ey] at h;exact SeqAt.EqAt.str_int x t j u _ _ _ _ h
   ·rw[Ew] at h;exact wpAny_eqBool_str h
 «strs»:=λk x t v h=>by
  rcases aJ h with ⟨i,u,rfl,e⟩|⟨y,u,rfl,e⟩
  ·exact nomatch e
  ·injection e with e1 _
   subst e1
   cases v <;> rfl
def qC(prog:Program)(w:World)(i:Int)(t:Tok):(aV prog w).is (.inl i) (.int i t)=true:=vm i t
def qz(prog:Program)(w:World)(x:Str)(t:Tok):(aV prog w).is (.inr x) (.str x t)=true:=vh x t
inductive V where
 |non|bl (b:Bool)|int (i:Int)|str (x:Str)|byt (b:Array UInt8)|flt (b:UInt64)|ref (a:Addr)|ty (n:String)
 deriving DecidableEq
def RelV:V->Value->Prop
 |.non,u=>u=ă
 |.bl b,u=>u=ů b
 |.int i,u=>∃t,u=Ğ i t
 |.str x,u=>∃t,u=Value.str x t
 |.byt b,u=>∃t,u=Value.bytes b t
 |.flt b,u=>∃t,u=Value.float b t
 |.ref a,u=>u=ò a
 |.ty n,u=>u=Ă n
abbrev Vals:List V->List Value->Prop:=Paired RelV
def Vals.length{xs:List V}{us:List Value}(r:Vals xs us):xs.length=us.length:=Paired.length r
def Vals.get:∀{xs:List V}{us:List Value}{i:Nat}{x:V},Vals xs us->xs[i]?=some x->∃u,us[i]?=some u/\RelV x u
 |_,_,_,_,.nil,e=>by simp at e
 |_,_,0,_,.cons r _,e=>by simp at e;subst e;exact⟨_,rfl,r⟩
 |_,_,i+1,x,.cons _ t,e=>by
  obtain⟨u,h1,h2⟩:=Vals.get (i:=i) (x:=x) t (by simpa using e)
  exact⟨u,by simpa using h1,h2⟩
def Vals.append:∀{xs ys:List V}{us ws:List Value},Vals xs us->Vals ys ws->Vals (xs++ys) (us++ws)
 |_,_,_,_,.nil,s=>s
 |_,_,_,_,.cons r t,s=>.cons r (Vals.append t s)
def Vals.take:∀{xs:List V}{us:List Value} (n:Nat),Vals xs us->Vals (xs.take n) (us.take n)
 |_,_,0,_=>.nil
 |_,_,_+1,.nil=>.nil
 |_,_,n+1,.cons r t=>.cons r (Vals.take n t)
def Vals.drop:∀{xs:List V}{us:List Value} (n:Nat),Vals xs us->Vals (xs.drop n) (us.drop n)
 |_,_,0,r=>r
 |_,_,_+1,.nil=>.nil
 |_,_,n+1,.cons _ t=>Vals.drop n t
def lR:Option V->Option Value->Prop
 |some v,some u=>RelV v u
 |none,none=>True
 |_,_=>False
def KV{κ:Type}:List (κ×V)->List (κ×Value)->Prop:=Paired λ(p:κ×V) (q:κ×Value)=>p.1=q.1/\RelV p.2 q.2
def kV:Key->V
 |.inl i=>.int i
 |.inr x=>.str x
inductive HO where
 |lst (xs:List V)
 |tup (xs:List V)
 |dK (kvs:List (Key×V))|dT (kvs:List (List Key×V))
 |set (S:Int->Bool) (n:Nat)
 |ins (C dx:Addr) (fs:List (Str×V))
 |own (x:Addr)
 |xd (fs:List (Str×V))
 |met (f x:Addr)
 |rng (lo hi:Int)
 |frz (o:Obj) (u:HO)
 |tbl (ps:Array Value)
 |ext (φ:Heap->Prop)
abbrev Hp:=Addr->Option HO
def upd(H:Hp)(a:Addr)(o:HO):Hp:=λb=>if b=a then some o else H b
def ao{H:Hp}{a:Addr}{o:HO}:upd H a o a=some o:=by unfold upd;rw[if_pos rfl]
def aj{H:Hp}{a b:Addr}{o:HO}(h:b≠a):upd H a o b=H b:=by unfold upd;rw[if_neg h]
def Hl{H:Hp}{a b:Addr}{o u:HO}(h:H a=some o)(h':H b=some u)(d:o≠u):a≠b:=by
 intro e;subst e;rw[h] at h';exact d (Ì h')
def ak{H:Hp}{a b:Addr}{o:HO}(h:H a=some o)(h':H b=none):a≠b:=by
 intro e;subst e;rw[h] at h';cases h'
section
variable (P:Program) (w:World)
def aF(H:Hp)(h:Heap)(a:Addr):HO->Prop
 |.lst xs=>xs.length<=sizeLine/\∃(its:List Value) (n:Nat),Vals xs its/\h.get? a=some { cls:=.type "list",data:=.seq its.toArray n }
 |.tup xs=>xs.length<=sizeLine/\∃its:List Value,Vals xs its/\IsTup h a its.toArray
 |.dK kvs=>kvs.length<=sizeLine/\(a == sysModules)=false/\∃vs,KV kvs vs/\h.DictOf (aV P w) a vs
 |.dT kvs=>kvs.length<=sizeLine/\(a == sysModules)=false/\∃xs:List (List Key×Addr×Value),
   Paired (λ(p:List Key×V) (q:List Key×Addr×Value)=>p.1=q.1/\H q.2.1=some (.tup (p.1.map kV))/\RelV p.2 q.2.2) kvs xs /\
   ∃o es ep,h.get? a=some o/\o.ExactDict/\o.data=.dict es ep/\es.toList=xs.map (entryOfKey (tupleKind (aV P w)))/\(xs.map (·.1)).Nodup
 |.set S n=>h.SetOf (intKind P w) a S n
 |.ins C dx fs=>H dx=some (.own a)/\fs.length<=1000/\dx≠a/\h.get? a=some (W.instObj C dx) /\
   ∃mA,h.Ns1 dx mA/\(∀f,lR (fs.lookup f) (mA f))/\PySem.Within mA (fs.map (·.1))
 |.own _=>∃o,h.get? a=some o
 |.xd fs=>∃mA,h.Ns1 a mA/\∀f,lR (fs.lookup f) (mA f)
 |.rng lo hi=>∃t u v,h.get? a=some { cls:=.type "range",data:=.fields #[.int lo t,.int hi u,.int 1 v] }
 |.frz o u=>h.get? a=some o/\aF H h a u
 |.tbl ps=>h.get? a=some { cls:=.none,data:=.fields ps }
 |.met f x=>h.get? a=some (W.methodObj (.ref f) (.ref x))
 |.ext φ=>φ h/\(∃o,h.get? a=some o)/\∀h1 h2:Heap,φ h1->(∀o,h1.get? a=some o->h2.get? a=some o)->φ h2
def HOk(H:Hp)(h:Heap):Prop:=∀a o,H a=some o->aF P w H h a o
end
section
variable {P:Program}{w:World}{H H':Hp}{h h':Heap}{a:Addr}{o:HO}
def aF.lt(x:aF P w H h a o):a<h.objs.size:=by
 cases o with
 |lst xs=>obtain⟨_,_,_,_,e⟩:=x;exact Å e
 |tup xs=>obtain⟨_,_,_,p⟩:=x;exact p.lt
 |dK kvs=>obtain⟨_,_,_,_,o,_,_,e,_⟩:=x;exact Å e
 |dT kvs=>obtain⟨_,_,_,_,o,_,_,e,_⟩:=x;exact Å e
 |set S n=>obtain⟨o,_,_,_,e,_⟩:=x;exact Å e
 |ins C dx fs=>obtain⟨_,_,_,e,_⟩:=x;exact Å e
 |own y=>obtain⟨_,e⟩:=x;exact Å e
 |xd fs=>obtain⟨_,⟨_,_,_,e,_⟩,_⟩:=x;exact Å e
 |rng lo hi=>obtain⟨_,_,_,e⟩:=x;exact Å e
 |frz ob u=>obtain⟨e,_⟩:=x;exact Å e
 |tbl ps=>exact Å (show h.get? a=some _ from x)
 |met f y=>exact Å (show h.get? a=some _ from x)
 |ext φ=>obtain⟨_,⟨_,e⟩,_⟩:=x;exact Å e
def Paired.yF{α β:Type}{F G:α->β->Prop}:∀{l₁:List α}{l₂:List β},Paired F l₁ l₂->(∀a b,F a b->G a b)->Paired G l₁ l₂
 |_,_,.nil,_=>.nil
 |_,_,.cons r t,f=>.cons (f _ _ r) (Paired.yF t f)
def aF.stay(x:aF P w H h a o)(k:∀b u,(b=a\/H b=some (.own a))->h.get? b=some u->h'.get? b=some u)(ho:∀b,H b=some (.own a)->H' b=some (.own a))(ht:∀b xs,H b=some (.tup xs)->H' b=some (.tup xs)):aF P w H' h' a o:=by
 induction o with
 |lst xs=>obtain⟨z,its,n,r,e⟩:=x;exact⟨z,its,n,r,k _ _ (.inl rfl) e⟩
 |tup xs=>obtain⟨z,its,r,ob,e,c⟩:=x;exact⟨z,its,r,ob,k _ _ (.inl rfl) e,c⟩
 |dK kvs=>obtain⟨z,y,vs,r,ob,es,ep,e,c⟩:=x;exact⟨z,y,vs,r,ob,es,ep,k _ _ (.inl rfl) e,c⟩
 |dT kvs =>
  obtain⟨z,y,xs,r,ob,es,ep,e,c⟩:=x
  exact⟨z,y,xs,Paired.yF r λp q z=>⟨z.1,ht _ _ z.2.1,z.2.2⟩,ob,es,ep,k _ _ (.inl rfl) e,c⟩
 |set S n=>obtain⟨ob,es,ep,t,e,c⟩:=x;exact⟨ob,es,ep,t,k _ _ (.inl rfl) e,c⟩
 |ins C dx fs =>
  obtain⟨d,z,ne,e,mA,⟨od,es,ep,e2,c⟩,r⟩:=x
  exact⟨ho _ d,z,ne,k _ _ (.inl rfl) e,mA,⟨od,es,ep,k _ _ (.inr d) e2,c⟩,r⟩
 |own y=>obtain⟨ob,e⟩:=x;exact⟨ob,k _ _ (.inl rfl) e⟩
 |xd fs=>obtain⟨mA,⟨od,es,ep,e,c⟩,r⟩:=x;exact⟨mA,⟨od,es,ep,k _ _ (.inl rfl) e,c⟩,r⟩
 |rng lo hi=>obtain⟨t,u,v,e⟩:=x;exact⟨t,u,v,k _ _ (.inl rfl) e⟩
 |frz ob u ih=>obtain⟨e,q⟩:=x;exact⟨k _ _ (.inl rfl) e,ih q⟩
 |tbl ps =>
  have e:h.get? a=some { cls:=.none,data:=.fields ps }:=x
  show h'.get? a=some { cls:=.none,data:=.fields ps }
  exact k a _ (.inl rfl) e
 |met f y =>
  have e:h.get? a=some (W.methodObj (.ref f) (.ref y)):=x
  show h'.get? a=some (W.methodObj (.ref f) (.ref y))
  exact k a _ (.inl rfl) e
 |ext φ=>obtain⟨p,⟨o,e⟩,st⟩:=x;exact⟨st _ _ p λo q=>k _ _ (.inl rfl) q,⟨o,k _ _ (.inl rfl) e⟩,st⟩
def HOk.lt(x:HOk P w H h)(e:H a=some o):a<h.objs.size:=(x a o e).lt
def HOk.fresh(x:HOk P w H h)(e:h.objs.size<=a):H a=none:=by
 cases q:H a with
 |none=>rfl
 |some u=>exact absurd (Õ (x.lt q) e) (ñ _)
def HOk.kept(x:HOk P w H h)(k:∀b u,h.get? b=some u->h'.get? b=some u):HOk P w H h':=λa o e =>
 (x a o e).stay (λb u _ q=>k b u q) (λ_ q=>q) λ_ _ q=>q
def HOk.laid(x:HOk P w H h)(k:∀b u,h.get? b=some u->h'.get? b=some u)(hp:h.objs.size<=a)(new:aF P w (upd H a o) h' a o):HOk P w (upd H a o) h':=λb u e=>by
 have hn:=x.fresh hp
 by_cases hb:b=a
 ·subst hb;rw[ao] at e;cases e;exact new
 ·rw[aj hb] at e
  exact(x b u e).stay (λc v _ q=>k c v q) (λc q=>by rw[aj (ak q hn)];exact q) λc xs q=>by rw[aj (ak q hn)];exact q
end
def Rd(H:Hp)(a:Addr)(u:HO):Prop:=H a=some u\/∃o,H a=some (.frz o u)
def Rd.ok{P:Program}{w:World}{H:Hp}{h:Heap}{a:Addr}{u:HO}(r:Rd H a u)(x:HOk P w H h):aF P w H h a u:=by
 rcases r with r|⟨o,r⟩
 ·exact x a u r
 ·obtain⟨_,q⟩:=x a _ r
  exact q
def Mut:Option HO->Prop
 |some (.lst _)=>True
 |some (.dK _)=>True
 |some (.dT _)=>True
 |some (.set _ _)=>True
 |some (.ins _ _ _)=>True
 |some (.ext _)=>True
 |_=>False
section
variable {P:Program}{w:World}{H:Hp}{h h':Heap}{x e:Addr}{o':HO}
def HOk.write(ok:HOk P w H h)(mu:Mut (H x))(he:e=x\/H e=some (.own x))(k:∀b u,b≠e->h.get? b=some u->h'.get? b=some u)(heo:∃u,h'.get? e=some u)(new:aF P w (upd H x o') h' x o'):HOk P w (upd H x o') h':=λb u q=>by
 have nown:∀c y,H c=some (.own y)->c≠x:=λc y r z=>by subst z;rw[r] at mu;exact mu
 have ntup:∀c xs,H c=some (.tup xs)->c≠x:=λc xs r z=>by subst z;rw[r] at mu;exact mu
 by_cases hb:b=x
 ·subst hb;rw[ao] at q;cases q;exact new
 ·rw[aj hb] at q
  by_cases hbe:b=e
  ·have q':H b=some (.own x):=by
    rcases he with z|z
    ·exact absurd (hbe.trans z) hb
    ·rw[hbe];exact z
   rw[q] at q';cases q'
   obtain⟨v,hv⟩:=heo
   exact⟨v,by rw[hbe];exact hv⟩
  ·refine(ok b u q).stay (λc v hc r=>k c v ?_ r) (λc r=>by rw[aj (nown c b r)];exact r) λc xs r=>by rw[aj (ntup c xs r)];exact r
   rcases hc with rfl|hc
   ·exact hbe
   ·rintro rfl
    rcases he with z|z
    ·exact nown c b hc z
    ·rw[hc] at z;cases z;exact hb rfl
end
structure Un(fs ex:List Addr)(H H':Hp)(h h':Heap):Prop where
 keep:∀b o,h.get? b=some o->H b=none->b∉fs->b∉ex->h'.get? b=some o
 slot:∀b o,h.get? b=some o->H b=none->b∈fs->b∉ex->∃sl,h'.get? b=some { o with slots:=sl }
 free:∀b o,h.get? b=some o->H b=none->b∉ex->H' b=none
 there:∀b o,h.get? b=some o->b∉ex->∃o',h'.get? b=some o'
 tups:∀b xs,H b=some (.tup xs)->H' b=some (.tup xs)
 frzs:∀b o u,H b=some (.frz o u)->H' b=some (.frz o u)
 tbls:∀b ps,H b=some (.tbl ps)->∃more,H' b=some (.tbl (ps++more))
section
variable {fs fs' ex ex':List Addr}{H H1 H2:Hp}{h h1 h2 h':Heap}{a x e:Addr}{o:HO}
def Un.any(u:Un fs ex H H1 h h1){b:Addr}{ob:Obj}(q:h.get? b=some ob)(n:H b=none)(hx:b∉ex):∃sl,h1.get? b=some { ob with slots:=sl }:=by
 by_cases hb:b∈fs
 ·exact u.slot b ob q n hb hx
 ·exact⟨ob.slots,u.keep b ob q n hb hx⟩
def Un.kept(k:∀b u,h.get? b=some u->h'.get? b=some u):Un fs ex H H h h' :=
 ⟨λb ob q _ _ _=>k b ob q,λb ob q _ _ _=>⟨ob.slots,k b ob q⟩,λ_ _ _ n _=>n,λb ob q _=>⟨ob,k b ob q⟩,λ_ _ q=>q,λ_ _ _ q=>q,λ_ ps q=>⟨#[],by rw[q];simp⟩⟩
def Un.refl:Un fs ex H H h h:=Un.kept λ_ _ q=>q
def Un.laid(k:∀b u,h.get? b=some u->h'.get? b=some u)(hp:h.objs.size<=a)(hn:H a=none):Un fs ex H (upd H a o) h h' where
 keep:=λb u q _ _ _=>k b u q
 slot:=λb u q _ _ _=>⟨u.slots,k b u q⟩
 free:=λb u q n _=>by rw[aj (Ö (Õ (Å q) hp))];exact n
 there:=λb u q _=>⟨u,k b u q⟩
 tups:=λb xs q=>by rw[aj (ak q hn)];exact q
 frzs:=λb u xs q=>by rw[aj (ak q hn)];exact q
 tbls:=λb ps q=>⟨#[],by rw[aj (ak q hn),q];simp⟩
def Un.write(mu:Mut (H x))(he:e=x\/H e=some (.own x))(k:∀b u,b≠e->h.get? b=some u->h'.get? b=some u)(heo:∃u,h'.get? e=some u):Un fs ex H (upd H x o) h h':=by
 have hx:∀b,H b=none->b≠x:=λb n z=>by subst z;rw[n] at mu;exact mu
 have hb:∀b,H b=none->b≠e:=λb n z=>by
  subst z
  rcases he with r|r
  ·exact hx b n r
  ·rw[n] at r;cases r
 have hm:∀b u,H b=some u->¬Mut (some u)->b≠x:=λb u q nm z=>by subst z;rw[q] at mu;exact nm mu
 refine⟨λb u q n _ _=>k b u (hb b n) q,λb u q n _ _=>⟨u.slots,k b u (hb b n) q⟩,λb u q n _=>by rw[aj (hx b n)];exact n,λb u q _=>?_,
  λb xs q=>by rw[aj (hm b _ q λz=>z)];exact q,λb u xs q=>by rw[aj (hm b _ q λz=>z)];exact q,λb ps q=>⟨#[],by rw[aj (hm b _ q λz=>z),q];simp⟩⟩
 by_cases hbe:b=e
 ·subst hbe;exact heo
 ·exact⟨u,k b u hbe q⟩
end
def trk(h:Heap)(H:Hp):List Addr:=(ã h.objs.size).filter λa=>(H a).isSome
def o8(h:Heap)(H:Hp):Heap:=W.hideAll h (trk h H)
def vA(h:Heap)(H:Hp):(o8 h H).objs.size=h.objs.size:=W.hideAll_size _ _
def yO{h:Heap}{H:Hp}{b:Addr}{o:Obj}(e:h.get? b=some o)(n:H b=none):(o8 h H).get? b=some o :=
 W.hideAll_get _ e λhm=>by
  have q:(H b).isSome=true:=(List.mem_filter.mp hm).2
  rw[n] at q;simp at q
def Bm{h:Heap}{H:Hp}{b:Addr}{o:Obj}(e:(o8 h H).get? b=some o):h.get? b=some o/\H b=none:=by
 have e':h.get? b=some o:=W.of_hideAll (trk h H) e
 refine⟨e',?_⟩
 cases q:H b with
 |none=>rfl
 |some x =>
  have hm:b∈trk h H:=List.mem_filter.mpr ⟨List.mem_range.mpr (Å e'),by simp[q]⟩
  have z:(o8 h H).get? b=none:=W.hideAll_none (trk h H) hm
  rw[z] at e;cases e
def pW(g h:Heap)(L:Addr):List (Addr×Obj):=(ã h.objs.size).filterMap λa=>if a=L\/(g.get? a).isSome=true then none else (h.get? a).map λo=>(a,o)
def kE{g h:Heap}{L:Addr}{p:Addr×Obj}(hp:p∈pW g h L):p.1≠L/\g.get? p.1=none/\h.get? p.1=some p.2:=by
 obtain⟨b,_,e⟩:=List.mem_filterMap.mp hp
 split at e
 ·cases e
 ·rename_i hn
  cases q:h.get? b with
  |none=>rw[q] at e;simp at e
  |some u =>
   rw[q] at e
   simp only[Option.map_some,Option.some.injEq] at e
   subst e
   refine⟨λz=>hn (.inl z),?_,q⟩
   show g.get? b=none
   cases r:g.get? b with
   |none=>rfl
   |some v=>exact(hn (.inr (by simp[r]))).elim
def rest(g h:Heap)(L d:Addr):List (Addr×Obj):=(pW g h L).filter λp=>decide (p.1≠d)
def yC{g h:Heap}{L:Addr}:News g L h (pW g h L):=λp hp=>let ⟨a,b,c⟩:=kE hp;⟨c,a,b⟩
structure Mod(K:Í)(mg:Str->Option Value)(base:Heap):Prop where
 kin:K.In base
 glob:base.Ns mainGlobals mg
 blt:∃mb,base.Ns builtinsNs mb/\∀x:Str,x≠"__name__"->mb x=bootBuiltins x
 nolimit:base.NoLimit
structure Cx where
 prog:Program
 w:World
 K:Í
 mg:Str->Option Value
 base:Heap
 A:Around
 N:List Str
 s₀:Shared
 H₀:Hp
 env:Env
 outer:List Env
 stack:List Env
 ex:List Addr
 fn:Str->Bool
 calm:Bool
 pn:List (Addr×Obj)
 xe:Value->Shared->Prop
 sf:List (Addr×Obj×HO):=[]
def frs(l:List Env):List Addr:=l.filterMap (·.frame)
abbrev Cx.fs(X:Cx):List Addr:=frs X.outer
def Vis(sc:Scope)(x:Str):Prop:=sc.names.lookup x=some .local\/sc.names.lookup x=some .cell\/sc.names.lookup x=some .free
def Loc(sc:Scope)(x:Str):Prop:=sc.names.lookup x=some .local\/sc.names.lookup x=some .cell
def Look(env:Env)(h:Heap)(m:Str->Option Value)(x:Str)(u:Value):Prop :=
 (env.kindOf x=some .local/\m x=some u)\/((env.kindOf x=some .cell\/env.kindOf x=some .free)/\∃c,env.cells.lookup x=some c/\h.IsCell c (some u))
abbrev zS(X:Cx)(e:Expr)(es:List Expr):Prop:=starEach (e::es) X.env=(false,eval e X.env)::starEach es X.env
abbrev zP(X:Cx)(p:Pos)(es:List Expr):Prop:=(backTo p (starEach es X.env)).any (·.1)=false
abbrev zB(x:Str):Prop:=(x == ("__debug__":Str))=false
abbrev zF(X:Cx)(e:Expr):Prop:=∀x,foldedSetIterable e X.env x=pure x
abbrev zL(X:Cx)(x:Str):Prop:=X.fn x=true\/X.env.scope.names.lookup x=some .local
abbrev zW(X:Cx)(p:Pos)(es:List Expr):Prop:=((backTo p (starEach es X.env)).all (λx=>!x.1)&&(backToKw p (keywordEach [] X.env)).all (λx=>x.1.isSome)&&decide (es.length+([]:List Keyword).length+(if ([]:List Keyword).isEmpty then 0 else 1)<30))=true
def zQ{sc:Scope}{x:Str}(h:(sc.names.lookup x == some .local||sc.names.lookup x == some .cell)=true:=by rfl):Loc sc x:=(Bool.or_eq_true_iff.mp h).imp (λz=>eq_of_beq z) λz=>eq_of_beq z
structure Cx.Ok(X:Cx):Prop where
 mod:Mod X.K X.mg X.base
 kind:X.env.scope.kind=.function
 glob:X.env.globals=mainGlobals
 blt:X.env.builtins=builtinsNs
 above:X.s₀.heap.objs.size<=X.env.locals
 inj:∀x y c,X.env.cells.lookup x=some c->X.env.cells.lookup y=some c->x=y
 has:∀x,(X.env.kindOf x=some .cell\/X.env.kindOf x=some .free)->∃c,X.env.cells.lookup x=some c
 cab:∀x c,X.fn x=true->X.env.cells.lookup x=some c->X.s₀.heap.objs.size<=c
 hd:X.calm=true->X.A.handled=none
 frames:X.A.frames=some X.stack
 stk:X.stack=X.outer\/(X.stack=X.env::X.outer/\X.env.frame=some X.env.locals)
 exf:∀b∈X.ex,b≠X.env.locals/\∀x c,X.env.cells.lookup x=some c->c≠b
 bs:∀b o,X.base.get? b=some o->X.s₀.heap.get? b=some o/\X.H₀ b=none
 bsz:X.base.objs.size<=X.s₀.heap.objs.size
 noex:∀b o,X.base.get? b=some o->b∉X.ex
 exfs:∀b∈X.ex,b∉X.fs
 lB:X.s₀.heap.FunFrames X.base X.outer
 frf:∀b∈X.fs,X.H₀ b=none
 sof:∀q∈X.sf,X.A.handled=some (.ref q.1)/\X.H₀ q.1=some (.frz q.2.1 q.2.2)/\∃ws,q.2.1.data=.fields ws/\ws[2]?=some .none
structure Inv(X:Cx)(pins:List (Addr×Obj))(σ:List (Option V))(H:Hp)(s:Shared):Prop where
 ok:X.Ok
 os:s.os=X.s₀.os
 bare:AllBare s.gens
 base:Un X.fs X.ex X.H₀ H X.s₀.heap s.heap
 loc:∃m,s.heap.Ns X.env.locals m/\∀(i:Nat) (x:Str) (v:V),X.N[i]?=some x->σ[i]?=some (some v)->Vis X.env.scope x->∃u,RelV v u/\Look X.env s.heap m x u
 cell:∀x c,X.env.cells.lookup x=some c->∃v,s.heap.IsCell c v
 free:H X.env.locals=none
 freeC:∀x c,X.env.cells.lookup x=some c->H c=none
 pin:∀p∈X.pn++pins,s.heap.get? p.1=some p.2/\H p.1=none/\p.1≠X.env.locals/\p.1∉X.fs/\∀v,p.2.data≠.cell v
 hok:HOk X.prog X.w H s.heap
 len:σ.length=X.N.length
section
variable {X:Cx}{pins:List (Addr×Obj)}{σ:List (Option V)}{H H':Hp}{s:Shared}{h':Heap}
def Cx.Ok.Jg(ok:X.Ok){b:Addr}{o:Obj}(e:X.base.get? b=some o):b∉X.fs:=λhb=>by
 have:=(ok.lB.mem hb).1
 rw[e] at this;cases this
def Inv.bs(I:Inv X pins σ H s):∀b o,X.base.get? b=some o->s.heap.get? b=some o/\H b=none:=λb o e =>
 ⟨I.base.keep b o (I.ok.bs b o e).1 (I.ok.bs b o e).2 (I.ok.Jg e) (I.ok.noex b o e),I.base.free b o (I.ok.bs b o e).1 (I.ok.bs b o e).2 (I.ok.noex b o e)⟩
def Inv.bk(I:Inv X pins σ H s):∀b o,X.base.get? b=some o->s.heap.get? b=some o:=λb o e=>(I.bs b o e).1
def Inv.mod(I:Inv X pins σ H s):Mod X.K X.mg X.base:=I.ok.mod
def Inv.kIn(I:Inv X pins σ H s):X.K.In s.heap:=I.ok.mod.kin.keeps I.bk
def Inv.fr(I:Inv X pins σ H s):∃m,Fr X.base X.env.locals s.heap m :=
 let ⟨m,hn,_⟩:=I.loc
 ⟨m,hn,I.bk,ú I.ok.bsz I.ok.above⟩
def Inv.lt(I:Inv X pins σ H s):X.env.locals<s.heap.objs.size:=let ⟨_,hn,_⟩:=I.loc;hn.lt
def Inv.sz(I:Inv X pins σ H s):X.s₀.heap.objs.size<=s.heap.objs.size:=ú I.ok.above (Nat.le_of_lt I.lt)
def Inv.Jf(I:Inv X pins σ H s){a:Addr}(h:s.heap.objs.size<=a):a∉X.fs:=λhb=>by
 obtain⟨_,o,ho,_⟩:=I.ok.lB.mem hb
 exact absurd (Õ (Å ho) (ú I.sz h)) (ñ _)
def Inv.cne(I:Inv X pins σ H s):∀x c,X.env.cells.lookup x=some c->c≠X.env.locals:=λx c e z=>by
 obtain⟨v,o,ho,hd⟩:=I.cell x c e
 obtain⟨m,⟨o',es,ep,ho',hd',_⟩,_⟩:=I.loc
 rw[z,ho'] at ho;cases ho;rw[hd'] at hd;cases hd
def Inv.lB(I:Inv X pins σ H s):s.heap.FunFrames X.base X.outer:=by
 have all:∀(l:List Env),(∀b∈frs l,b∈X.fs)->X.s₀.heap.FunFrames X.base l->s.heap.FunFrames X.base l:=by
  intro l
  induction l with
  |nil=>intro _ _;trivial
  |cons env r ih =>
   intro hs hl
   obtain⟨hk,⟨L,o,hf,hn,ho,hd⟩,hr⟩:=hl
   have hL:L∈X.fs:=hs L (by unfold frs;rw[List.filterMap_cons,hf];exact Ô)
   obtain⟨sl,e⟩:=I.base.slot L o ho (I.ok.frf L hL) hL λz=>I.ok.exfs L z hL
   exact⟨hk,⟨L,_,hf,hn,e,hd⟩,ih (λb hb=>hs b (by unfold frs;rw[List.filterMap_cons,hf];exact Ð _ hb)) hr⟩
 exact all X.outer (λ_ hb=>hb) I.ok.lB
def Inv.stack(I:Inv X pins σ H s):s.heap.FunFrames X.base X.stack:=by
 rcases I.ok.stk with e|⟨e,hf⟩
 ·rw[e];exact I.lB
 ·rw[e]
  obtain⟨m,hn,_⟩:=I.loc
  refine .cons (by rw[I.ok.kind];decide) hf hn ?_ I.lB
  exact Heap.get?_none_of_le (ú I.ok.bsz I.ok.above)
def Inv.rA(I:Inv X pins σ H s):∀b∈frs X.stack,b∈X.env.locals::X.fs:=λb hb=>by
 rcases I.ok.stk with e|⟨e,hf⟩
 ·rw[e] at hb;exact Ð _ hb
 ·rw[e] at hb
  unfold frs at hb
  rw[List.filterMap_cons,hf] at hb
  exact hb
def Inv.tE(I:Inv X pins σ H s):∀b∈frs X.stack,H b=none:=λb hb=>by
 rcases Ï.mp (I.rA b hb) with e|hb
 ·rw[e];exact I.free
 ·obtain⟨_,o,ho,_⟩:=I.ok.lB.mem hb
  exact I.base.free b o ho (I.ok.frf b hb) λz=>I.ok.exfs b z hb
def Inv.step{g':Array GenState}{t':Nat}{d':Drawn}{ch:List Addr}(I:Inv X pins σ H s)(hch:∀b∈ch,(b∈X.ex\/X.s₀.heap.objs.size<=b)/\b≠X.env.locals/\(∀x c,X.env.cells.lookup x=some c->c≠b)/\∀p∈X.pn++pins,p.1≠b)(keep:∀b o,b≠X.env.locals->b∉X.fs->b∉ch->s.heap.get? b=some o->H b=none->h'.get? b=some o)(slot:∀b o,b≠X.env.locals->b∈X.fs->b∉ch->s.heap.get? b=some o->H b=none->∃sl,h'.get? b=some { o with slots:=sl })(free:∀b o,b∉ch->s.heap.get? b=some o->H b=none->H' b=none)(there:∀b o,b∉ch->s.heap.get? b=some o->∃o',h'.get? b=some o')(tups:∀b xs,H b=some (.tup xs)->H' b=some (.tup xs))(frzs:∀b o u,H b=some (.frz o u)->H' b=some (.frz o u))(tbls:∀b ps,H b=some (.tbl ps)->∃more,H' b=some (.tbl (ps++more)))(ns:∀m,s.heap.Ns X.env.locals m->h'.Ns X.env.locals m)(hok:HOk X.prog X.w H' h')(hg:AllBare g') :
  Inv X pins σ H' { s with heap:=h',gens:=g',drawn:=d',toks:=t' }:=by
 have neL:∀b o,X.s₀.heap.get? b=some o->b≠X.env.locals:=λb o e=>Ö (Õ (Å e) I.ok.above)
 have neC:∀b o,X.s₀.heap.get? b=some o->b∉X.ex->b∉ch:=λb o e hx hb=>by
  rcases(hch b hb).1 with z|z
  ·exact hx z
  ·exact absurd (Õ (Å e) z) (ñ _)
 have cellK:∀x c,X.env.cells.lookup x=some c->∀v,s.heap.IsCell c v->h'.IsCell c v:=λx c e v ⟨o,ho,hd⟩=>by
  have nch:c∉ch:=λz=>(hch c z).2.2.1 x c e rfl
  by_cases hc:c∈X.fs
  ·obtain⟨sl,q⟩:=slot c o (I.cne x c e) hc nch ho (I.freeC x c e)
   exact⟨_,q,hd⟩
  ·exact⟨o,keep c o (I.cne x c e) hc nch ho (I.freeC x c e),hd⟩
 refine⟨I.ok,I.os,hg,⟨λb o e n hb hx=>?_,λb o e n hb hx=>?_,λb o e n hx=>?_,λb o e hx=>?_,λb xs e=>tups b xs (I.base.tups b xs e),λb o xs e=>frzs b o xs (I.base.frzs b o xs e),λb ps e=>?_⟩,?_,λx c e=>?_,?_,λx c e=>?_,λp hp=>?_,hok,I.len⟩
 ·exact keep b o (neL b o e) hb (neC b o e hx) (I.base.keep b o e n hb hx) (I.base.free b o e n hx)
 ·obtain⟨sl,e1⟩:=I.base.slot b o e n hb hx
  obtain⟨sl',e2⟩:=slot b _ (neL b o e) hb (neC b o e hx) e1 (I.base.free b o e n hx)
  exact⟨sl',e2⟩
 ·obtain⟨o',e1⟩:=I.base.there b o e hx
  exact free b o' (neC b o e hx) e1 (I.base.free b o e n hx)
 ·obtain⟨o',e1⟩:=I.base.there b o e hx
  exact there b o' (neC b o e hx) e1
 ·obtain⟨m1,e1⟩:=I.base.tbls b ps e
  obtain⟨m2,e2⟩:=tbls b _ e1
  exact⟨m1++m2,by rw[e2,Array.append_assoc]⟩
 ·obtain⟨m,hn,hl⟩:=I.loc
  refine⟨m,ns m hn,λi x v e1 e2 e3=>?_⟩
  obtain⟨u,r,l⟩:=hl i x v e1 e2 e3
  refine⟨u,r,?_⟩
  rcases l with l|⟨k,c,e,z⟩
  ·exact .inl l
  ·exact .inr ⟨k,c,e,cellK x c e _ z⟩
 ·obtain⟨v,z⟩:=I.cell x c e
  exact⟨v,cellK x c e v z⟩
 ·obtain⟨m,⟨o,_,_,ho,_⟩,_⟩:=I.loc
  exact free _ o (λz=>(hch _ z).2.1 rfl) ho I.free
 ·obtain⟨v,o,ho,hd⟩:=I.cell x c e
  exact free c o (λz=>(hch c z).2.2.1 x c e rfl) ho (I.freeC x c e)
 ·obtain⟨e,n,ne,nf,d⟩:=I.pin p hp
  have nch:p.1∉ch:=λz=>(hch p.1 z).2.2.2 p hp rfl
  exact⟨keep p.1 p.2 ne nf nch e n,free p.1 p.2 nch e n,ne,nf,d⟩
def Inv.un{t':Nat}(I:Inv X pins σ H s)(u:Un X.fs [] H H' s.heap h')(hok:HOk X.prog X.w H' h'):Inv X pins σ H' { s with heap:=h',toks:=t' }:=by
 obtain⟨m,⟨o,es,ep,ho,r⟩,_⟩:=id I.loc
 obtain⟨sl,hL⟩:=u.any ho I.free (by simp)
 exact I.step (g':=s.gens) (d':=s.drawn) (ch:=[]) (λ_ z=>nomatch z) (λb o _ hb _ e n=>u.keep b o e n hb (by simp)) (λb o _ hb _ e n=>u.slot b o e n hb (by simp)) (λb o _ e n=>u.free b o e n (by simp)) (λb o _ e=>u.there b o e (by simp)) u.tups u.frzs u.tbls (λm' hm=>by
  obtain⟨o',es',ep',ho',r'⟩:=hm
  rw[ho] at ho';cases ho'
  exact⟨_,es',ep',hL,r'⟩) hok I.bare
def Inv.call{g':Array GenState}{t':Nat}{d':Drawn}{ch:List Addr}(I:Inv X pins σ H s)(u:Un (frs X.stack) ch H H' s.heap h')(hok:HOk X.prog X.w H' h')(hg:AllBare g')(hch:∀b∈ch,(b∈X.ex\/X.s₀.heap.objs.size<=b)/\b≠X.env.locals/\(∀x c,X.env.cells.lookup x=some c->c≠b)/\∀p∈X.pn++pins,p.1≠b) :
  Inv X pins σ H' { s with heap:=h',gens:=g',drawn:=d',toks:=t' }:=by
 obtain⟨m,⟨o,es,ep,ho,r⟩,_⟩:=id I.loc
 obtain⟨sl,hL⟩:=u.any ho I.free λz=>(hch _ z).2.1 rfl
 exact I.step (ch:=ch) hch (λb o hL hb hc e n=>u.keep b o e n (λz=>(Ï.mp (I.rA b z)).elim hL hb) hc) (λb o _ _ hc e n=>u.any e n hc) (λb o hc e n=>u.free b o e n hc) (λb o hc e=>u.there b o e hc) u.tups u.frzs u.tbls (λm' hm=>by
  obtain⟨o',es',ep',ho',r'⟩:=hm
  rw[ho] at ho';cases ho'
  exact⟨_,es',ep',hL,r'⟩) hok hg
def Inv.turned{t':Nat}{it:Addr}(I:Inv X pins σ H s)(k:∀b o,b≠it->s.heap.get? b=some o->h'.get? b=some o)(hn:H it=none)(hL:it≠X.env.locals)(h1:it∈X.ex\/X.s₀.heap.objs.size<=it)(h2:∀x c,X.env.cells.lookup x=some c->c≠it)(h3:∀p∈X.pn++pins,p.1≠it):Inv X pins σ H { s with heap:=h',toks:=t' }:=by
 have nit:∀b u,H b=some u->b≠it:=λb u e z=>by rw[z,hn] at e;cases e
 refine I.step (g':=s.gens) (d':=s.drawn) (ch:=[it]) (λb hb=>?_) (λb o _ _ hc e _=>k b o (λz=>hc (by simp[z])) e) (λb o _ _ hc e _=>⟨o.slots,k b o (λz=>hc (by simp[z])) e⟩) (λ_ _ _ _ n=>n)
  (λb o hc e=>⟨o,k b o (λz=>hc (by simp[z])) e⟩) (λ_ _ e=>e) (λ_ _ _ e=>e) (λb ps e=>⟨#[],by rw[e];simp⟩) (λm hm=>?_) (λb u e=>?_) I.bare
 ·have e:b=it:=by simpa using hb
  subst e
  exact⟨h1,hL,h2,h3⟩
 ·obtain⟨o,es,ep,ho,r⟩:=hm
  exact⟨o,es,ep,k _ o (è hL) ho,r⟩
 ·refine(I.hok b u e).stay (λc v hc q=>k c v ?_ q) (λ_ q=>q) λ_ _ q=>q
  rcases hc with z|z
  ·rw[z];exact nit b u e
  ·exact nit c _ z
def Inv.tok(I:Inv X pins σ H s)(t:Nat):Inv X pins σ H { s with toks:=t }:=I.un (h':=s.heap) (t':=t) Un.refl I.hok
def Inv.kept{t':Nat}(I:Inv X pins σ H s)(k:∀b u,s.heap.get? b=some u->h'.get? b=some u):Inv X pins σ H { s with heap:=h',toks:=t' }:=I.un (Un.kept k) (I.hok.kept k)
def Inv.laid{a:Addr}{o:HO}{t':Nat}(I:Inv X pins σ H s)(k:∀b u,s.heap.get? b=some u->h'.get? b=some u)(hp:s.heap.objs.size<=a)(new:aF X.prog X.w (upd H a o) h' a o) :
  Inv X pins σ (upd H a o) { s with heap:=h',toks:=t' }:=I.un (Un.laid k hp (I.hok.fresh hp)) (I.hok.laid k hp new)
def Inv.write{x e:Addr}{o:HO}{t':Nat}(I:Inv X pins σ H s)(mu:Mut (H x))(he:e=x\/H e=some (.own x))(k:∀b u,b≠e->s.heap.get? b=some u->h'.get? b=some u)(heo:∃u,h'.get? e=some u)(new:aF X.prog X.w (upd H x o) h' x o):Inv X pins σ (upd H x o) { s with heap:=h',toks:=t' }:=I.un (Un.write mu he k heo) (I.hok.write mu he k heo new)
def Inv.jC{pins':List (Addr×Obj)}(I:Inv X pins σ H s)(h:∀p∈pins',s.heap.get? p.1=some p.2/\H p.1=none/\p.1≠X.env.locals/\p.1∉X.fs/\∀v,p.2.data≠.cell v):Inv X pins' σ H s :=
 ⟨I.ok,I.os,I.bare,I.base,I.loc,I.cell,I.free,I.freeC,λp hp=>(õ.mp hp).elim (λz=>I.pin p (ł _ z)) (h p),I.hok,I.len⟩
def yx{N:List Str}(hN:N.Nodup){i j:Nat}{x:Str}(a:N[i]?=some x)(b:N[j]?=some x):i=j:=by
 obtain⟨h1,e1⟩:=Ñ.mp a
 obtain⟨h2,e2⟩:=Ñ.mp b
 exact(List.getElem_inj hN).mp (e1.trans e2.symm)
def uN{M:Model}{A:Around}{E:Value->Shared->Prop}{i:Nat}{x:Str}{v:V}{u:Value}{Q:Unit->Shared->Prop}(I:Inv X pins σ H s)(hU:∀j,X.N[j]?=some x->j=i)(hi:X.N[i]?=some x)(hx:Loc X.env.scope x)(r:RelV v u)(h:∀s',Inv X pins (σ.set i (some v)) H s'->(∃a,Ů a s.heap s'.heap/\(a=X.env.locals\/X.env.cells.lookup x=some a))->Q () s')(hf:X.fn x=true\/X.env.scope.names.lookup x=some .local:=by first|exact .inl rfl|exact .inr rfl|assumption):wpAny M A (storeName X.env x u) Q E s:=by
 obtain⟨m,hn,hl⟩:=id I.loc
 have hcls:(X.env.scope.kind == .class || (X.env.scope.kind == .module&&X.env.locals != X.env.globals))=false:=by rw[I.ok.kind];rfl
 have hiσ:i<σ.length:=by rw[I.len];exact(Ñ.mp hi).1
 have cne:=I.cne
 have tracked:∀{a:Addr}{h':Heap},(∃o,s.heap.get? a=some o/\H a=none)->Ů a s.heap h'->HOk X.prog X.w H h':=λ{a h'} ha hs b ob e=>by
  obtain⟨_,_,hfree⟩:=ha
  refine(I.hok b ob e).stay (λc w' hc q=>(hs.2 c ?_).trans q) (λ_ q=>q) λ_ _ q=>q
  rintro rfl
  rcases hc with rfl|hc
  ·rw[hfree] at e;cases e
  ·rw[hfree] at hc;cases hc
 rcases hx with hk|hk
 ·refine wpAny_storeName_local hk hn (λh' hn' hs=>?_) hcls
  obtain⟨oL,_,_,hoL,_⟩:=id hn
  refine h _ ⟨I.ok,I.os,I.bare,⟨λb o e n hb hx=>?_,λb o e n hb hx=>?_,I.base.free,λb o e hx=>?_,I.base.tups,I.base.frzs,I.base.tbls⟩,⟨_,hn',λj y v' e1 e2 e3=>?_⟩,λy c e=>?_,I.free,I.freeC,λp hp=>?_,tracked ⟨oL,hoL,I.free⟩ hs,by simpa using I.len⟩ ⟨_,hs,.inl rfl⟩
  ·exact(hs.2 b (Ö (Õ (Å e) I.ok.above))).trans (I.base.keep b o e n hb hx)
  ·obtain⟨sl,e1⟩:=I.base.slot b o e n hb hx
   exact⟨sl,(hs.2 b (Ö (Õ (Å e) I.ok.above))).trans e1⟩
  ·obtain⟨o',e1⟩:=I.base.there b o e hx
   exact⟨o',(hs.2 b (Ö (Õ (Å e) I.ok.above))).trans e1⟩
  ·by_cases hj:j=i
   ·subst hj
    rw[hi] at e1;cases e1
    rw[ö hiσ] at e2
    cases e2
    exact⟨u,r,.inl ⟨hk,by simp⟩⟩
   ·rw[ĩ (è hj)] at e2
    obtain⟨u',r',q⟩:=hl j y v' e1 e2 e3
    refine⟨u',r',?_⟩
    rcases q with ⟨k,e⟩|⟨k,c,e,z⟩
    ·refine .inl ⟨k,?_⟩
     have:y≠x:=λe=>hj (hU _ (e ▸ e1))
     simp[this,e]
    ·exact .inr ⟨k,c,e,z.sameBut hs (cne y c e)⟩
  ·obtain⟨w',z⟩:=I.cell y c e
   exact⟨w',z.sameBut hs (cne y c e)⟩
  ·obtain⟨e,n,ne,nf,d⟩:=I.pin p hp
   exact⟨(hs.2 p.1 ne).trans e,n,ne,nf,d⟩
 ·have hfn:X.fn x=true:=by
   rcases hf with z|z
   ·exact z
   ·rw[z] at hk;cases hk
  obtain⟨c,hc⟩:=I.ok.has x (.inl hk)
  obtain⟨w',z⟩:=I.cell x c hc
  refine wpAny_storeName_cell I.ok.kind hk hc z (λh' hc' hs=>?_)
  obtain⟨oc,hoc,hocd⟩:=id z
  refine h { s with heap:=h' } ⟨I.ok,I.os,I.bare,⟨λb o e n hb hx=>?_,λb o e n hb hx=>?_,I.base.free,λb o e hx=>?_,I.base.tups,I.base.frzs,I.base.tbls⟩,⟨m,hn.sameBut hs (è (cne x c hc)),λj y v' e1 e2 e3=>?_⟩,λy c' e=>?_,I.free,I.freeC,λp hp=>?_,tracked ⟨oc,hoc,I.freeC x c hc⟩ hs,by simpa using I.len⟩ ⟨c,hs,.inr hc⟩
  ·exact(hs.2 b (Ö (Õ (Å e) (I.ok.cab x c hfn hc)))).trans (I.base.keep b o e n hb hx)
  ·obtain⟨sl,e1⟩:=I.base.slot b o e n hb hx
   exact⟨sl,(hs.2 b (Ö (Õ (Å e) (I.ok.cab x c hfn hc)))).trans e1⟩
  ·obtain⟨o',e1⟩:=I.base.there b o e hx
   exact⟨o',(hs.2 b (Ö (Õ (Å e) (I.ok.cab x c hfn hc)))).trans e1⟩
  ·by_cases hj:j=i
   ·subst hj
    rw[hi] at e1;cases e1
    rw[ö hiσ] at e2
    cases e2
    exact⟨u,r,.inr ⟨.inl hk,c,hc,hc'⟩⟩
   ·rw[ĩ (è hj)] at e2
    obtain⟨u',r',q⟩:=hl j y v' e1 e2 e3
    refine⟨u',r',?_⟩
    rcases q with q|⟨k,c',e,z'⟩
    ·exact .inl q
    ·refine .inr ⟨k,c',e,z'.sameBut hs ?_⟩
     rintro rfl
     exact hj (hU _ (I.ok.inj _ _ _ e hc ▸ e1))
  ·by_cases hcc:c'=c
   ·subst hcc;exact⟨_,hc'⟩
   ·obtain⟨w2,z2⟩:=I.cell y c' e
    exact⟨w2,z2.sameBut hs hcc⟩
  ·obtain⟨e,n,ne,nf,d⟩:=I.pin p hp
   refine⟨(hs.2 p.1 ?_).trans e,n,ne,nf,d⟩
   intro q
   rw[q,hoc] at e
   have q':oc=p.2:=Ì e
   exact d w' (by rw[←q'];exact hocd)
def pZ{M:Model}{A:Around}{E:Value->Shared->Prop}{i:Nat}{x:Str}{v:V}{u:Value}{Q:Unit->Shared->Prop}(I:Inv X pins σ H s)(hN:X.N.Nodup)(hi:X.N[i]?=some x)(hx:Loc X.env.scope x)(r:RelV v u)(h:∀s',Inv X pins (σ.set i (some v)) H s'->Q () s')(hf:X.fn x=true\/X.env.scope.names.lookup x=some .local:=by first|exact .inl rfl|exact .inr rfl|assumption):wpAny M A (storeName X.env x u) Q E s :=
 uN I (λj h=>yx hN h hi) hi hx r (λs' I' _=>h s' I') hf
def Inv.call'{s':Shared}{ch:List Addr}(I:Inv X pins σ H s)(ho:s'.os=s.os)(u:Un (frs X.stack) ch H H' s.heap s'.heap)(hok:HOk X.prog X.w H' s'.heap)(hg:AllBare s'.gens)(hch:∀b∈ch,(b∈X.ex\/X.s₀.heap.objs.size<=b)/\b≠X.env.locals/\(∀x c,X.env.cells.lookup x=some c->c≠b)/\∀p∈X.pn++pins,p.1≠b):Inv X pins σ H' s':=by
 obtain⟨h',g',d',t',o'⟩:=s'
 have e:o'=s.os:=ho
 subst e
 exact I.call (g':=g') (t':=t') (d':=d') u hok hg hch
end
abbrev XK:=Value->Option Addr->Hp->Prop
abbrev St:=List (Option V)
abbrev VK:=V->Hp->Prop
abbrev TE:=St->Hp->VK->Prop
abbrev TT:=St->Hp->(Bool->Hp->Prop)->Prop
abbrev TA:=St->Hp->(List V->Hp->Prop)->Prop
structure Ends where
 nx:St->Hp->Prop
 rt:VK
 bk:St->Hp->Prop:=λ_ _=>False
 ct:St->Hp->Prop:=λ_ _=>False
abbrev TS:=Ends->St->Hp->Prop
def EP(X:Cx)(pins:List (Addr×Obj))(σ:St)(Q:VK)(u:Value)(s':Shared):Prop:=∃v H',Inv X pins σ H' s'/\RelV v u/\Q v H'
def TP(X:Cx)(pins:List (Addr×Obj))(σ:St)(Q:Bool->Hp->Prop)(b:Bool)(s':Shared):Prop:=∃H',Inv X pins σ H' s'/\Q b H'
def AP(X:Cx)(pins:List (Addr×Obj))(σ:St)(Q:List V->Hp->Prop)(us:List Value)(s':Shared):Prop:=∃vs H',Inv X pins σ H' s'/\Vals vs us/\Q vs H'
def SP(X:Cx)(pins:List (Addr×Obj))(D:Ends)(f:Flow)(s':Shared):Prop :=
 match f with
 |.next=>∃σ' H',Inv X pins σ' H' s'/\D.nx σ' H'
 |.brk=>∃σ' H',Inv X pins σ' H' s'/\D.bk σ' H'
 |.cont=>∃σ' H',Inv X pins σ' H' s'/\D.ct σ' H'
 |.ret u=>∃v σ' H',Inv X pins σ' H' s'/\RelV v u/\D.rt v H'
def PE(X:Cx)(e:Expr)(t:TE):Prop :=
 ∀(pins:List (Addr×Obj)) (s:Shared) (σ:St) (H:Hp) (Q:VK),Inv X pins σ H s->t σ H Q->wpAny (model X.prog X.w) X.A (eval e X.env) (EP X pins σ Q) X.xe s
def PT(X:Cx)(e:Expr)(t:TT):Prop :=
 ∀(pins:List (Addr×Obj)) (s:Shared) (σ:St) (H:Hp) (Q:Bool->Hp->Prop),Inv X pins σ H s->t σ H Q->wpAny (model X.prog X.w) X.A (isTrue e X.env (eval e X.env)) (TP X pins σ Q) X.xe s
def PW(X:Cx)(e:Expr)(t:TT):Prop :=
 ∀(whole:Sem Value) (pins:List (Addr×Obj)) (s:Shared) (σ:St) (H:Hp) (Q:Bool->Hp->Prop),Inv X pins σ H s->t σ H Q->wpAny (model X.prog X.w) X.A (isTrue e X.env whole) (TP X pins σ Q) X.xe s
def PW.pt{X:Cx}{e:Expr}{t:TT}(h:PW X e t):PT X e t:=h _
def PA(X:Cx)(es:List Expr)(t:TA):Prop :=
 ∀(pos:Pos) (pins:List (Addr×Obj)) (s:Shared) (σ:St) (H:Hp) (Q:List V->Hp->Prop),Inv X pins σ H s->t σ H Q->wpAny (model X.prog X.w) X.A (spliced (backTo pos (starEach es X.env))) (AP X pins σ Q) X.xe s
def PS(X:Cx)(st:Stmt)(t:TS):Prop :=
 ∀(pins:List (Addr×Obj)) (s:Shared) (σ:St) (H:Hp) (D:Ends),Inv X pins σ H s->t D σ H->wpAny (model X.prog X.w) X.A (exec st X.env) (SP X pins D) X.xe s
def PSs(X:Cx)(st:List Stmt)(t:TS):Prop :=
 ∀(pins:List (Addr×Obj)) (s:Shared) (σ:St) (H:Hp) (D:Ends),Inv X pins σ H s->t D σ H->wpAny (model X.prog X.w) X.A (execs st X.env) (SP X pins D) X.xe s
def thn{α:Type}{t:Sem α}{Q Q':α->Shared->Prop}{M:Model}{A:Around}{E:Value->Shared->Prop}{s:Shared}(h:wpAny M A t Q E s)(hQ:∀a s,Q a s->Q' a s):wpAny M A t Q' E s:=Ħ h hQ λ_ _ x=>x
section
variable {X:Cx}
def bin{a b:Expr}{ta tb:TE}(ha:PE X a ta)(hb:PE X b tb){pins:List (Addr×Obj)}{s:Shared}{σ:St}{H:Hp}{R:V->V->Hp->Prop}(I:Inv X pins σ H s)(h:ta σ H λx H1=>tb σ H1 λy H2=>R x y H2){α:Type}{Q:α->Shared->Prop}{f:Value->Value->Sem α}(hf:∀v u s2 x y H2,Inv X pins σ H2 s2->RelV x v->RelV y u->R x y H2->wpAny (model X.prog X.w) X.A (f v u) Q X.xe s2) :
  wpAny (model X.prog X.w) X.A (eval a X.env) (λv s₁=>wpAny (model X.prog X.w) X.A (eval b X.env) (λu s₂=>wpAny (model X.prog X.w) X.A (f v u) Q X.xe s₂) X.xe s₁) X.xe s:=by
 refine thn (ha pins s σ H _ I h) λv s1 ⟨x,H1,I1,r1,q1⟩=>?_
 refine thn (hb pins s1 σ H1 _ I1 q1) λu s2 ⟨y,H2,I2,r2,q2⟩=>?_
 exact hf v u s2 x y H2 I2 r1 r2 q2
def lV(i:Nat):TE:=λσ H Q=>∃v,σ[i]?=some (some v)/\Q v H
def tC(v:V):TE:=λ_ H Q=>Q v H
def Dy{i:Nat}{x:Str}{pos:Pos}(hN:X.N[i]?=some x)(hv:Vis X.env.scope x)(hd:(x == ("__debug__":Str))=false:=by decide)(hcd:(x == ("__classdict__":Str))=false:=by decide):PE X (.Name x pos) (lV i):=by
 intro pins s σ H Q I h
 obtain⟨v,e,h⟩:=h
 obtain⟨m,hn,hl⟩:=I.loc
 obtain⟨u,r,l⟩:=hl i x v hN e hv
 have fin:EP X pins σ Q u s:=⟨v,H,I,r,h⟩
 rcases l with ⟨hk,hm⟩|⟨hk,c,hc,hcell⟩
 ·exact wpAny_Name (wpAny_loadName_local I.ok.kind hk hn hm fin) hd
 ·rcases hk with hk|hk
  ·exact wpAny_Name (wpAny_loadName_cell I.ok.kind hk hc hcell fin) hd
  ·exact wpAny_Name (wpAny_loadName_free I.ok.kind hk hc hcell fin hcd) hd
def xT{i j pos}:PE X (.Constant (.int i) j pos) (tC (.int i)):=λ_ _ _ H _ I h=>wpAny_Constant_int ⟨.int i,H,I.tok _,⟨_,rfl⟩,h⟩
def G5{b j pos}:PE X (.Constant (.bool b) j pos) (tC (.bl b)):=λ_ _ _ H _ I h=>Constant_bool ⟨.bl b,H,I,rfl,h⟩
def DP{j pos}:PE X (.Constant .none j pos) (tC .non):=λ_ _ _ H _ I h=>Constant_none ⟨.non,H,I,rfl,h⟩
def rF{x j pos}:PE X (.Constant (.str x) j pos) (tC (.str x)):=λ_ _ _ H _ I h=>Calls.Constant_str ⟨.str x,H,I.tok _,⟨_,rfl⟩,h⟩
def Gl(X:Cx)(x:Str):Prop:=X.env.kindOf x=some .globalImplicit
def ug{E:Value->Shared->Prop}{pins:List (Addr×Obj)}{s:Shared}{σ:St}{H:Hp}{x:Str}{u:Value}{pos:Pos}{Q:Value->Shared->Prop}(I:Inv X pins σ H s)(hg:Gl X x)(hm:X.mg x=some u)(h:Q u s)(hd:(x == ("__debug__":Str))=false:=by decide):wpAny (model X.prog X.w) X.A (eval (.Name x pos) X.env) Q E s :=
 Calls.Name_function_global I.ok.kind hg (Calls.loadGlobal_global (by rw[I.ok.glob];exact I.mod.glob.keeps I.bk) hm h) hd
def iQ{E:Value->Shared->Prop}{pins:List (Addr×Obj)}{s:Shared}{σ:St}{H:Hp}{x:Str}{u:Value}{pos:Pos}{Q:Value->Shared->Prop}(I:Inv X pins σ H s)(hg:Gl X x)(hm:X.mg x=none)(hv:bootBuiltins x=some u)(h:Q u s)(hn:x≠"__name__":=by decide)(hd:(x == ("__debug__":Str))=false:=by decide):wpAny (model X.prog X.w) X.A (eval (.Name x pos) X.env) Q E s:=by
 obtain⟨mb,h1,h2⟩:=I.mod.blt
 exact Calls.Name_function_global I.ok.kind hg (Calls.loadGlobal_builtin (by rw[I.ok.glob];exact I.mod.glob.keeps I.bk) hm (by rw[I.ok.blt];exact h1.keeps I.bk) ((h2 x hn).trans hv) h) hd
def tX{x:Str}{v:V}{u:Value}{pos:Pos}(hg:Gl X x)(hm:X.mg x=some u)(r:RelV v u)(hd:(x == ("__debug__":Str))=false:=by decide):PE X (.Name x pos) (tC v) :=
 λ_ _ _ H _ I h=>ug I hg hm ⟨v,H,I,r,h⟩ hd
def nR{x:Str}{v:V}{u:Value}{pos:Pos}(hg:Gl X x)(hm:X.mg x=none)(hv:bootBuiltins x=some u)(r:RelV v u)(hn:x≠"__name__":=by decide)(hd:(x == ("__debug__":Str))=false:=by decide):PE X (.Name x pos) (tC v) :=
 λ_ _ _ H _ I h=>iQ I hg hm hv ⟨v,H,I,r,h⟩ hn hd
variable {a b:Expr}{ta tb:TE}{pos:Pos}
def PC(X:Cx)(op:CmpOp)(a b:Expr)(t:TE):Prop :=
 ∀(pins:List (Addr×Obj)) (s:Shared) (σ:St) (H:Hp) (Q:VK),Inv X pins σ H s->t σ H Q ->
  wpAny (model X.prog X.w) X.A (eval a X.env) (λv s₁=>wpAny (model X.prog X.w) X.A (eval b X.env) (λu s₂=>wpAny (model X.prog X.w) X.A (compareOp op v u) (EP X pins σ Q) X.xe s₂) X.xe s₁) X.xe s
def tB(t:TE):TT:=λσ H Q=>t σ H λx H1=>∃c,x=.bl c/\Q c H1
def Ja{op:CmpOp}{t:TE}(h:PC X op a b t)(h1:behindInMarks op b=false:=by first|exact nobehind _ (by decide) (by decide)|rfl):PT X (.Compare a [op] [b] pos) (tB t):=by
 intro pins s σ H Q I hw
 refine wpAny_isTrue_Compare1 (thn (h pins s σ H _ I hw) λv s1 h1=>thn h1 λu s2 h2=>thn h2 λc s3 ⟨x,H1,I1,r1,q1⟩=>?_) h1
 obtain⟨d,rfl,q⟩:=q1
 cases r1
 exact ÿ ⟨H1,I1,q⟩
def Dq{e:Expr}{t:TE}(h:PE X e t)(he:∀whole,isTrue e X.env whole=(do let v ←whole;standAt e.pos;holding [v] (truthy v)):=by intro _;rfl):PT X e (tB t):=by
 intro pins s σ H Q I hw
 refine isTrue_plain (thn (h pins s σ H _ I hw) λv s1 ⟨x,H1,I1,r1,q1⟩=>?_) (he _)
 obtain⟨d,rfl,q⟩:=q1
 cases r1
 exact ÿ ⟨H1,I1,q⟩
variable {tA tB':TT}{rest:List Expr}
def Iu(t u:TT):TT:=λσ H Q=>t σ H λc H1=>if c=true then u σ H1 Q else Q false H1
def tOr(t u:TT):TT:=λσ H Q=>t σ H λc H1=>if c=true then Q true H1 else u σ H1 Q
def Im(t:TT):TT:=λσ H Q=>t σ H λc H1=>Q (!c) H1
def Aq(ha:PT X a tA):PW X (.BoolOp .And [a] pos) tA:=by
 intro wh pins s σ H Q I h
 refine isTrue_and (thn (ha pins s σ H Q I h) λc s1 e=>?_)
 cases c with
 |true=>exact isTrue_and_nil e
 |false=>exact e
def Dm(ha:PT X a tA):PW X (.BoolOp .Or [a] pos) tA:=by
 intro wh pins s σ H Q I h
 refine isTrue_or (thn (ha pins s σ H Q I h) λc s1 e=>?_)
 cases c with
 |false=>exact isTrue_or_nil e
 |true=>exact e
def Dp(ha:PT X a tA)(hb:PW X (.BoolOp .And (b::rest) pos) tB'):PW X (.BoolOp .And (a::b::rest) pos) (Iu tA tB'):=by
 intro wh pins s σ H Q I h
 refine isTrue_and (thn (ha pins s σ H _ I h) λc s1 ⟨H1,I1,q1⟩=>?_)
 cases c with
 |true=>exact hb wh pins s1 σ H1 Q I1 q1
 |false=>exact⟨H1,I1,q1⟩
def GQ(ha:PT X a tA)(hb:PW X (.BoolOp .Or (b::rest) pos) tB'):PW X (.BoolOp .Or (a::b::rest) pos) (tOr tA tB'):=by
 intro wh pins s σ H Q I h
 refine isTrue_or (thn (ha pins s σ H _ I h) λc s1 ⟨H1,I1,q1⟩=>?_)
 cases c with
 |true=>exact⟨H1,I1,q1⟩
 |false=>exact hb wh pins s1 σ H1 Q I1 q1
def Dr(ha:PT X a tA):PT X (.UnaryOp .Not a pos) (Im tA):=by
 intro pins s σ H Q I h
 exact isTrue_not (ha pins s σ H (λc H1=>Q (!c) H1) I h)
def Gx(ta tb:TE):TE:=λσ H Q=>ta σ H λx H1=>∃c,x=.bl c/\if c=true then tb σ H1 Q else Q (.bl false) H1
def Il(ta tb:TE):TE:=λσ H Q=>ta σ H λx H1=>∃c,x=.bl c/\if c=true then Q (.bl true) H1 else tb σ H1 Q
def Gm(ta:TE):TE:=λσ H Q=>ta σ H λx H1=>∃c,x=.bl c/\Q (.bl (!c)) H1
def Dz{op}{t:TE}(h:PE X a t):PE X (.BoolOp op [a] pos) t:=λpins s σ H Q I hw=>BoolOp_one (h pins s σ H Q I hw)
def DW(ha:PE X a ta)(hb:PE X (.BoolOp .And (b::rest) pos) tb):PE X (.BoolOp .And (a::b::rest) pos) (Gx ta tb):=by
 intro pins s σ H Q I h
 refine BoolOp_and (thn (ha pins s σ H _ I h) λv s1 ⟨x,H1,I1,r1,q1⟩=>?_)
 obtain⟨c,rfl,q1⟩:=q1
 cases r1
 refine ÿ ?_
 cases c with
 |true=>exact hb pins s1 σ H1 Q I1 q1
 |false=>exact⟨.bl false,H1,I1,rfl,q1⟩
def GZ(ha:PE X a ta)(hb:PE X (.BoolOp .Or (b::rest) pos) tb):PE X (.BoolOp .Or (a::b::rest) pos) (Il ta tb):=by
 intro pins s σ H Q I h
 refine BoolOp_or (thn (ha pins s σ H _ I h) λv s1 ⟨x,H1,I1,r1,q1⟩=>?_)
 obtain⟨c,rfl,q1⟩:=q1
 cases r1
 refine ÿ ?_
 cases c with
 |false=>exact hb pins s1 σ H1 Q I1 q1
 |true=>exact⟨.bl true,H1,I1,rfl,q1⟩
def DN(ha:PE X a ta):PE X (.UnaryOp .Not a pos) (Gm ta):=by
 intro pins s σ H Q I h
 refine UnaryOp_ (thn (ha pins s σ H _ I h) λv s1 ⟨x,H1,I1,r1,q1⟩=>?_)
 obtain⟨c,rfl,q1⟩:=q1
 cases r1
 exact not_of (ÿ ⟨.bl (!c),H1,I1,rfl,q1⟩)
def tIf(t:TT)(ta tb:TE):TE:=λσ H Q=>t σ H λc H1=>if c=true then ta σ H1 Q else tb σ H1 Q
def xU{c:Expr}(hc:PT X c tA)(ha:PE X a ta)(hb:PE X b tb):PE X (.IfExp c a b pos) (tIf tA ta tb):=by
 intro pins s σ H Q I h
 refine wpAny_IfExp (thn (hc pins s σ H _ I h) λd s1 ⟨H1,I1,q1⟩=>?_)
 cases d with
 |true=>exact ha pins s1 σ H1 Q I1 q1
 |false=>exact hb pins s1 σ H1 Q I1 q1
end
def SqL(K:Í)(H:Hp)(a:Addr)(xs:List V):Prop :=
 Rd H a (.lst xs) ∨
  ∃(o:Obj) (its:Array Value) (n:Nat),K.lookup a=some o/\o.cls=.type "list"/\o.dict=none/\o.data=.seq its n/\its.size<=sizeLine/\Vals xs its.toList
def SqT(K:Í)(H:Hp)(a:Addr)(xs:List V):Prop :=
 Rd H a (.tup xs) ∨
  ∃(o:Obj) (its:Array Value) (n:Nat),K.lookup a=some o/\o.cls=.type "tuple"/\o.data=.seq its n/\its.size<=sizeLine/\Vals xs its.toList
def Jr:Value->Option V
 |.none=>some .non
 |.bool b=>some (.bl b)
 |.int i _=>some (.int i)
 |.str x _=>some (.str x)
 |.bytes b _=>some (.byt b)
 |.float b _=>some (.flt b)
 |.ref a=>some (.ref a)
 |.type n=>some (.ty n)
 |_=>none
def RelV.abs{x:V}{u:Value}(r:RelV x u):Jr u=some x:=by
 cases x with
 |non=>cases r;rfl
 |bl _=>cases r;rfl
 |int _=>obtain⟨t,rfl⟩:=r;rfl
 |str _=>obtain⟨t,rfl⟩:=r;rfl
 |byt _=>obtain⟨t,rfl⟩:=r;rfl
 |flt _=>obtain⟨t,rfl⟩:=r;rfl
 |ref _=>cases r;rfl
 |ty _=>cases r;rfl
def RelV.inj{x y:V}{u:Value}(r:RelV x u)(q:RelV y u):x=y:=Ì (r.abs.symm.trans q.abs)
def Vals.inj:∀{xs ys:List V}{us:List Value},Vals xs us->Vals ys us->xs=ys
 |_,_,_,.nil,.nil=>rfl
 |_,_,_,.cons r t,.cons r' t'=>by rw[r.inj r',Vals.inj t t']
section
variable {X:Cx}{pins:List (Addr×Obj)}{σ:St}{H:Hp}{s:Shared}{a:Addr}{xs ys:List V}
def SqL.of{K:Í}(h:H a=some (.lst xs)):SqL K H a xs:=.inl (.inl h)
def SqT.of{K:Í}(h:H a=some (.tup xs)):SqT K H a xs:=.inl (.inl h)
def Inv.list(I:Inv X pins σ H s)(h:SqL X.K H a xs):∃its:List Value,Vals xs its/\PlainL s.heap a its.toArray/\xs.length<=sizeLine:=by
 rcases h with h|⟨o,its,n,hk,hc,hd,hs,hz,r⟩
 ·obtain⟨z,its,n,r,e⟩:=h.ok I.hok
  exact⟨its,r,⟨_,n,e,rfl,rfl,rfl⟩,z⟩
 ·refine⟨its.toList,r,⟨o,n,I.kIn a o hk,hc,hd,by simpa using hs⟩,?_⟩
  have e:=r.length
  simp only[é] at e
  omega
def Inv.tuple(I:Inv X pins σ H s)(h:SqT X.K H a xs):∃its:List Value,Vals xs its/\IsTup s.heap a its.toArray/\xs.length<=sizeLine:=by
 rcases h with h|⟨o,its,n,hk,hc,hs,hz,r⟩
 ·obtain⟨z,its,r,p⟩:=h.ok I.hok
  exact⟨its,r,p,z⟩
 ·refine⟨its.toList,r,⟨o,I.kIn a o hk,hc,n,by simpa using hs⟩,?_⟩
  have e:=r.length
  simp only[é] at e
  omega
def Inv.gZ(I:Inv X pins σ H s)(h:SqL X.K H a xs)(h':SqL X.K H a ys):xs=ys:=by
 obtain⟨its,r,⟨o,n,e,_,_,d⟩,_⟩:=I.list h
 obtain⟨its',r',⟨o',n',e',_,_,d'⟩,_⟩:=I.list h'
 rw[e] at e';cases e'
 rw[d] at d'
 injection d' with d1 _
 have:its=its':=by simpa using congrArg Array.toList d1
 subst this
 exact r.inj r'
def Inv.fu(I:Inv X pins σ H s)(h:SqT X.K H a xs)(h':SqT X.K H a ys):xs=ys:=by
 obtain⟨its,r,⟨o,e,_,n,d⟩,_⟩:=I.tuple h
 obtain⟨its',r',⟨o',e',_,n',d'⟩,_⟩:=I.tuple h'
 rw[e] at e';cases e'
 rw[d] at d'
 injection d' with d1 _
 have:its=its':=by simpa using congrArg Array.toList d1
 subst this
 exact r.inj r'
end
abbrev Cx.wish(X:Cx)(E:Value->Shared->Prop):Cx:={ X with xe:=E }
abbrev Cx.nox(X:Cx):Cx:=X.wish λ_ _=>False
def Cx.Ok.wish{X:Cx}(ok:X.Ok)(E:Value->Shared->Prop):(X.wish E).Ok :=
 ⟨ok.mod,ok.kind,ok.glob,ok.blt,ok.above,ok.inj,ok.has,ok.cab,ok.hd,ok.frames,ok.stk,ok.exf,ok.bs,ok.bsz,ok.noex,ok.exfs,ok.lB,ok.frf,ok.sof⟩
def Cx.Ok.dM{X:Cx}{E:Value->Shared->Prop}(ok:(X.wish E).Ok):X.Ok :=
 ⟨ok.mod,ok.kind,ok.glob,ok.blt,ok.above,ok.inj,ok.has,ok.cab,ok.hd,ok.frames,ok.stk,ok.exf,ok.bs,ok.bsz,ok.noex,ok.exfs,ok.lB,ok.frf,ok.sof⟩
section
variable {X:Cx}{pins:List (Addr×Obj)}{σ:St}{H:Hp}{s:Shared}{E:Value->Shared->Prop}
def Inv.wish(I:Inv X pins σ H s)(E:Value->Shared->Prop):Inv (X.wish E) pins σ H s:=⟨I.ok.wish E,I.os,I.bare,I.base,I.loc,I.cell,I.free,I.freeC,I.pin,I.hok,I.len⟩
def Inv.dM(I:Inv (X.wish E) pins σ H s):Inv X pins σ H s:=⟨I.ok.dM,I.os,I.bare,I.base,I.loc,I.cell,I.free,I.freeC,I.pin,I.hok,I.len⟩
def SP.dM{D:Ends}{f:Flow}{s':Shared}(h:SP (X.wish E) pins D f s'):SP X pins D f s':=by
 cases f with
 |next=>obtain⟨σ',H',I,q⟩:=h;exact⟨σ',H',I.dM,q⟩
 |brk=>obtain⟨σ',H',I,q⟩:=h;exact⟨σ',H',I.dM,q⟩
 |cont=>obtain⟨σ',H',I,q⟩:=h;exact⟨σ',H',I.dM,q⟩
 |ret u=>obtain⟨v,σ',H',I,r,q⟩:=h;exact⟨v,σ',H',I.dM,r,q⟩
def PSs.nox{st:List Stmt}{t:TS}(h:PSs X.nox st t):PSs X st t:=λpins s σ H D I hw =>
 Ħ (h pins s σ H D (I.wish _) hw) (λ_ _ q=>q.dM) λ_ _ z=>Ĳ z
end
section
variable {X:Cx}{st:Stmt}{rest:List Stmt}{t u:TS}{e:Expr}{te:TE}{pos:Pos}
def Gq:TS:=λD σ H=>D.nx σ H
def Gi(t u:TS):TS:=λD σ H=>t { D with nx:=u D } σ H
def jB:PSs X [] Gq:=λ_ _ σ H _ I h=>wpAny_execs_nil ⟨σ,H,I,h⟩
def qe(h1:PS X st t)(h2:PSs X rest u):PSs X (st::rest) (Gi t u):=by
 intro pins s σ H D I h
 refine wpAny_execs_cons (thn (h1 pins s σ H { D with nx:=u D } I h) λf s1 q=>?_)
 cases f with
 |next =>
  obtain⟨σ',H',I',q⟩:=q
  exact h2 pins s1 σ' H' D I' q
 |ret v=>exact q
 |brk=>exact q
 |cont=>exact q
def fG(h1:PS X st t):PSs X [st] t:=by
 intro pins s σ H D I h
 refine wpAny_execs_cons (thn (h1 pins s σ H D I h) λf s1 q=>?_)
 cases f with
 |next=>exact wpAny_execs_nil q
 |ret v=>exact q
 |brk=>exact q
 |cont=>exact q
def Inv.quiet{pins:List (Addr×Obj)}{σ:St}{H:Hp}{s:Shared}(I:Inv X pins σ H s):interactive X.env=false:=by simp[interactive,I.ok.kind]
def wL(te:TE):TS:=λD σ H=>te σ H λ_ H1=>D.nx σ H1
def nP(he:PE X e te)(hs:swapsWith e none pos.line X.env=pure false:=by rfl):PS X (.Expr e pos) (wL te):=by
 intro pins s σ H D I h
 exact wpAny_Expr_any (thn (he pins s σ H _ I h) λv s1 ⟨x,H1,I1,r1,q1⟩=>⟨σ,H1,I1,q1⟩) I.quiet hs
def Ik(te:TE):TS:=λD σ H=>te σ H D.rt
def jX(he:PE X e te):PS X (.Return (some e) pos) (Ik te):=by
 intro pins s σ H D I h
 exact wpAny_Return_some (thn (he pins s σ H _ I h) λv s1 ⟨x,H1,I1,r1,q1⟩=>⟨x,σ,H1,I1,r1,q1⟩)
def Ip(c:TT)(t u:TS):TS:=λD σ H=>c σ H λb H1=>if b=true then t D σ H1 else u D σ H1
def tU{c:Expr}{a b:List Stmt}{tc:TT}(hc:PT X c tc)(ha:PSs X a t)(hb:PSs X b u):PS X (.If c a b pos) (Ip tc t u):=by
 intro pins s σ H D I h
 refine wpAny_If (thn (hc pins s σ H _ I h) λd s1 ⟨H1,I1,q1⟩=>?_)
 cases d with
 |true=>exact ha pins s1 σ H1 D I1 q1
 |false=>exact hb pins s1 σ H1 D I1 q1
def CZ:TS:=λ_ _ _=>False
def xH:PS X st CZ:=λ_ _ _ _ _ _ h=>h.elim
end
abbrev TG:=V->St->Hp->(St->Hp->Prop)->Prop
abbrev TGs:=List V->St->Hp->(St->Hp->Prop)->Prop
def PG(X:Cx)(target:Expr)(t:TG):Prop :=
 ∀(pins:List (Addr×Obj)) (s:Shared) (σ:St) (H:Hp) (v:V) (u:Value) (Q:St->Hp->Prop),Inv X pins σ H s->RelV v u->t v σ H Q ->
  wpAny (model X.prog X.w) X.A (assign target X.env u) (λ_ s'=>∃σ' H',Inv X pins σ' H' s'/\Q σ' H') X.xe s
def PGs(X:Cx)(ts:List Expr)(t:TGs):Prop :=
 ∀(pins:List (Addr×Obj)) (s:Shared) (σ:St) (H:Hp) (vs:List V) (us:List Value) (Q:St->Hp->Prop),Inv X pins σ H s->Vals vs us->t vs σ H Q ->
  wpAny (model X.prog X.w) X.A (assignInOrder ((assignEach ts X.env).map (·.2)) us) (λ_ s'=>∃σ' H',Inv X pins σ' H' s'/\Q σ' H') X.xe s
section
variable {X:Cx}{pos:Pos}
def qJ(i:Nat):TG:=λv σ H Q=>Q (σ.set i (some v)) H
def tW{i:Nat}{x:Str}(hN:X.N.Nodup)(hi:X.N[i]?=some x)(hx:Loc X.env.scope x)(hf:X.fn x=true\/X.env.scope.names.lookup x=some .local:=by first|exact .inl rfl|exact .inr rfl|assumption):PG X (.Name x pos) (qJ i):=by
 intro pins s σ H v u Q I r h
 exact wpAny_assign_Name (pZ I hN hi hx r (λs' I'=>⟨_,H,I',h⟩) hf)
def Jm:TGs:=λvs σ H Q=>vs=[]/\Q σ H
def Hz(t:TG)(u:TGs):TGs:=λvs σ H Q=>∃v r,vs=v::r/\t v σ H λσ' H'=>u r σ' H' Q
def Ba:PGs X [] Jm:=by
 intro pins s σ H vs us Q I r h
 obtain⟨e,h⟩:=h
 subst e
 cases r
 exact assignInOrder_nil ⟨σ,H,I,h⟩
def xO{e:Expr}{es:List Expr}{t:TG}{u:TGs}(h1:PG X e t)(h2:PGs X es u)(hs:(assignEach (e::es) X.env).map (·.2)=assign e X.env::(assignEach es X.env).map (·.2):=by rfl):PGs X (e::es) (Hz t u):=by
 intro pins s σ H vs us Q I r h
 obtain⟨v,vr,e1,h⟩:=h
 subst e1
 cases r with
 |cons r rr =>
  rw[hs]
  refine assignInOrder_cons (thn (h1 pins s σ H _ _ _ I r h) λ_ s1 ⟨σ1,H1,I1,q1⟩=>?_)
  exact h2 pins s1 σ1 H1 _ _ Q I1 rr q1
def Jl(K:Í)(n:Nat)(t:TGs):TG:=λv σ H Q=>∃a xs,v=.ref a/\SqT K H a xs/\xs.length=n/\t xs σ H Q
def Du{es:List Expr}{k:Nat}{t:TGs}{n:Nat}(hc:X.calm=true)(h:PGs X es t)(hn:(assignEach es X.env).length=n:=by rfl)(hst:(assignEach es X.env).findIdx? (·.1)=none:=by rfl):PG X (.Tuple es k pos) (Jl X.K n t):=by
 intro pins s σ H v u Q I r hw
 obtain⟨a,xs,e1,hq,hl,hw⟩:=hw
 subst e1
 cases r
 obtain⟨its,rv,ht,hz⟩:=I.tuple hq
 refine assign_Tuple_tuple (I.ok.hd hc) ht (by simp[hn,←hl,rv.length]) hst λh' hx=>?_
 have I1:Inv X pins σ H { s with heap:=h' }:=I.kept (t':=s.toks) λb o e=>hx b o (Ö (Å e)) e
 exact h pins _ σ H xs _ Q I1 (by simpa using rv) hw
def Df(te:TE)(g:TG):TS:=λD σ H=>te σ H λx H1=>g x σ H1 D.nx
def cR{i:Nat}{x:Str}{e:Expr}{te:TE}{pos':Pos}(hN:X.N.Nodup)(hi:X.N[i]?=some x)(hx:Loc X.env.scope x)(he:PE X e te)(hs:swapsWith e (some (.Name x pos')) pos.line X.env=pure false:=by rfl)(hf:X.fn x=true\/X.env.scope.names.lookup x=some .local:=by first|exact .inl rfl|exact .inr rfl|assumption) :
  PS X (.Assign [.Name x pos'] e pos) (Df te (qJ i)):=by
 intro pins s σ H D I h
 refine wpAny_Assign_Name (thn (he pins s σ H _ I h) λv s1 ⟨y,H1,I1,r1,q1⟩=>?_) hs
 exact pZ I1 hN hi hx r1 (λs2 I2=>⟨_,H1,I2,q1⟩) hf
end
section
variable {X:Cx}{pos:Pos}
end
structure It where
 go:Nat->Hp->Prop
 yld:Nat->Hp->V->Hp->Prop
 stop:Nat->Hp->Prop
def fj(X:Cx)(pins:List (Addr×Obj))(H:Hp)(b:Addr):Prop :=
 H b=none/\b≠X.env.locals/\b∉X.fs/\(b∈X.ex\/X.s₀.heap.objs.size<=b)/\(∀x c,X.env.cells.lookup x=some c->c≠b)/\∀p∈X.pn++pins,p.1≠b
def Inv.pB{X:Cx}{pins:List (Addr×Obj)}{σ:St}{H H':Hp}{s:Shared}{b:Addr}(I:Inv X pins σ H s)(hb:s.heap.objs.size<=b)(hn:H' b=none):fj X pins H' b:=by
 refine⟨hn,ĸ (Õ I.lt hb),I.Jf hb,.inr (ú I.sz hb),λx c e z=>?_,λp hp z=>?_⟩
 ·obtain⟨v,q⟩:=I.cell x c e
  exact absurd (Õ q.lt (by rw[z];exact hb)) (ñ _)
 ·exact absurd (Õ (Å (I.pin p hp).1) (by rw[z];exact hb)) (ñ _)
structure TurnG(Cm:Cx->Prop)(P:Program)(w:World)(K:Í)(tg:Expr)(J:It)(fp:List Addr)(it:Addr)(tn:Nat->Heap->Prop):Prop where
 mem:it∈fp
 obj:∀i h,tn i h->∀b∈fp,∃o,h.get? b=some o/\∀v,o.data≠.cell v
 keep:∀i h h',tn i h->(∀b∈fp,∀o,h.get? b=some o->h'.get? b=some o)->tn i h'
 item:∀(X:Cx),X.prog=P->X.w=w->X.K=K->Cm X->∀(i:Nat) (pins:List (Addr×Obj)) (s:Shared) (σ:St) (H:Hp) (E:Value->Shared->Prop),Inv X pins σ H s->(∀b∈fp,fj X pins H b)->tn i s.heap->J.go i H ->
  wpAny (model P w) X.A (pyNext (.ref it)) (λr s1=>∃u,r=some u /\
   wpAny (model P w) X.A (letOwnedTupleGo tg (.ref it) u) (λ_ s2=>∃x H',Inv X pins σ H' s2/\RelV x u/\J.yld i H x H'/\tn (i+1) s2.heap/\∀b∈fp,H' b=none) E s1) E s
 done:∀(X:Cx),X.prog=P->X.w=w->X.K=K->Cm X->∀(i:Nat) (pins:List (Addr×Obj)) (s:Shared) (σ:St) (H:Hp) (E:Value->Shared->Prop),Inv X pins σ H s->(∀b∈fp,fj X pins H b)->tn i s.heap->J.stop i H ->
  wpAny (model P w) X.A (pyNext (.ref it)) (λr s1=>r=none/\Inv X pins σ H s1) E s
 self:∀(A:Around) (i:Nat) (s:Shared) (Q:Value->Shared->Prop) (E:Value->Shared->Prop),tn i s.heap->Q (.ref it) s->wpAny (model P w) A (pyIter (.ref it)) Q E s
abbrev Turn(P:Program)(w:World)(K:Í)(tg:Expr)(J:It)(fp:List Addr)(it:Addr)(tn:Nat->Heap->Prop):Prop:=TurnG (λX=>X.calm=true) P w K tg J fp it tn
abbrev TI:=St->Hp->(It->Hp->Prop)->Prop
def Ib(Cm:Cx->Prop)(X:Cx)(pins:List (Addr×Obj))(σ:St)(tg:Expr)(R:It->Hp->Prop)(itv:Value)(s2:Shared):Prop :=
 ∃(it:Addr) (fp:List Addr) (tn:Nat->Heap->Prop) (J:It) (H':Hp),itv=.ref it/\Inv X pins σ H' s2/\TurnG Cm X.prog X.w X.K tg J fp it tn/\tn 0 s2.heap/\(∀b∈fp,fj X pins H' b)/\R J H'
def PIG(Cm:Cx->Prop)(X:Cx)(tg iter:Expr)(wi:TI):Prop :=
 ∀(pins:List (Addr×Obj)) (s:Shared) (σ:St) (H:Hp) (R:It->Hp->Prop),Inv X pins σ H s->wi σ H R ->
  wpAny (model X.prog X.w) X.A (eval iter X.env) (λv s1=>wpAny (model X.prog X.w) X.A (pyIter v) (Ib Cm X pins σ tg R) X.xe s1) X.xe s
abbrev PIE(X:Cx):=Ib (λX=>X.calm=true) X
abbrev PI(X:Cx):=PIG (λX=>X.calm=true) X
def ur{M:Model}{A:Around}{E:Value->Shared->Prop}{s:Shared}{tg:Expr}{it:Addr}{u:Value}{o:Obj}{n:String}{vs:Array Value}{Q:Unit->Shared->Prop}(ho:s.heap.get? it=some o)(hc:o.cls=.type n)(hd:o.data=.fields vs)(hn:["enumerate","zip","dict_itemiterator","dict_reverseitemiterator","odict_iterator","itertools.zip_longest","itertools.pairwise"].contains n=false)(hQ:Q () s):wpAny M A (letOwnedTupleGo tg (.ref it) u) Q E s:=by
 unfold letOwnedTupleGo
 cases tg <;> first
  |exact Ç hQ
  | (cases u <;> first
    |exact Ç hQ
    | (refine Á (wpAny_load ho ?_)
       rw[hc,hd]
       show wpAny M A (if (["enumerate","zip","dict_itemiterator","dict_reverseitemiterator","odict_iterator","itertools.zip_longest","itertools.pairwise"].contains n&&vs[0]? == some (rawInt _))=true then _ else _) Q E s
       rw[if_neg (by intro h;rw[hn,Bool.false_and] at h;cases h)]
       exact Ç hQ))
def Itl(K:Í)(a:Addr):It :=
 ⟨λi H=>∃xs x,SqL K H a xs/\xs[i]?=some x,λi H x H'=>H'=H/\∀xs,SqL K H a xs->xs[i]?=some x,λi H=>∃xs,SqL K H a xs/\xs.length<=i⟩
def Itt(K:Í)(a:Addr):It :=
 ⟨λi H=>∃xs x,SqT K H a xs/\xs[i]?=some x,λi H x H'=>H'=H/\∀xs,SqT K H a xs->xs[i]?=some x,λi H=>∃xs,SqT K H a xs/\xs.length<=i⟩
def Itr(lo:Int)(n:Nat):It:=⟨λi _=>i<n,λi H x H'=>H'=H/\x=.int (lo+i),λi _=>n<=i⟩
def uL{P:Program}{w:World}{K:Í}{tg:Expr}(a it:Addr):Turn P w K tg (Itl K a) [it] it (λi h=>h.IsListIter it a i) where
 mem:=by simp
 obj:=λi h st b hb=>by
  have e:b=it:=by simpa using hb
  subst e
  obtain⟨o,e,c,d⟩:=st
  exact⟨o,e,λv z=>by rw[d] at z;cases z⟩
 keep:=λi h h' st k=>st.at λo e=>k it (by simp) o e
 item:=by
  intro X hP hw hK hc i pins s σ H E I hf st hg
  subst hP hw hK
  obtain⟨xs,x,hq,hx⟩:=hg
  obtain⟨its,rv,p,hz⟩:=I.list hq
  obtain⟨u,hu,ru⟩:=rv.get hx
  obtain⟨f0,f1,f2,f3,f4,f5⟩:=hf it (by simp)
  refine wpAny_pyNext_list_item st p.isList (x:=u) (by simpa using hu) λh' st' sb=>?_
  have I1:Inv X pins σ H { s with heap:=h' }:=I.turned (t':=s.toks) (λb o hb e=>(sb.2 b hb).trans e) f0 f1 f3 f4 f5
  obtain⟨o,e,c,d⟩:=id st'
  exact⟨u,rfl,ur (s:={ s with heap:=h' }) e c d (by decide) ⟨x,H,I1,ru,⟨rfl,λys hy=>by rw[I.gZ hy hq];exact hx⟩,st',λb hb=>(hf b hb).1⟩⟩
 done:=by
  intro X hP hw hK hc i pins s σ H E I hf st hg
  subst hP hw hK
  obtain⟨xs,hq,hx⟩:=hg
  obtain⟨its,rv,p,hz⟩:=I.list hq
  obtain⟨f0,f1,f2,f3,f4,f5⟩:=hf it (by simp)
  have hl:=rv.length
  exact wpAny_pyNext_list_end (I.ok.hd hc) st p.isList (by simp;omega) λh' eb=>⟨rfl,I.turned (t':=s.toks) (λb o hb e=>eb b o hb e) f0 f1 f3 f4 f5⟩
 self:=λ_ _ _ _ _ st h=>wpAny_pyIter_listiter st h
def qZ{P:Program}{w:World}{K:Í}{tg:Expr}(a it:Addr):Turn P w K tg (Itt K a) [it] it (λi h=>h.IsTupleIter it a i) where
 mem:=by simp
 obj:=λi h st b hb=>by
  have e:b=it:=by simpa using hb
  subst e
  obtain⟨o,e,c,d⟩:=st
  exact⟨o,e,λv z=>by rw[d] at z;cases z⟩
 keep:=λi h h' st k=>st.at λo e=>k it (by simp) o e
 item:=by
  intro X hP hw hK hc i pins s σ H E I hf st hg
  subst hP hw hK
  obtain⟨xs,x,hq,hx⟩:=hg
  obtain⟨its,rv,p,hz⟩:=I.tuple hq
  obtain⟨u,hu,ru⟩:=rv.get hx
  obtain⟨f0,f1,f2,f3,f4,f5⟩:=hf it (by simp)
  refine wpAny_pyNext_tuple_item st (show s.heap.IsTuple a its.toArray from p) (x:=u) (by simpa using hu) λh' st' sb=>?_
  have I1:Inv X pins σ H { s with heap:=h' }:=I.turned (t':=s.toks) (λb o hb e=>(sb.2 b hb).trans e) f0 f1 f3 f4 f5
  obtain⟨o,e,c,d⟩:=id st'
  exact⟨u,rfl,ur (s:={ s with heap:=h' }) e c d (by decide) ⟨x,H,I1,ru,⟨rfl,λys hy=>by rw[I.fu hy hq];exact hx⟩,st',λb hb=>(hf b hb).1⟩⟩
 done:=by
  intro X hP hw hK hc i pins s σ H E I hf st hg
  subst hP hw hK
  obtain⟨xs,hq,hx⟩:=hg
  obtain⟨its,rv,p,hz⟩:=I.tuple hq
  obtain⟨f0,f1,f2,f3,f4,f5⟩:=hf it (by simp)
  have hl:=rv.length
  exact wpAny_pyNext_tuple_end (I.ok.hd hc) st (show s.heap.IsTuple a its.toArray from p) (by simp;omega) λh' eb=>⟨rfl,I.turned (t':=s.toks) (λb o hb e=>eb b o hb e) f0 f1 f3 f4 f5⟩
 self:=λ_ _ _ _ _ st h=>wpAny_pyIter_tupleiter st h
def q9{P:Program}{w:World}{K:Í}{tg:Expr}(it:Addr)(lo:Int)(n:Nat):Turn P w K tg (Itr lo n) [it] it (λi h=>IsRangeIter h it (lo+(i:Nat) * 1) ((n:Int) - (i:Nat)) 1) where
 mem:=by simp
 obj:=λi h st b hb=>by
  have e:b=it:=by simpa using hb
  subst e
  exact⟨_,st,λv z=>by
   have z':Data.fields _=Data.cell v:=z
   cases z'⟩
 keep:=λi h h' st k=>k it (by simp) _ st
 item:=by
  intro X hP hw hK hc i pins s σ H E I hf st hg
  subst hP hw hK
  obtain⟨f0,f1,f2,f3,f4,f5⟩:=hf it (by simp)
  have W:=Walks.range (prog:=X.prog) (w:=X.w) (I.ok.hd hc) it lo 1 n
  refine W.item i s _ _ hg st λv h' tk hv st' kk=>?_
  obtain⟨t,rfl⟩:=hv
  have I1:Inv X pins σ H { s with heap:=h',toks:=tk }:=I.turned (λb o hb e=>kk b o (by simpa using hb) e) f0 f1 f3 f4 f5
  refine⟨_,rfl,ur (s:={ s with heap:=h',toks:=tk }) (n:="range_iterator") st' rfl rfl (by decide) ⟨.int (lo+i),H,I1,⟨t,?_⟩,⟨rfl,rfl⟩,st',λb hb=>(hf b hb).1⟩⟩
  rw[Int.mul_one]
 done:=by
  intro X hP hw hK hc i pins s σ H E I hf st hg
  subst hP hw hK
  obtain⟨f0,f1,f2,f3,f4,f5⟩:=hf it (by simp)
  exact wpAny_pyNext_range_end (I.ok.hd hc) st (by have:n<=i:=hg;omega) λh' eb=>⟨rfl,I.turned (t':=s.toks) (λb o hb e=>eb b o hb e) f0 f1 f3 f4 f5⟩
 self:=λ_ _ _ _ _ st h=>wpAny_pyIter_rangeiter st h
section
variable {X:Cx}{tg:Expr}
def xq{pins:List (Addr×Obj)}{σ:St}{H:Hp}{s:Shared}{R:It->Hp->Prop}{E:Value->Shared->Prop}{lo hi:Int}{t u v:Tok}{tk:Nat}(I:Inv X pins σ H s)(h1:-(2 ^ 62)<=lo)(h2:lo<2 ^ 62)(h3:-(2 ^ 62)<=hi)(h4:hi<2 ^ 62)(q:R (Itr lo (hi - lo).toNat) H):wpAny (model X.prog X.w) X.A (pyIter (.ref s.heap.objs.size)) (PIE X pins σ tg R) E { s with heap:=s.heap.push { cls:=.type "range",data:=.fields #[.int lo t,.int hi u,.int 1 v] },toks:=tk }:=by
 refine wpAny_pyIter_range (IsRange.new ..) (small_one h1 h2 h3 h4) ?_
 have I1:Inv X pins σ H { s with heap:=s.heap.push { cls:=.type "range",data:=.fields #[.int lo t,.int hi u,.int 1 v] },toks:=tk }:=I.kept λb o e=>Ä _ e
 refine⟨(s.heap.push { cls:=.type "range",data:=.fields #[.int lo t,.int hi u,.int 1 v] }).objs.size,[(s.heap.push { cls:=.type "range",data:=.fields #[.int lo t,.int hi u,.int 1 v] }).objs.size],_,_,H,rfl,
  I1.kept (t':=tk) λb o e=>Ä _ e,q9 _ lo (hi - lo).toNat,?_,λb hb=>?_,q⟩
 ·have e1:lo+((0:Nat):Int) * 1=lo:=by simp
  have e2:(((hi - lo).toNat:Nat):Int) - ((0:Nat):Int)=Builtin.Range.rangeSize lo hi 1:=by rw[rangeSize_one];split <;> omega
  show IsRangeIter _ _ (lo+((0:Nat):Int) * 1) ((((hi - lo).toNat:Nat):Int) - ((0:Nat):Int)) 1
  rw[e1,e2]
  exact Î _ rfl
 ·have e:b=(s.heap.push { cls:=.type "range",data:=.fields #[.int lo t,.int hi u,.int 1 v] }).objs.size:=by simpa using hb
  subst e
  exact I1.pB (Æ _) (I1.hok.fresh (Æ _))
def Hv(ta:TA):TI:=λσ H R=>ta σ H λvs H1=>∃j:Int,vs=[.int j]/\-(2 ^ 62)<=j/\j<2 ^ 62/\R (Itr 0 j.toNat) H1
def uU{a:Expr}{ta:TA}{p pos:Pos}(hg:Gl X "range")(hm:X.mg "range"=none)(ha:PA X [a] ta)(hs:starEach [a] X.env=[(false,eval a X.env)]:=by rfl):PI X tg (.Call (.Name "range" p) [a] [] pos) (Hv ta):=by
 intro pins s σ H R I h
 refine Call_ (iQ I hg hm boot_range (İ (thn (ha pos pins s σ H _ I h) λus s1 ⟨vs,H1,I1,r1,q1⟩=>?_) hs rfl))
 obtain⟨j,e,q1,q2,q⟩:=q1
 subst e
 cases r1 with
 |cons r rr =>
  cases rr
  obtain⟨t,rfl⟩:=r
  exact call_range_1 (xq I1 (by omega) (by omega) q1 q2 (by simpa using q))
def Ir(wi:TI)(g:TG)(tb:TS):TS:=λD σ H=>wi σ H λJ H1=>∃W:Nat->Nat->St->Hp->Prop,(∃m,W 0 m σ H1)/\∀i m σ H,W i m σ H ->
 (J.stop i H/\D.nx σ H)\/(J.go i H/\∃N:St->Hp->Prop,(∀σ' H',N σ' H'->∃m',m'<m/\W (i+1) m' σ' H')/\∀x H',J.yld i H x H'->g x σ H' λσ2 H2=>tb { D with nx:=N,ct:=N,bk:=D.nx } σ2 H2)
def dO(fp:List Addr)(h:Heap):List (Addr×Obj):=fp.filterMap λb=>(h.get? b).map λo=>(b,o)
def cV{fp:List Addr}{h:Heap}{b:Addr}{o:Obj}(hb:b∈fp)(e:h.get? b=some o):(b,o)∈dO fp h:=List.mem_filterMap.mpr ⟨b,hb,by rw[e];rfl⟩
def mR{fp:List Addr}{h:Heap}{p:Addr×Obj}(hp:p∈dO fp h):p.1∈fp/\h.get? p.1=some p.2:=by
 obtain⟨b,hb,e⟩:=List.mem_filterMap.mp hp
 cases q:h.get? b with
 |none=>rw[q] at e;cases e
 |some o =>
  rw[q] at e
  have e':(b,o)=p:=Ì e
  subst e'
  exact⟨hb,q⟩
def Inv.pinned{pins:List (Addr×Obj)}{σ:St}{H:Hp}{s:Shared}{fp:List Addr}(I:Inv X pins σ H s)(hf:∀b∈fp,fj X pins H b)(ho:∀b∈fp,∃o,s.heap.get? b=some o/\∀v,o.data≠.cell v):Inv X (pins++dO fp s.heap) σ H s :=
 I.jC λp hp=>(õ.mp hp).elim (λz=>I.pin p (Û _ z)) λz=>by
  obtain⟨hb,e⟩:=mR z
  obtain⟨f0,f1,f2,_⟩:=hf p.1 hb
  obtain⟨o,e',d⟩:=ho p.1 hb
  rw[e] at e';cases e'
  exact⟨e,f0,f1,f2,d⟩
def Inv.gD{pins pl:List (Addr×Obj)}{σ:St}{H:Hp}{s:Shared}(I:Inv X (pins++pl) σ H s):Inv X pins σ H s:=I.jC λp hp=>I.pin p (Û _ (ł _ hp))
def Ds{iter:Expr}{body:List Stmt}{wi:TI}{g:TG}{tb:TS}{pos:Pos}(hp:PassesOwn (model X.prog X.w) X.A X.env X.xe)(hc:X.calm=true)(hi:PI X tg iter wi)(hg:PG X tg g)(hb:PSs X body tb)(hs:∀x,foldedSetIterable iter X.env x=pure x:=by intro _;rfl):PS X (.For tg iter body [] pos) (Ir wi g tb):=by
 intro pins s σ H D I h
 refine wpAny_For (thn (hi pins s σ H _ I h) λv s1 h1=>thn h1 λitv s2 h2=>?_) hs
 obtain⟨it,fp,tn,J,H2,e,I2,T,st2,f2,W,⟨m0,w0⟩,turn⟩:=h2
 subst e
 -- what stays true of the iterator's objects through the loop
 have stat:∀{H':Hp},(∀b∈fp,H' b=none)->∀b∈fp,fj X pins H' b:=λhn b hb=>⟨hn b hb,(f2 b hb).2⟩
 refine codeAny_forLoop_any (λn s'=>∃i σ' H',Inv X pins σ' H' s'/\tn i s'.heap/\(∀b∈fp,H' b=none)/\W i n σ' H') ?_ m0 ⟨0,σ,H2,I2,st2,λb hb=>(f2 b hb).1,w0⟩
 rintro n s3 ⟨i,σ3,H3,I3,st3,fr3,w3⟩
 rcases turn i n σ3 H3 w3 with ⟨stop,qn⟩|⟨go,N,hN,step⟩
 ·refine ų hp (thn (T.done X rfl rfl rfl hc i pins s3 σ3 H3 X.xe I3 (stat fr3) st3 stop) λr s4 ⟨hr,I4⟩=>?_)
  subst hr
  exact wpAny_execs_nil ⟨σ3,H3,I4,qn⟩
 ·refine ų hp (thn (T.item X rfl rfl rfl hc i pins s3 σ3 H3 X.xe I3 (stat fr3) st3 go) λr s4 ⟨u,hr,h4⟩=>?_)
  subst hr
  refine ų hp (thn h4 λ_ s5 ⟨x,H5,I5,r5,y5,st5,fr5⟩=>?_)
  have I5':=I5.pinned (stat fr5) (T.obj _ _ st5)
  refine ų hp (thn (hg _ s5 σ3 H5 x u _ I5' r5 (step x H5 y5)) λ_ s6 ⟨σ6,H6,I6,q6⟩=>?_)
  refine ų hp (thn (hb _ s6 σ6 H6 _ I6 q6) λf s7 q7=>?_)
  have again:∀{σ7:St}{H7:Hp},Inv X (pins++dO fp s5.heap) σ7 H7 s7->N σ7 H7->∃m,m<n/\∃i σ' H',Inv X pins σ' H' s7/\tn i s7.heap/\(∀b∈fp,H' b=none)/\W i m σ' H':=λ{σ7 H7} I7 n7=>by
   obtain⟨m',hm,w7⟩:=hN σ7 H7 n7
   refine⟨m',hm,i+1,σ7,H7,I7.gD,T.keep _ _ _ st5 λb hb o e=>(I7.pin (b,o) (Û _ (Û _ (cV hb e)))).1,λb hb=>?_,w7⟩
   obtain⟨o,e,d⟩:=T.obj _ _ st5 b hb
   exact(I7.pin (b,o) (Û _ (Û _ (cV hb e)))).2.1
  cases f with
  |next=>obtain⟨σ7,H7,I7,n7⟩:=q7;exact again I7 n7
  |cont=>obtain⟨σ7,H7,I7,n7⟩:=q7;exact again I7 n7
  |brk=>obtain⟨σ7,H7,I7,q7⟩:=q7;exact⟨σ7,H7,I7.gD,q7⟩
  |ret v=>obtain⟨x7,σ7,H7,I7,r7,q7⟩:=q7;exact⟨x7,σ7,H7,I7.gD,r7,q7⟩
end
abbrev R2:=V->V->Hp->VK->Prop
def OpR(X:Cx)(f:Value->Value->Sem Value)(r:R2):Prop :=
 ∀(pins:List (Addr×Obj)) (s:Shared) (σ:St) (H:Hp) (x y:V) (v u:Value) (Q:VK),Inv X pins σ H s->RelV x v->RelV y u->r x y H Q ->
  wpAny (model X.prog X.w) X.A (f v u) (EP X pins σ Q) X.xe s
def aK(X:Cx)(f:Value)(r:List V->Hp->VK->Prop):Prop :=
 ∀(pins:List (Addr×Obj)) (s:Shared) (σ:St) (H:Hp) (xs:List V) (us:List Value) (Q:VK),Inv X pins σ H s->Vals xs us->r xs H Q ->
  wpAny (model X.prog X.w) X.A (call f us) (EP X pins σ Q) X.xe s
def tOp(r:R2)(ta tb:TE):TE:=λσ H Q=>ta σ H λx H1=>tb σ H1 λy H2=>r x y H2 Q
def rI(C:Int->Int->Prop)(g:Int->Int->V):R2:=λx y H Q=>∃i j,x=.int i/\y=.int j/\C i j/\Q (g i j) H
def rI0(g:Int->Int->V):R2:=λx y H Q=>∃i j,x=.int i/\y=.int j/\Q (g i j) H
section
variable {X:Cx}{a b c:Expr}{ta tb tc:TE}{pos:Pos}
def FT(ha:PE X a ta)(hb:PE X b tb){pins:List (Addr×Obj)}{s:Shared}{σ:St}{H:Hp}{R:V->V->Hp->Prop}(I:Inv X pins σ H s)(h:ta σ H λx H1=>tb σ H1 λy H2=>R x y H2){Q:Value->Shared->Prop}{f:Value->Value->Sem Value}(hf:∀v u s2 x y H2,Inv X pins σ H2 s2->RelV x v->RelV y u->R x y H2->wpAny (model X.prog X.w) X.A (f v u) Q X.xe s2) :
  wpAny (model X.prog X.w) X.A (eval a X.env) (λv s₁=>wpAny (model X.prog X.w) X.A (eval b X.env) (λu s₂=>wpAny (model X.prog X.w) X.A (f v u) Q X.xe s₂) X.xe s₁) X.xe s:=by
 refine thn (ha pins s σ H _ I h) λv s1 ⟨x,H1,I1,r1,q1⟩=>?_
 refine thn (hb pins s1 σ H1 _ I1 q1) λu s2 ⟨y,H2,I2,r2,q2⟩=>?_
 exact hf v u s2 x y H2 I2 r1 r2 q2
def bw{op:Operator}{r:R2}(ho:OpR X (binaryOp op) r)(ha:PE X a ta)(hb:PE X b tb):PE X (.BinOp a op b pos) (tOp r ta tb):=by
 intro pins s σ H Q I h
 exact wpAny_BinOp (FT ha hb I h λv u s2 x y H2 I2 rx ry q=>ho pins s2 σ H2 x y v u Q I2 rx ry q)
def opI{f:Value->Value->Sem Value}{C:Int->Int->Prop}{g:Int->Int->Int}(rule:∀(i j:Int) (t u:Tok) (s:Shared) (Q:Value->Shared->Prop) (E:Value->Shared->Prop),C i j->Q (.int (g i j) s.toks) { s with toks:=s.toks+1 }->wpAny (model X.prog X.w) X.A (f (.int i t) (.int j u)) Q E s) :
  OpR X f (rI C λi j=>.int (g i j)):=by
 intro pins s σ H x y v u Q I rx ry h
 obtain⟨i,j,rfl,rfl,hc,q⟩:=h
 obtain⟨t,rfl⟩:=rx
 obtain⟨t',rfl⟩:=ry
 exact rule i j t t' s _ _ hc ⟨.int (g i j),H,I.tok _,⟨_,rfl⟩,q⟩
def G9{f:Value->Value->Sem Value}{g:Int->Int->Int}(rule:∀(i j:Int) (t u:Tok) (s:Shared) (Q:Value->Shared->Prop) (E:Value->Shared->Prop),Q (.int (g i j) s.toks) { s with toks:=s.toks+1 }->wpAny (model X.prog X.w) X.A (f (.int i t) (.int j u)) Q E s) :
  OpR X f (rI0 λi j=>.int (g i j)):=by
 intro pins s σ H x y v u Q I rx ry h
 obtain⟨i,j,rfl,rfl,q⟩:=h
 obtain⟨t,rfl⟩:=rx
 obtain⟨t',rfl⟩:=ry
 exact rule i j t t' s _ _ ⟨.int (g i j),H,I.tok _,⟨_,rfl⟩,q⟩
def Bj{f:Value->Value->Sem Value}{g:Int->Int->Bool}(rule:∀(i j:Int) (t u:Tok) (s:Shared) (Q:Value->Shared->Prop) (E:Value->Shared->Prop),Q (.bool (g i j)) s->wpAny (model X.prog X.w) X.A (f (.int i t) (.int j u)) Q E s) :
  OpR X f (rI0 λi j=>.bl (g i j)):=by
 intro pins s σ H x y v u Q I rx ry h
 obtain⟨i,j,rfl,rfl,q⟩:=h
 obtain⟨t,rfl⟩:=rx
 obtain⟨t',rfl⟩:=ry
 exact rule i j t t' s _ _ ⟨.bl (g i j),H,I,rfl,q⟩
def Jv(i j:Int):Prop:=0<j/\j<1073741824
def Ju(i j:Int):Prop:=0<=j/\j<=1000000/\i.natAbs<2 ^ 64
def Ca(i j:Int):Prop:=(-(2 ^ 64)<i/\i<2 ^ 64)\/(-(2 ^ 64)<j/\j<2 ^ 64)
def Ca.ok{i j:Int}(h:Ca i j):IntMulOk i j:=by
 rcases h with ⟨h1,h2⟩|⟨h1,h2⟩
 ·exact .of_left (intBits_le_64 h1 h2)
 ·exact .of_right (intBits_le_64 h1 h2)
def dY:OpR X (binaryOp .Add) (rI0 λi j=>.int (i+j)):=G9 λ_ _ _ _ _ _ _ q=>add_int q
def Ed:OpR X (binaryOp .Sub) (rI0 λi j=>.int (i - j)):=G9 λ_ _ _ _ _ _ _ q=>sub_int q
def iK:OpR X (binaryOp .Mult) (rI Ca λi j=>.int (i * j)):=opI λ_ _ _ _ _ _ _ hc q=>mul_int q hc.ok
def oN:OpR X (binaryOp .FloorDiv) (rI Jv λi j=>.int (i / j)):=opI λi j _ _ _ _ _ hc q=>by
 have h1:(0:Int)<j:=hc.1
 have h2:j<1073741824:=hc.2
 exact floordiv_int (by omega) (by rw[Int.fdiv_eq_ediv_of_nonneg i (by omega)];exact q) (.inl (PyProof.noPylong_small (by omega)))
def dX:OpR X (binaryOp .Mod) (rI (λ_ j=>0<j) λi j=>.int (i % j)):=opI λi j _ _ _ _ _ hc q=>by
 have h1:(0:Int)<j:=hc
 exact mod_int' (by omega) (by rw[Int.fmod_eq_emod_of_nonneg i (by omega)];exact q)
def Eh:OpR X (binaryOp .Pow) (rI Ju λi j=>.int (i ^ j.toNat)):=opI λ_ _ _ _ _ _ _ hc q=>pow_int_small hc.1 hc.2.1 hc.2.2 q
end
def Gz:V->V->Bool
 |.non,.non=>true|.non,.int _=>true|.int _,.non=>true|.non,.bl _=>true|.bl _,.non=>true|.non,.str _=>true|.str _,.non=>true
 |.int _,.int _=>true|.bl _,.bl _=>true|.str _,.str _=>true|.byt _,.byt _=>true
 |.int _,.str _=>true|.str _,.int _=>true|.bl _,.str _=>true|.str _,.bl _=>true
 |_,_=>false
def rEq:R2:=λx y H Q=>Gz x y=true/\Q (.bl (decide (x=y))) H
def rNe:R2:=λx y H Q=>Gz x y=true/\Q (.bl (!decide (x=y))) H
def uz{i j:Int}:decide (V.int i=V.int j)=(i == j):=by
 rw[Ŕ]
 simp
def zT{i j:Bool}:decide (V.bl i=V.bl j)=(i == j):=by
 rw[Ŕ]
 simp
def uy{i j:Str}:decide (V.str i=V.str j)=(i == j):=by
 rw[Ŕ]
 simp
def uD{i j:Array UInt8}:decide (V.byt i=V.byt j)=(i.toList == j.toList):=by
 rw[Ŕ]
 cases i
 cases j
 simp
section
variable {X:Cx}{a b c:Expr}{ta tb tc:TE}{pos:Pos}
def au{pins:List (Addr×Obj)}{σ:St}{H:Hp}{s:Shared}{Q:VK}{k k':Bool}(I:Inv X pins σ H s)(q:Q (.bl k) H)(e:k=k'):EP X pins σ Q (.bool k') s:=by
 subst e
 exact⟨.bl k,H,I,rfl,q⟩
def G8:OpR X (compareOp .Eq) rEq:=by
 intro pins s σ H x y v u Q I rx ry h
 obtain⟨hs,q⟩:=h
 cases x with
 |non =>
  cases rx
  cases y with
  |non=>cases ry;exact PySem.EqNone.eq_none_none (au I q (by simp))
  |bl j=>cases ry;exact PySem.EqNone.eq_none_bool (au I q (by simp))
  |int j=>obtain⟨t',rfl⟩:=ry;exact PySem.EqNone.eq_none_int (au I q (by simp))
  |str j=>obtain⟨t',rfl⟩:=ry;exact PySem.EqNone.eq_none_str (au I q (by simp))
  |_=>exact absurd (show false=true from hs) Ë
 |bl i =>
  cases rx
  cases y with
  |non=>cases ry;exact PySem.EqNone.eq_bool_none (au I q (by simp))
  |bl j=>cases ry;exact eq_bool (au I q zT)
  |str j=>obtain⟨t',rfl⟩:=ry;exact PySem.EqMixed.eq_bool_str (au I q (by simp))
  |_=>exact absurd (show false=true from hs) Ë
 |int i =>
  obtain⟨t,rfl⟩:=rx
  cases y with
  |non=>cases ry;exact PySem.EqNone.eq_int_none (au I q (by simp))
  |int j=>obtain⟨t',rfl⟩:=ry;exact eq_int (au I q uz)
  |str j=>obtain⟨t',rfl⟩:=ry;exact PySem.EqMixed.eq_int_str (au I q (by simp))
  |_=>exact absurd (show false=true from hs) Ë
 |str i =>
  obtain⟨t,rfl⟩:=rx
  cases y with
  |non=>cases ry;exact PySem.EqNone.eq_str_none (au I q (by simp))
  |bl j=>cases ry;exact PySem.EqMixed.eq_str_bool (au I q (by simp))
  |int j=>obtain⟨t',rfl⟩:=ry;exact PySem.EqMixed.eq_str_int (au I q (by simp))
  |str j=>obtain⟨t',rfl⟩:=ry;exact eq_str (au I q uy)
  |_=>exact absurd (show false=true from hs) Ë
 |byt i =>
  obtain⟨t,rfl⟩:=rx
  cases y with
  |byt j=>obtain⟨t',rfl⟩:=ry;exact W.eq_bytes (au I q uD)
  |_=>exact absurd (show false=true from hs) Ë
 |_=>cases y <;> exact absurd (show false=true from hs) Ë
def Cj:OpR X (compareOp .NotEq) rNe:=by
 intro pins s σ H x y v u Q I rx ry h
 obtain⟨hs,q⟩:=h
 cases x with
 |non =>
  cases rx
  cases y with
  |non=>cases ry;exact PySem.EqNone.ne_none_none (au I q (by simp))
  |bl j=>cases ry;exact PySem.EqNone.ne_none_bool (au I q (by simp))
  |int j=>obtain⟨t',rfl⟩:=ry;exact PySem.EqNone.ne_none_int (au I q (by simp))
  |str j=>obtain⟨t',rfl⟩:=ry;exact PySem.EqNone.ne_none_str (au I q (by simp))
  |_=>exact absurd (show false=true from hs) Ë
 |bl i =>
  cases rx
  cases y with
  |non=>cases ry;exact PySem.EqNone.ne_bool_none (au I q (by simp))
  |bl j=>cases ry;exact ne_bool (au I q (congrArg not zT))
  |str j=>obtain⟨t',rfl⟩:=ry;exact PySem.EqMixed.ne_bool_str (au I q (by simp))
  |_=>exact absurd (show false=true from hs) Ë
 |int i =>
  obtain⟨t,rfl⟩:=rx
  cases y with
  |non=>cases ry;exact PySem.EqNone.ne_int_none (au I q (by simp))
  |int j=>obtain⟨t',rfl⟩:=ry;exact ne_int (au I q (congrArg not uz))
  |str j=>obtain⟨t',rfl⟩:=ry;exact PySem.EqMixed.ne_int_str (au I q (by simp))
  |_=>exact absurd (show false=true from hs) Ë
 |str i =>
  obtain⟨t,rfl⟩:=rx
  cases y with
  |non=>cases ry;exact PySem.EqNone.ne_str_none (au I q (by simp))
  |bl j=>cases ry;exact PySem.EqMixed.ne_str_bool (au I q (by simp))
  |int j=>obtain⟨t',rfl⟩:=ry;exact PySem.EqMixed.ne_str_int (au I q (by simp))
  |str j=>obtain⟨t',rfl⟩:=ry;exact ne_str (au I q (congrArg not uy))
  |_=>exact absurd (show false=true from hs) Ë
 |byt i =>
  obtain⟨t,rfl⟩:=rx
  cases y with
  |byt j=>obtain⟨t',rfl⟩:=ry;exact W.ne_bytes (au I q (congrArg not uD))
  |_=>exact absurd (show false=true from hs) Ë
 |_=>cases y <;> exact absurd (show false=true from hs) Ë
def Ck:OpR X (compareOp .Lt) (rI0 λi j=>.bl (decide (i<j))):=Bj λ_ _ _ _ _ _ _ q=>lt_int q
def qm:OpR X (compareOp .LtE) (rI0 λi j=>.bl (decide (i<=j))):=Bj λ_ _ _ _ _ _ _ q=>le_int q
def yj:OpR X (compareOp .Gt) (rI0 λi j=>.bl (decide (j<i))):=Bj λ_ _ _ _ _ _ _ q=>gt_int q
def G7:OpR X (compareOp .GtE) (rI0 λi j=>.bl (decide (j<=i))):=Bj λ_ _ _ _ _ _ _ q=>ge_int q
def uW:OpR X (compareOp .In) (λx y H Q=>∃i j,x=.str i/\y=.str j/\Q (.bl (!(ē j i 0 j.length 1).isEmpty)) H):=by
 intro pins s σ H x y v u Q I rx ry h
 obtain⟨i,j,rfl,rfl,q⟩:=h
 obtain⟨t,rfl⟩:=rx
 obtain⟨t',rfl⟩:=ry
 exact in_str (au I q rfl)
def yh:OpR X (compareOp .Is) (λx y H Q=>y=.non/\Q (.bl (decide (x=.non))) H):=by
 intro pins s σ H x y v u Q I rx ry h
 obtain⟨rfl,q⟩:=h
 cases ry
 refine is_none_gen (au I q ?_)
 cases x <;> first
  |(cases rx;rfl)
  |(obtain⟨t,rfl⟩:=rx;rfl)
def cg(b:Expr){op:CmpOp}(h:op≠.In:=by decide)(h2:op≠.NotIn:=by decide):behindInMarks op b=false:=by
 have e1:(op == CmpOp.In)=false:=by cases op <;> first|rfl|exact absurd rfl h
 have e2:(op == CmpOp.NotIn)=false:=by cases op <;> first|rfl|exact absurd rfl h2
 cases b <;> simp[behindInMarks,e1,e2]
def Bc{op:CmpOp}{r:R2}(ho:OpR X (compareOp op) r)(ha:PE X a ta)(hb:PE X b tb)(hm:behindInMarks op b=false):PE X (.Compare a [op] [b] pos) (tOp r ta tb):=by
 intro pins s σ H Q I h
 exact wpAny_Compare1 (FT ha hb I h λv u s2 x y H2 I2 rx ry q=>ho pins s2 σ H2 x y v u Q I2 rx ry q) hm
def wJ(t:TE):TT:=λσ H Q=>t σ H λx H'=>∃k,x=.bl k/\Q k H'
def gM{op:CmpOp}{r:R2}(ho:OpR X (compareOp op) r)(ha:PE X a ta)(hb:PE X b tb)(hm:behindInMarks op b=false):PT X (.Compare a [op] [b] pos) (wJ (tOp r ta tb)):=by
 intro pins s σ H Q I h
 refine wpAny_isTrue_Compare1 (thn (ha pins s σ H _ I h) λv s1 ⟨x,H1,I1,r1,q1⟩=>thn (hb pins s1 σ H1 _ I1 q1) λu s2 ⟨y,H2,I2,r2,q2⟩ =>
  thn (ho pins s2 σ H2 x y v u _ I2 r1 r2 q2) λc s3 ⟨z,H3,I3,r3,k,e,q3⟩=>?_) hm
 subst e
 cases r3
 exact ÿ ⟨H3,I3,q3⟩
def jR(r r':R2)(ta tb tc:TE):TE:=λσ H Q=>ta σ H λx H1=>tb σ H1 λy H2=>r x y H2 λz H3=>∃k,z=.bl k /\
 (if k=true then tc σ H3 λw' H4=>r' y w' H4 Q else Q (.bl false) H3)
def xV{op op':CmpOp}{r r':R2}(ho:OpR X (compareOp op) r)(ho':OpR X (compareOp op') r')(ha:PE X a ta)(hb:PE X b tb)(hc:PE X c tc)(hm:lastMarks [op,op'] [b,c]=false:=by with_unfolding_all rfl):PE X (.Compare a [op,op'] [b,c] pos) (jR r r' ta tb tc):=by
 intro pins s σ H Q I h
 refine Compare_chain (thn (ha pins s σ H _ I h) λv s1 ⟨x,H1,I1,r1,q1⟩=>chain_link (thn (hb pins s1 σ H1 _ I1 q1) λu s2 ⟨y,H2,I2,r2,q2⟩ =>
  thn (ho pins s2 σ H2 x y v u _ I2 r1 r2 q2) λd s3 ⟨z,H3,I3,r3,k,e,q3⟩=>?_)) hm
 subst e
 cases r3
 refine ÿ ?_
 cases k with
 |false=>exact ite_ff ⟨.bl false,H3,I3,rfl,q3⟩
 |true=>exact ite_tt (chain_last (thn (hc pins s3 σ H3 _ I3 q3) λw' s4 ⟨z',H4,I4,r4,q4⟩=>ho' pins s4 σ H4 y z' u w' Q I4 r2 r4 q4))
def xG{op op':CmpOp}{r r':R2}(ho:OpR X (compareOp op) r)(ho':OpR X (compareOp op') r')(ha:PE X a ta)(hb:PE X b tb)(hc:PE X c tc)(hm:lastMarks [op,op'] [b,c]=false:=by with_unfolding_all rfl):PT X (.Compare a [op,op'] [b,c] pos) (wJ (jR r r' ta tb tc)):=by
 intro pins s σ H Q I h
 refine isTrue_chain (thn (ha pins s σ H _ I h) λv s1 ⟨x,H1,I1,r1,q1⟩=>test_link (thn (hb pins s1 σ H1 _ I1 q1) λu s2 ⟨y,H2,I2,r2,q2⟩ =>
  thn (ho pins s2 σ H2 x y v u _ I2 r1 r2 q2) λd s3 ⟨z,H3,I3,r3,k,e,q3⟩=>?_)) hm
 subst e
 cases r3
 refine ÿ ?_
 cases k with
 |false =>
  obtain⟨k',e',q'⟩:=q3
  cases e'
  exact ite_ff ⟨H3,I3,q'⟩
 |true =>
  refine ite_tt (test_last (thn (hc pins s3 σ H3 _ I3 q3) λw' s4 ⟨z',H4,I4,r4,q4⟩=>thn (ho' pins s4 σ H4 y z' u w' _ I4 r2 r4 q4) λd' s5 ⟨z2,H5,I5,r5,k2,e2,q5⟩=>?_))
  subst e2
  cases r5
  exact ÿ ⟨H5,I5,q5⟩
def kW:(sizeLine:Nat)<2 ^ 63:=by rw[ä];decide
def rO:OpR X (binaryOp .Add) (λx y H Q=>∃i j,x=.str i/\y=.str j/\i.length+j.length<=sizeLine/\Q (.str (i++j)) H):=by
 intro pins s σ H x y v u Q I rx ry h
 obtain⟨i,j,rfl,rfl,hz,q⟩:=h
 obtain⟨t,rfl⟩:=rx
 obtain⟨t',rfl⟩:=ry
 exact add_str (λt' tk=>⟨.str (i++j),H,I.tok _,⟨_,rfl⟩,q⟩) hz
def vals1{x:V}{us:List Value}(r:Vals [x] us):∃u,us=[u]/\RelV x u:=by
 cases r with
 |cons r1 r2=>cases r2;exact⟨_,rfl,r1⟩
def vals2{x y:V}{us:List Value}(r:Vals [x,y] us):∃u w',us=[u,w']/\RelV x u/\RelV y w':=by
 cases r with
 |cons r1 r2 =>
  cases r2 with
  |cons r3 r4=>cases r4;exact⟨_,_,rfl,r1,r3⟩
def lQ:aK X (.builtin "abs") (λxs H Q=>∃i,xs=[.int i]/\Q (.int (if i<0 then -i else i)) H):=by
 intro pins s σ H xs us Q I r h
 obtain⟨i,rfl,q⟩:=h
 obtain⟨u,rfl,t,rfl⟩:=vals1 r
 exact call_abs_int λu tk=>⟨.int (if i<0 then -i else i),H,I.tok _,⟨_,rfl⟩,q⟩
def vY(hc:X.calm=true):aK X (.builtin "max") (λxs H Q=>∃i j,xs=[.int i,.int j]/\Q (.int (if j > i then j else i)) H):=by
 intro pins s σ H xs us Q I r h
 obtain⟨i,j,rfl,q⟩:=h
 obtain⟨u,w',rfl,⟨t,rfl⟩,⟨t',rfl⟩⟩:=vals2 r
 refine max_two_ints (I.ok.hd hc) λh' tk k=>⟨_,H,I.kept k,?_,q⟩
 by_cases hj:j > i
 ·rw[if_pos hj,if_pos hj];exact⟨_,rfl⟩
 ·rw[if_neg hj,if_neg hj];exact⟨_,rfl⟩
def vV(hc:X.calm=true):aK X (.builtin "min") (λxs H Q=>∃i j,xs=[.int i,.int j]/\Q (.int (if j<i then j else i)) H):=by
 intro pins s σ H xs us Q I r h
 obtain⟨i,j,rfl,q⟩:=h
 obtain⟨u,w',rfl,⟨t,rfl⟩,⟨t',rfl⟩⟩:=vals2 r
 refine min_two_ints (I.ok.hd hc) λh' tk k=>⟨_,H,I.kept k,?_,q⟩
 by_cases hj:j<i
 ·rw[if_pos hj,if_pos hj];exact⟨_,rfl⟩
 ·rw[if_neg hj,if_neg hj];exact⟨_,rfl⟩
def nu:aK X (.type "int") (λxs H Q=>(∃i,xs=[.int i]/\Q (.int i) H)\/∃k,xs=[.bl k]/\Q (.int (if k then 1 else 0)) H):=by
 intro pins s σ H xs us Q I r h
 rcases h with ⟨i,rfl,q⟩|⟨k,rfl,q⟩
 ·obtain⟨u,rfl,t,rfl⟩:=vals1 r
  exact call_int_int ⟨.int i,H,I,⟨_,rfl⟩,q⟩
 ·obtain⟨u,rfl,r1⟩:=vals1 r
  cases r1
  exact call_int_bool ⟨.int (if k then 1 else 0),H,I.tok _,⟨_,rfl⟩,q⟩
def pL:aK X (.type "str") (λxs H Q=>∃i,xs=[.int i]/\i.natAbs.log2<1920/\Q (.str (toString i)) H):=by
 intro pins s σ H xs us Q I r h
 obtain⟨i,rfl,hz,q⟩:=h
 obtain⟨u,rfl,t,rfl⟩:=vals1 r
 exact PySem.P.str_of_int hz ⟨.str _,H,I.tok _,⟨_,rfl⟩,q⟩
end
structure ObjM(h:Heap)(x dx C:Addr)(mA:Str->Option Value):Prop where
 obj:h.get? x=some (W.instObj C dx)
 ns:h.Ns1 dx mA
 ne:dx≠x
def vf{h:Heap}{dx:Addr}{mA:Str->Option Value}(n:h.Ns1 dx mA):∃od,h.get? dx=some od/\∀name,W.lookIn name od=some (mA name):=by
 obtain⟨o,es,ep,ho,hd,hk,_,hm⟩:=n
 refine⟨o,ho,λname=>?_⟩
 have e:=hm name
 unfold nsFind findBy at e
 rw[←Array.find?_toList] at e
 unfold W.lookIn
 rw[hd]
 dsimp only
 split
 ·rename_i y q
  rw[q] at e
  exact congrArg some e
 ·rename_i q
  rw[q] at e
  have a:es.toList.any (·.refKey)=false:=by
   rw[List.any_eq_false]
   intro y hy
   obtain⟨z,t,hkey⟩:=hk y (Array.mem_toList_iff.mp hy)
   simp[DictEntry.refKey,hkey]
  have a':¬es.toList.any (·.refKey)=true:=by rw[a];exact Ë
  rw[if_neg a']
  exact congrArg some e
def ObjM.look{h:Heap}{x dx C:Addr}{mA:Str->Option Value}(I:ObjM h x dx C mA):∃od,W.InstAt h x (W.instObj C dx) C (some od)/\∀name,W.lookIn name od=some (mA name) :=
 let ⟨od,ho,hl⟩:=vf I.ns
 ⟨od,⟨I.obj,rfl,rfl,ho⟩,hl⟩
section
variable {prog:Program}{w:World}{A:Around}{E:Value->Shared->Prop}{s:Shared}{K:Í}{x dx C f:Addr}{mA:Str->Option Value}{name:Str}{v:Value}
end
def lR.some_of{v:V}{o:Option Value}(r:lR (some v) o):∃u,o=some u/\RelV v u:=by
 cases o with
 |none=>exact(show False from r).elim
 |some u=>exact⟨u,rfl,r⟩
section
variable {P:Program}{w:World}{H H':Hp}{h h':Heap}{a C dx:Addr}{fs fs':List (Str×V)}
def uq(hok:HOk P w H h)(e:H a=some (.ins C dx fs)):∃mA,ObjM h a dx C mA/\(∀f,lR (fs.lookup f) (mA f))/\PySem.Within mA (fs.map (·.1))/\fs.length<=1000/\H dx=some (.own a):=by
 obtain⟨d,z,ne,ob,mA,n,r,q⟩:=(show aF P w H h a (.ins C dx fs) from hok a _ e)
 exact⟨mA,⟨ob,n,ne⟩,r,q,z,d⟩
end
structure Cls(K:Í)(C:Addr):Prop where
 pg:W.plainGet K C Ű=true
 hd:W.hasDictIn K C=true
 po:W.plainOver K C=true
 sa:W.findIn K (.ref C) "__setattr__"=some (some (.builtin "object.__setattr__"))
def Cls.get{K:Í}{C:Addr}(c:Cls K C)(f:Str):W.plainGet K C f=true:=c.pg
structure Con(K:Í)(C:Addr)(f:Str)(v:V)(u:Value):Prop where
 at_:W.findIn K (.ref C) f=some (some u)
 rel:RelV v u
 get:W.specialIn K u "__get__"=some none
 cp:W.copiedNames.contains f=false
structure Meth(K:Í)(C:Addr)(m:Str)(f:Addr):Prop where
 at_:W.findIn K (.ref C) m=some (some (.ref f))
 fn:W.isFn K (.ref f)=true
 kp:ŷ K (.ref f)=true
section
variable {X:Cx}{pins:List (Addr×Obj)}{σ:St}{H:Hp}{s:Shared}{a C dx:Addr}{fs:List (Str×V)}{f:Str}{v:V}{A:Around}{E:Value->Shared->Prop}
end
section
variable {X:Cx}{o e value:Expr}{f:Str}{pos pos' tpos:Pos}{ta tv:TE}
end
section
variable {X:Cx}{pins:List (Addr×Obj)}{σ:St}{H:Hp}{s:Shared}{A:Around}{E:Value->Shared->Prop}{Q:Value->Shared->Prop}{c:Value}{b:Bool}
inductive TyOf(K:Í)(H:Hp):V->Value->Prop where
 |non:TyOf K H .non (.type "NoneType")
 |bl (x:Bool):TyOf K H (.bl x) (.type "bool")
 |int (i:Int):TyOf K H (.int i) (.type "int")
 |str (x:Str):TyOf K H (.str x) (.type "str")
 |flt (x:UInt64):TyOf K H (.flt x) (.type "float")
 |lst {a:Addr}{xs:List V} (e:H a=some (.lst xs)):TyOf K H (.ref a) (.type "list")
 |frz {a:Addr}{o:Obj}{xs:List V} (e:H a=some (.frz o (.lst xs))):TyOf K H (.ref a) (.type "list")
 |tup {a:Addr}{xs:List V} (e:H a=some (.tup xs)):TyOf K H (.ref a) (.type "tuple")
 |dK {a:Addr}{kvs:List (Key×V)} (e:H a=some (.dK kvs)):TyOf K H (.ref a) (.type "dict")
 |dT {a:Addr}{kvs:List (List Key×V)} (e:H a=some (.dT kvs)):TyOf K H (.ref a) (.type "dict")
 |ins {a C dx:Addr}{fs:List (Str×V)} (e:H a=some (.ins C dx fs)) (cl:Cls K C) (ha:W.findIn K (.ref C) "__class__"=some (some (.builtin "object.__class__")))
   (hn:W.specialIn K (.builtin "object.__class__") "__get__"=some (some (.builtin "getset_descriptor.__get__"))) (htk:W.takesIn K (.builtin "object.__class__")=some true)
   (hm:W.mroIn K C (.type "object")=some true):TyOf K H (.ref a) (.ref C)
def vo{x:V}{u t:Value}(I:Inv X pins σ H s)(rx:RelV x u)(ty:TyOf X.K H x t)(e:ū X.K t c=some b)(h:∀tk,Q (.bool b) { s with toks:=tk }) :
  wpAny (model X.prog X.w) A (call (.builtin "isinstance") [u,c]) Q E s:=by
 cases ty with
 |non=>cases (show u=ă from rx);exact Ő W.kitx_none I.kIn Ċ e (λz=>nomatch z) h
 |bl y=>cases (show u=ů y from rx);exact Ő W.kitx_bool I.kIn Ċ e (λz=>nomatch z) h
 |int i=>obtain⟨t,q⟩:=(show ∃t,u=Ğ i t from rx);cases q;exact Ő W.kitx_int I.kIn Ċ e (λz=>nomatch z) h
 |str y=>obtain⟨t,q⟩:=(show ∃t,u=Value.str y t from rx);cases q;exact Ő W.kitx_str I.kIn Ċ e (λz=>nomatch z) h
 |flt y=>obtain⟨t,q⟩:=(show ∃t,u=Value.float y t from rx);cases q;exact Ő W.kitx_float I.kIn Ċ e (λz=>nomatch z) h
 |@lst a xs ea =>
  cases (show u=ò a from rx)
  obtain⟨_,_,n,_,h1⟩:=(show aF X.prog X.w H s.heap a (.lst xs) from I.hok a _ ea)
  exact Ő W.kitx_list I.kIn ⟨_,h1,rfl⟩ e (λz=>nomatch z) h
 |@frz a ob xs ea =>
  cases (show u=ò a from rx)
  obtain⟨_,_,_,n,_,h1⟩:=(show aF X.prog X.w H s.heap a (.frz ob (.lst xs)) from I.hok a _ ea)
  exact Ő W.kitx_list I.kIn ⟨_,h1,rfl⟩ e (λz=>nomatch z) h
 |@tup a xs ea =>
  cases (show u=ò a from rx)
  obtain⟨_,_,_,p⟩:=(show aF X.prog X.w H s.heap a (.tup xs) from I.hok a _ ea)
  obtain⟨o,h1,h2,_⟩:=p
  exact Ő W.kitx_tuple I.kIn ⟨o,h1,h2⟩ e (λz=>nomatch z) h
 |@dK a kvs ea =>
  cases (show u=ò a from rx)
  obtain⟨_,_,vs,_,p⟩:=(show aF X.prog X.w H s.heap a (.dK kvs) from I.hok a _ ea)
  obtain⟨o,es,ep,h1,h2,_⟩:=p
  exact Ő W.kitx_dict I.kIn ⟨o,h1,h2.1⟩ e (λz=>nomatch z) h
 |@dT a kvs ea =>
  cases (show u=ò a from rx)
  obtain⟨_,_,xs,_,o,es,ep,h1,h2,_⟩:=(show aF X.prog X.w H s.heap a (.dT kvs) from I.hok a _ ea)
  exact Ő W.kitx_dict I.kIn ⟨o,h1,h2.1⟩ e (λz=>nomatch z) h
 |@ins a C dx fs ea cl ha hn htk hm =>
  cases (show u=ò a from rx)
  obtain⟨mA,O,_⟩:=uq I.hok ea
  obtain⟨od,J,_⟩:=O.look
  exact Ő (W.kitx_own (cl.get _) cl.hd ha hn htk hm) I.kIn J e (λz=>nomatch z) h
end
structure Room(k:Nat)(A:Around):Prop where
 hd:A.handled=none
 dp:A.depth+3 * k+5<recursionLimit
 un:A.units+16 * k+200<cLine
 gd:A.guards=some []
def Room.mono{j k:Nat}{A:Around}(r:Room k A)(h:j<=k):Room j A:=⟨r.hd,by have:=r.dp;omega,by have:=r.un;omega,r.gd⟩
def Room.deeper{k:Nat}{A:Around}(r:Room (k+1) A)(env:Env):Room k (A.deeper env) :=
 ⟨r.hd,by have:=r.dp;show A.depth+1+3 * k+5<_;omega,by have:=r.un;show A.units+3+16 * k+200<_;omega,r.gd⟩
def Room.depth{k:Nat}{A:Around}(r:Room k A):A.depth<recursionLimit:=by have:=r.dp;omega
def Room.units{k:Nat}{A:Around}(r:Room k A):A.units+64<cLine:=by have:=r.un;omega
def Gp:TA:=λ_ H Q=>Q [] H
def wM(ta:TE)(tr:TA):TA:=λσ H Q=>ta σ H λx H1=>tr σ H1 λxs H2=>Q (x::xs) H2
section
variable {X:Cx}{e:Expr}{es:List Expr}{te:TE}{t:TA}{pos:Pos}
def bZ:PA X [] Gp:=λ_ _ _ _ H Q I h=>Calls.spliced_nil ⟨[],H,I,.nil,h⟩
def aX(ha:PE X e te)(hr:PA X es t)(hs:starEach (e::es) X.env=(false,eval e X.env)::starEach es X.env:=by rfl):PA X (e::es) (wM te t):=by
 intro pos pins s σ H Q I h
 rw[hs]
 show wpAny _ _ (spliced ((false,eval e X.env)::backTo pos (starEach es X.env))) _ _ s
 refine Calls.spliced_cons (thn (ha pins s σ H _ I h) λu s1 ⟨x,H1,I1,r1,q1⟩=>?_)
 exact thn (hr pos pins s1 σ H1 _ I1 q1) λus s2 ⟨xs,H2,I2,r2,q2⟩=>⟨x::xs,H2,I2,.cons r1 r2,q2⟩
def Ij(t:TA):TE:=λσ H Q=>t σ H λxs H1=>xs.length<=sizeLine/\∀p,H1 p=none->Q (.ref p) (upd H1 p (.tup xs))
def Io(t:TA):TE:=λσ H Q=>t σ H λxs H1=>xs.length<=sizeLine/\∀p,H1 p=none->Q (.ref p) (upd H1 p (.lst xs))
def xP{x1}(h:PA X es t):PE X (.Tuple es x1 pos) (Ij t):=by
 intro pins s σ H Q I hq
 refine wpAny_Tuple_spliced (thn (h pos pins s σ H _ I hq) λus s1 ⟨xs,H1,I1,r,z,q⟩=>⟨by rw[←r.length];exact z,?_⟩)
 have hf:H1 s1.heap.objs.size=none:=I1.hok.fresh (Æ _)
 refine⟨.ref s1.heap.objs.size,upd H1 s1.heap.objs.size (.tup xs),I1.laid (t':=s1.toks) (λb u e=>Ä _ e) (Æ _) ?_,rfl,q _ hf⟩
 exact⟨z,us,r,⟨_,Î _ rfl,rfl,_,rfl⟩⟩
def xQ(h:PA X es t):PE X (.List es pos) (Io t):=by
 intro pins s σ H Q I hq
 refine wpAny_List_spliced (thn (h pos pins s σ H _ I hq) λus s1 ⟨xs,H1,I1,r,z,q⟩=>⟨by rw[←r.length];exact z,?_⟩)
 have hf:H1 s1.heap.objs.size=none:=I1.hok.fresh (Æ _)
 refine⟨.ref s1.heap.objs.size,upd H1 s1.heap.objs.size (.lst xs),I1.laid (t':=s1.toks) (λb u e=>Ä _ e) (Æ _) ?_,rfl,q _ hf⟩
 exact⟨z,us,0,r,Î _ rfl⟩
end
abbrev Sp:=List V->Hp->VK->XK->Prop
abbrev CXT:=List Env->Hp->Shared->XK->Value->Shared->Prop
structure Env0(P:Program)(w:World)(K:Í)(mg:Str->Option Value)(base:Heap)(A:Around)(outer:List Env)(s:Shared)(H:Hp):Prop where
 frames:A.frames=some outer
 mod:Mod K mg base
 bs:∀b o,base.get? b=some o->s.heap.get? b=some o/\H b=none
 bsz:base.objs.size<=s.heap.objs.size
 lB:s.heap.FunFrames base outer
 frf:∀b∈frs outer,H b=none
 hok:HOk P w H s.heap
 bare:AllBare s.gens
def CE(outer:List Env)(P:Program)(w:World)(H:Hp)(s:Shared)(Q:VK)(u:Value)(s':Shared):Prop :=
 ∃v H',s'.os=s.os/\AllBare s'.gens/\Un (frs outer) [] H H' s.heap s'.heap/\HOk P w H' s'.heap/\RelV v u/\Q v H'
def CR(CX:CXT)(outer:List Env)(P:Program)(w:World)(H:Hp)(s:Shared)(Q:VK)(E:XK)(r:Result)(s':Shared):Prop :=
 match r with
 |.ok (.ret u)=>CE outer P w H s Q u s'
 |.ok _=>False
 |.error e=>CX outer H s E e s'
structure FnOk(P:Program)(w:World)(K:Í)(mg:Str->Option Value)(base:Heap)(CX:CXT)(k:Nat)(f:Addr)(fd:FuncData)(ps:List Str)(sp:Sp):Prop where
 len:∀vs H Q E,sp vs H Q E->vs.length=ps.length
 run:∀(A:Around) (outer:List Env) (s:Shared) (H:Hp) (args:Args) (us:List Value) (vs:List V) (Q:VK) (E:XK),Room k A->Env0 P w K mg base A outer s H->BindsTo s fd args (ps.zip us)->Vals vs us->sp vs H Q E ->
  codeAny (model P w) A (.call (.ref f) args) (CR CX outer P w H s Q E) s
section
variable {X:Cx}{pins:List (Addr×Obj)}{σ:St}{H:Hp}{s s':Shared}
def Inv.env0(I:Inv X pins σ H s):Env0 X.prog X.w X.K X.mg X.base X.A X.stack s H :=
 ⟨I.ok.frames,I.ok.mod,I.bs,ú I.ok.bsz I.sz,I.stack,I.tE,I.hok,I.bare⟩
def Inv.after{Q:VK}{u:Value}(I:Inv X pins σ H s)(h:CE X.stack X.prog X.w H s Q u s'):EP X pins σ Q u s':=by
 obtain⟨v,H',os,bare,un,hok,r,q⟩:=h
 obtain⟨hh,g,d,t,os'⟩:=s'
 obtain rfl:os'=s.os:=os
 exact⟨v,H',I.call (h':=hh) (g':=g) (d':=d) (t':=t) (ch:=[]) un hok bare (λb z=>absurd z (by simp)),r,q⟩
end
def pY(sp:Sp)(dvs:List V)(E:XK)(t:TA):TE:=λσ H Q=>t σ H λvs H1=>sp (vs++dvs) H1 Q E
def Binds(K:Í)(fd:FuncData)(ps:List Str)(ds:List Value):Prop :=
 ∀(s:Shared) (us:List Value),K.In s.heap->(us++ds).length=ps.length->BindsTo s fd ⟨us,[]⟩ (ps.zip (us++ds))
def Binds.all{K:Í}{fd:FuncData}{ps:List Str}(h:∀us:List Value,us.length=ps.length->bindArgs fd ⟨us,[]⟩=pure (ps.zip us)):Binds K fd ps []:=λs us _ hl=>by
 rw[List.append_nil] at hl ⊢
 exact .of_eq (h us hl)
def Passes(CX:CXT)(X:Cx)(E:XK):Prop:=∀(pins:List (Addr×Obj)) (σ:St) (H:Hp) (s:Shared) (e:Value) (s':Shared),Inv X pins σ H s->CX X.stack H s E e s'->X.xe e s'
section
variable {X:Cx}{CX:CXT}{k:Nat}{f C:Addr}{fd:FuncData}{ps:List Str}{sp:Sp}{dvs:List V}{ds:List Value}{E:XK}{x m:Str}{p pos apos:Pos}{e o:Expr}{es:List Expr}{ta:TE}{t:TA}
def Dk{pins:List (Addr×Obj)}{σ:St}{H:Hp}{s:Shared}{Q:VK}{us:List Value}{vs:List V}(F:FnOk X.prog X.w X.K X.mg X.base CX k f fd ps sp)(hr:Room k X.A)(hb:Binds X.K fd ps ds)(hd:Vals dvs ds)(hx:Passes CX X E)(I:Inv X pins σ H s)(r:Vals vs us)(h:sp (vs++dvs) H Q E):wpAny (model X.prog X.w) X.A (call (.ref f) us) (EP X pins σ Q) X.xe s:=by
 have r2:Vals (vs++dvs) (us++ds):=r.append hd
 have hl:(us++ds).length=ps.length:=by rw[←r2.length];exact F.len _ _ _ _ h
 refine wpAny_call (codeAny_mono (F.run X.A X.stack s H ⟨us,[]⟩ (us++ds) (vs++dvs) Q E hr I.env0 (hb s us I.kIn hl) r2 h) λr s' hq=>?_)
 cases r with
 |error e=>exact hx pins σ H s e s' I hq
 |ok fl =>
  cases fl with
  |ret u=>exact I.after hq
  |next=>exact Ĳ hq
  |brk=>exact Ĳ hq
  |cont=>exact Ĳ hq
def Bd(F:FnOk X.prog X.w X.K X.mg X.base CX k f fd ps sp)(hr:Room k X.A)(hg:Gl X x)(hm:X.mg x=some (.ref f))(hk:ŷ X.K (.ref f)=true)(hb:Binds X.K fd ps ds)(hd:Vals dvs ds)(hx:Passes CX X E)(ha:PA X (e::es) t)(hdb:(x == ("__debug__":Str))=false:=by decide)(he:starEach (e::es) X.env=(false,eval e X.env)::starEach es X.env:=by rfl)(hpl:(backTo pos (starEach es X.env)).any (·.1)=false:=by rfl) :
  PE X (.Call (.Name x p) (e::es) [] pos) (pY sp dvs E t):=by
 intro pins s σ H Q I h
 refine wpAny_Call_Name_kw (ug I hg hm ?_ hdb)
 refine W.callWith_K (h₀:=X.base) I.ok.mod.kin hk (thn (ha pos pins s σ H _ I h) λus s1 ⟨vs,H1,I1,r,q⟩=>⟨I1.kIn,?_⟩) he hpl
 exact Dk F hr hb hd hx I1 r q
structure Mk(K:Í)(C f:Addr):Prop where
 makes:W.makesIn K C=true
 init:W.findIn K (.ref C) "__init__"=some (some (.ref f))
 fn:W.isFn K (.ref f)=true
 kp:ŷ K (.ref C)=true
end
section
variable {X:Cx}{CX:CXT}{k:Nat}{f C:Addr}{fd:FuncData}{ps ks:List Str}{sp:Sp}{E:XK}{x m:Str}{p pos apos kpos:Pos}{e o:Expr}{es:List Expr}{kws:List Keyword}{te ta:TE}{t tk:TA}{nm:Option Str}
structure KBinds(K:Í)(fd:FuncData)(ps ks:List Str)(g:List Value->List Value->List Value)(gV:List V->List V->List V):Prop where
 to:∀(s:Shared) (us ws:List Value),K.In s.heap->(g us ws).length=ps.length->BindsTo s fd ⟨us,ks.zip ws⟩ (ps.zip (g us ws))
 rel:∀{vs:List V}{us:List Value}{zs:List V}{ws:List Value},Vals vs us->Vals zs ws->Vals (gV vs zs) (g us ws)
variable {g:List Value->List Value->List Value}{gV:List V->List V->List V}
end
structure FnScope(N P:List Str)(sc:Scope):Prop where
 kind:sc.kind=.function
 co:sc.isCoroutine=false
 gen:sc.isGenerator=false
 nd:N.Nodup
 pre:N.take P.length=P
 par:∀x∈P,sc.names.lookup x=some .local\/sc.names.lookup x=some .cell
 nofree:∀y∈sc.names,y.2≠.free
def zC{N P:List Str}{sc:Scope}(a:sc.kind=.function:=by rfl)(b:sc.isCoroutine=false:=by rfl)(c:sc.isGenerator=false:=by rfl)(d:N.Nodup:=by decide +kernel)(e:N.take P.length=P:=by rfl)(f:∀x∈P,sc.names.lookup x=some .local\/sc.names.lookup x=some .cell:=by decide +kernel)(g:∀y∈sc.names,y.2≠.free:=by decide +kernel):FnScope N P sc:=⟨a,b,c,d,e,f,g⟩
def nA{kindOf:Str->Option NameKind}{x:Str}:∀{binds:List (Str×Value)}{m:Str->Option Value},(∀v,(x,v)∉binds)->bindL kindOf binds m x=m x
 |[],_,_=>rfl
 |(n,v)::r,m,h=>by
  unfold bindL
  rw[nA λw hw=>h w (Ð _ hw)]
  split
  ·have:x≠n:=by rintro rfl;exact h v Ô
   simp[this]
  ·rfl
def nD{kindOf:Str->Option NameKind}{x:Str}:∀{binds:List (Str×Value)}{m:Str->Option Value},(∀v,(x,v)∉binds)->bindC kindOf binds m x=m x
 |[],_,_=>rfl
 |(n,v)::r,m,h=>by
  unfold bindC
  rw[nD λw hw=>h w (Ð _ hw)]
  split
  ·rfl
  ·have:x≠n:=by rintro rfl;exact h v Ô
   simp[this]
def nC{kindOf:Str->Option NameKind}{x:Str}{v:Value}:∀{P:List Str}{vs:List Value}{i:Nat}{m:Str->Option Value},P.Nodup->P[i]?=some x->vs[i]?=some v->kindOf x=some .local ->
  bindL kindOf (P.zip vs) m x=some v
 |[],_,_,_,_,h,_,_=>by simp at h
 |_::_,[],_,_,_,_,h,_=>by simp at h
 |p::P,w::vs,0,m,nd,h1,h2,hk=>by
  simp at h1 h2;subst h1;subst h2
  show bindL kindOf ((p,w)::P.zip vs) m p=_
  unfold bindL
  rw[nA λv hv=>(œ.mp nd).1 (List.of_mem_zip hv).1,if_pos hk]
  simp
 |p::P,w::vs,i+1,m,nd,h1,h2,hk=>by
  show bindL kindOf ((p,w)::P.zip vs) m x=_
  unfold bindL
  exact nC (i:=i) (œ.mp nd).2 (by simpa using h1) (by simpa using h2) hk
def nF{kindOf:Str->Option NameKind}{x:Str}{v:Value}:∀{P:List Str}{vs:List Value}{i:Nat}{m:Str->Option Value},P.Nodup->P[i]?=some x->vs[i]?=some v->kindOf x≠some .local ->
  bindC kindOf (P.zip vs) m x=some v
 |[],_,_,_,_,h,_,_=>by simp at h
 |_::_,[],_,_,_,_,h,_=>by simp at h
 |p::P,w::vs,0,m,nd,h1,h2,hk=>by
  simp at h1 h2;subst h1;subst h2
  show bindC kindOf ((p,w)::P.zip vs) m p=_
  unfold bindC
  rw[nD λv hv=>(œ.mp nd).1 (List.of_mem_zip hv).1,if_neg hk]
  simp
 |p::P,w::vs,i+1,m,nd,h1,h2,hk=>by
  show bindC kindOf ((p,w)::P.zip vs) m x=_
  unfold bindC
  exact nF (i:=i) (œ.mp nd).2 (by simpa using h1) (by simpa using h2) hk
def start(N:List Str)(vs:List V):St:=vs.map some++È (N.length - vs.length) none
def vK(CX:CXT)(P:Program)(w:World)(K:Í)(mg:Str->Option Value)(base:Heap)(N:List Str)(qual:Str)(scope:Scope)(f:Addr)(cd:Value)(A:Around)(outer:List Env)(s:Shared)(H:Hp)(E:XK):Cx where
 prog:=P
 w:=w
 K:=K
 mg:=mg
 base:=base
 A:=A.deeper (envOfC qual scope s.heap.objs.size f cd)
 N:=N
 s₀:=s
 H₀:=H
 env:=envOfC qual scope s.heap.objs.size f cd
 outer:=outer
 stack:=envOfC qual scope s.heap.objs.size f cd::outer
 ex:=[]
 calm:=true
 fn:=λ_=>true
 pn:=[]
 xe:=λe s'=>wpAny (model P w) (A.deeper (envOfC qual scope s.heap.objs.size f cd)) (leaving (envOfC qual scope s.heap.objs.size f cd) e) (λ_ s''=>CX outer H s E e s'') (λe' s''=>CX outer H s E e' s'') s'
def qP{sc:Scope}{n:Nat}{x:Str}(h:sc.names.lookup x=some .cell):∃c,(cellsFrom n sc.names []).lookup x=some c:=by
 have q:=W.cellsFrom_some sc.names n [] (.inl h)
 exact Ŏ.mp q
def vq{CX:CXT}{P:Program}{w:World}{K:Í}{mg:Str->Option Value}{base:Heap}{N ps:List Str}{qual:Str}{scope:Scope}{f:Addr}{cd:Value}{A:Around}{outer:List Env}{s s1:Shared}{H:Hp}{E:XK}{us:List Value}{vs:List V}(S:FnScope N ps scope)(hd:A.handled=none)(e0:Env0 P w K mg base A outer s H)(hl:vs.length=ps.length)(r:Vals vs us)(x:InCallC s s.heap.objs.size (bindL (envOfC qual scope s.heap.objs.size f cd).kindOf (ps.zip us) λ_=>none) (cellsFrom (s.heap.objs.size+1) scope.names []) (bindC (envOfC qual scope s.heap.objs.size f cd).kindOf (ps.zip us) λ_=>none) s1) :
  Inv (vK CX P w K mg base N qual scope f cd A outer s H E) [] (start N vs) H s1:=by
 have hpl:ps.length<=N.length:=by have:=congrArg List.length S.pre;rw[ņ] at this;omega
 obtain⟨h1,tk,rfl,hk⟩:=x.done
 have noA:∀b:Addr,b∉(vK CX P w K mg base N qual scope f cd A outer s H E).ex:=λb z=>absurd (show b∈([]:List Addr) from z) (by simp)
 refine⟨⟨e0.mod,S.kind,rfl,rfl,Æ _,λy z c h1 h2=>?_,λy hy=>?_,λy c _ h=>?_,λ_=>hd,Around.frames_deeper e0.frames,.inr ⟨rfl,rfl⟩,λb z=>absurd z (noA b),e0.bs,e0.bsz,λb _ _=>noA b,λb z=>absurd z (noA b),e0.lB,e0.frf,λq z=>nomatch (show q∈([]:List (Addr×Obj×HO)) from z)⟩,
  rfl,e0.bare,Un.kept hk,⟨_,x.toInCall.ns,λi y v h1 h2 h3=>?_⟩,λy c h=>⟨_,x.cell y c h⟩,e0.hok.fresh (Æ _),λy c h=>?_,λp hp=>absurd (show p∈([]:List (Addr×Obj)) from hp) (by simp),e0.hok.kept hk,?_⟩
 ·exact name_of_addr x.apart (ě h1) (ě h2)
 ·have hy:scope.names.lookup y=some .cell\/scope.names.lookup y=some .free:=hy
  rcases hy with hy|hy
  ·exact qP hy
  ·exact absurd rfl (S.nofree _ (ě hy))
 ·exact Nat.le_of_lt (x.above y c (ě h))
 ·have hi:i<vs.length:=by
   unfold start at h2
   by_cases hi:i<vs.length
   ·exact hi
   ·rw[î (by simpa using hi)] at h2
    rw[į] at h2
    split at h2 <;> cases h2
  have ha:vs[i]?=some v:=by
   unfold start at h2
   rw[Đ (by simpa using hi),Ú] at h2
   cases e:vs[i]? with
   |none=>rw[e] at h2;cases h2
   |some a=>rw[e] at h2;cases h2;rfl
  obtain⟨u,hu,rv⟩:=r.get ha
  have hp:ps[i]?=some y:=by
   rw[←S.pre,List.getElem?_take_of_lt (by omega)];exact h1
  have ndP:ps.Nodup:=by rw[←S.pre];exact S.nd.sublist (List.take_sublist _ _)
  refine⟨u,rv,?_⟩
  rcases S.par y (Ù hp) with k|k
  ·exact .inl ⟨k,nC ndP hp hu k⟩
  ·obtain⟨c,e⟩:=qP (n:=s.heap.objs.size+1) k
   refine .inr ⟨.inl k,c,e,?_⟩
   have q:=x.cell y c e
   rw[nF ndP hp hu (by show scope.names.lookup y≠_;rw[k];decide)] at q
   exact q
 ·exact e0.hok.fresh (Nat.le_of_lt (x.above y c (ě h)))
 ·unfold start
  show _=N.length
  rw[Ü,Ã,Š]
  omega
def HB{CX:CXT}{P:Program}{w:World}{K:Í}{mg:Str->Option Value}{base:Heap}{k:Nat}{f:Addr}{name qual:Str}{params:Arguments}{body:List Stmt}{scope:Scope}{dV kV doc pm cdv ct oc:Value}{an od:Option Addr}{osl:Array (Option Value)}{N ps:List Str}{sp:Sp}(lk:K.lookup f=some ⟨oc,od,.func (W.fnOf name qual params body scope dV kV doc pm an cdv ct),osl⟩)(hcd:W.codeIn K cdv qual=true)(S:FnScope N ps scope)(len:∀vs H Q E,sp vs H Q E->vs.length=ps.length)(hbody:∀(A:Around) (outer:List Env) (s:Shared) (H:Hp) (vs:List V) (Q:VK) (E:XK),Room k (A.deeper (envOfC qual scope s.heap.objs.size f cdv))->sp vs H Q E ->
   ∃t,PSs (vK CX P w K mg base N qual scope f cdv A outer s H E) body t/\t { nx:=λ_ H'=>Q .non H',rt:=Q } (start N vs) H) :
  FnOk P w K mg base CX (k+1) f (W.fnOf name qual params body scope dV kV doc pm an cdv ct) ps sp:=by
 refine⟨len,λA outer s H args us vs Q E hr e0 hb r hsp=>?_⟩
 have hl:=len _ _ _ _ hsp
 have KX:K.In s.heap:=e0.mod.kin.keeps λb o e=>(e0.bs b o e).1
 have lim:s.heap.NoLimit:=e0.mod.nolimit.keeps λb o e=>(e0.bs b o e).1
 have hkind:∀y∈ps.zip us,scope.names.lookup y.1=some .local\/(scope.names.lookup y.1=some .cell/\((cellsFrom (s.heap.objs.size+1) scope.names []).lookup y.1).isSome=true):=λ⟨n,v⟩ hy=>by
  rcases S.par n (List.of_mem_zip hy).1 with q|q
  ·exact .inl q
  ·exact .inr ⟨q,W.cellsFrom_some _ _ _ (.inl q)⟩
 refine codeAny_call_function hr.depth (KX _ _ lk) rfl S.co S.gen rfl (W.codeRec_of KX hcd) (hb _ _ _ _ ?_)
 refine wpAny_newFunctionEnv_cells S.kind hkind λenv he s1 x=>?_
 subst he
 refine⟨lim.keeps x.toInCall.keep,codeAny_func ?_⟩
 obtain⟨t,ht,hq⟩:=hbody A outer s H vs Q E (hr.deeper _) hsp
 have I:Inv (vK CX P w K mg base N qual scope f cdv A outer s H E) [] (start N vs) H s1:=vq S hr.hd e0 hl r x
 refine Ħ (ht [] s1 (start N vs) H _ I hq) (λfl s' hs=>?_) λe s' hs=>hs
 have fin:∀{σ':St}{H':Hp}{v:V}{u:Value},Inv (vK CX P w K mg base N qual scope f cdv A outer s H E) [] σ' H' s'->RelV v u->Q v H'->CE outer P w H s Q u s' :=
  λ{σ' H' v u} J rv q=>⟨v,H',J.os,J.bare,J.base,J.hok,rv,q⟩
 cases fl with
 |ret u =>
  obtain⟨v,σ',H',J,rv,q⟩:=hs
  exact fin J rv q
 |next =>
  obtain⟨σ',H',J,q⟩:=hs
  exact fin (v:=V.non) (u:=ă) J rfl q
 |brk =>
  obtain⟨_,_,_,q⟩:=hs
  exact Ĳ q
 |cont =>
  obtain⟨_,_,_,q⟩:=hs
  exact Ĳ q
section
variable {X:Cx}{x:Str}{p pos:Pos}{e:Expr}{es:List Expr}{t:TA}{id T:String}{r:List V->Hp->VK->Prop}
def tCB(r:List V->Hp->VK->Prop)(t:TA):TE:=λσ H Q=>t σ H λvs H1=>r vs H1 Q
def bQ(hc:aK X (.builtin id) r)(hg:Gl X x)(hm:X.mg x=none)(hv:bootBuiltins x=some (.builtin id))(ha:PA X (e::es) t)(hn:x≠"__name__":=by decide)(hdb:(x == ("__debug__":Str))=false:=by decide)(he:starEach (e::es) X.env=(false,eval e X.env)::starEach es X.env:=by rfl)(hpl:(backTo pos (starEach es X.env)).any (·.1)=false:=by rfl):PE X (.Call (.Name x p) (e::es) [] pos) (tCB r t):=by
 intro pins s σ H Q I h
 refine wpAny_Call_Name_kw (iQ I hg hm hv ?_ hn hdb)
 exact PyProof.Rows.callWith_builtin1 (thn (ha pos pins s σ H _ I h) λus s1 ⟨vs,H1,I1,r1,q1⟩=>hc pins s1 σ H1 vs us Q I1 r1 q1) he hpl
def uV(hc:aK X (.type T) r)(hg:Gl X x)(hm:X.mg x=none)(hv:bootBuiltins x=some (.type T))(ha:PA X (e::es) t)(hn:x≠"__name__":=by decide)(hdb:(x == ("__debug__":Str))=false:=by decide)(he:starEach (e::es) X.env=(false,eval e X.env)::starEach es X.env:=by rfl)(hpl:(backTo pos (starEach es X.env)).any (·.1)=false:=by rfl):PE X (.Call (.Name x p) (e::es) [] pos) (tCB r t):=by
 intro pins s σ H Q I h
 refine wpAny_Call_Name_kw (iQ I hg hm hv ?_ hn hdb)
 exact İ (thn (ha pos pins s σ H _ I h) λus s1 ⟨vs,H1,I1,r1,q1⟩=>hc pins s1 σ H1 vs us Q I1 r1 q1) he hpl
end
end L2
namespace HT
open PySem PyProof.Rows
section
open PySem.SeqAt
open PySem.AutoSeq1 (wpAny_loadPart')
open PySem.MeetsSeq PySem.MeetsSeq2 PySem.MeetsSeq3
end
section
variable {prog:Program}{w:World}{A:Around}{E:Value->Shared->Prop}{s:Shared}
def BR{t b:Addr}{vs ws:List Value}{Q:Value->Shared->Prop}(ht:IsTup s.heap t vs.toArray)(hb:IsTup s.heap b ws.toArray)(hv:vs≠[])(h1:ws=[]->Q (.ref t) s)(h2:ws≠[]->Q (.ref s.heap.objs.size) { s with heap:=s.heap.push { cls:=.type "tuple",data:=.seq (vs++ws).toArray } })(hsz:vs.length+ws.length<=sizeLine):wpAny (model prog w) A (binaryOp .Add (.ref t) (.ref b)) Q E s:=by
 obtain⟨⟨cls,dd,data,sl⟩,ho,hc,n,hd⟩:=id ht
 obtain⟨⟨cls2,dd2,data2,sl2⟩,ho2,hc2,n2,hd2⟩:=id hb
 simp only at hc hd hc2 hd2
 subst hc hd hc2 hd2
 have e:vs.toArray++ws.toArray=(vs++ws).toArray:=by simp
 by_cases hw:ws=[]
 ·exact concat_meets ⟨_,ho,rfl⟩ ⟨_,ho2,rfl⟩ noFill_tuple_add seq_tuple_add PySem.F.slot_tuple_add PySem.F.entry_tuple_add (PySem.F.args_tuple_add_2 _ _)
   (tuple_addW1 t b vs.toArray ws.toArray n n2 dd dd2 sl sl2 (by simpa using hv) (by simp[hw])) ⟨ho,ho2,h1 hw⟩
 ·refine concat_meets ⟨_,ho,rfl⟩ ⟨_,ho2,rfl⟩ noFill_tuple_add seq_tuple_add PySem.F.slot_tuple_add PySem.F.entry_tuple_add (PySem.F.args_tuple_add_2 _ _)
   (tuple_addW2 t b vs.toArray ws.toArray n n2 dd dd2 sl sl2 (by simpa using hv) (by simpa using hw) (by rw[Ê,Ê];exact hsz)) ⟨ho,ho2,?_⟩
  rw[e]
  exact h2 hw
def sIx(n d:Nat):Option Int->Nat
 |none=>d
 |some v=>if v<0 then (v+(n:Int)).toNat else min v.toNat n
def Dj(n d:Nat)(hd:d<=n)(o:Option Int):sIx n d o<=n:=by
 cases o with
 |none=>exact hd
 |some v =>
  show(if v<0 then (v+(n:Int)).toNat else min v.toNat n)<=n
  by_cases hv:v<0
  ·rw[if_pos hv];omega
  ·rw[if_neg hv];exact Nat.min_le_right _ _
def uE(v:Int)(n d:Nat):(if v<0 then max (v+(n:Int)) 0 else min v (n:Int))=((sIx n d (some v):Nat):Int):=by
 show(if v<0 then max (v+(n:Int)) 0 else min v (n:Int))=(((if v<0 then (v+(n:Int)).toNat else min v.toNat n):Nat):Int)
 by_cases hv:v<0
 ·simp only[if_pos hv];omega
 ·simp only[if_neg hv];omega
def sZ(lo hi:Option Int)(n:Nat):Ť lo hi 1 (n:Int)=(((sIx n 0 lo:Nat):Int),((sIx n n hi:Nat):Int)):=by
 have h1:¬((1:Int)<0):=by omega
 unfold Ť
 simp only[h1,if_false]
 refine Prod.ext ?_ ?_
 ·cases lo with
  |none=>rfl
  |some v=>exact uE v n 0
 ·cases hi with
  |none=>rfl
  |some v=>exact uE v n n
def rE(i j:Nat):ĺ (i:Int) (j:Int) 1=j - i:=by
 unfold ĺ
 have h1:(1:Int) > 0:=by omega
 simp only[h1,if_true,Int.ediv_one]
 split <;> omega
def jU{v:Value}{o:Option Int}{Q:Option Int->Shared->Prop}(p:IsPart v o)(h:Q o s):wpAny (model prog w) A (Builtin.Slice.slicePartIndex v) Q E s:=by
 cases p with
 |none=>exact slicePart_none h
 |int i t=>exact slicePart_int h
def iG{sl:Addr}{vl vu:Value}{lo hi:Option Int}{n:Nat}{Q:Int×Int×Nat->Shared->Prop}(hs:s.heap.IsSliceOf sl vl vu .none)(pl:IsPart vl lo)(pu:IsPart vu hi)(h:Q (((sIx n 0 lo:Nat):Int),1,sIx n n hi - sIx n 0 lo) s):wpAny (model prog w) A (Builtin.Slice.sliceApplied (.ref sl) (pure (n:Int))) Q E s:=by
 obtain⟨os,hos,hcs,hds⟩:=id hs
 unfold Builtin.Slice.sliceApplied Builtin.Slice.sliceFields
 refine Á (Á (ù hos hds (x:=vl) rfl (Á (ù hos hds (x:=vu) rfl (Á (ù hos hds (x:=.none) rfl (Ç ?_)))))))
 refine Á (slicePart_none ?_)
 show wpAny _ _ (if ((1:Int) == 0)=true then _ else _) _ _ s
 rw[if_neg (by decide)]
 refine Á (jU pl (Á (jU pu (Á (Ç ?_)))))
 show wpAny _ _ (match Ť lo hi 1 (n:Int) with|(lo,hi)=>pure (lo,(1:Int),ĺ lo hi 1)) _ _ s
 rw[sZ lo hi n]
 show wpAny _ _ (pure (((sIx n 0 lo:Nat):Int),(1:Int),ĺ ((sIx n 0 lo:Nat):Int) ((sIx n n hi:Nat):Int) 1)) _ _ s
 rw[rE]
 exact Ç h
def xK(xs:Array Value)(i k:Nat):((ã k).filterMap λ(m:Nat)=>xs[((i:Int)+(m:Int) * 1).toNat]?).toArray=((xs.toList.drop i).take k).toArray:=by
 have e:(λ(m:Nat)=>xs[((i:Int)+(m:Int) * 1).toNat]?)=λm=>xs[i+m]?:=by
  funext m
  have:((i:Int)+(m:Int) * 1).toNat=i+m:=by omega
  rw[this]
 rw[e]
 have:=pick_run xs i k
 rw[List.filterMap_map] at this
 have e2:((λx=>xs[x]?) ∘ λx=>i+x)=λm=>xs[i+m]?:=rfl
 rw[e2] at this
 rw[this]
def iu{t sl:Addr}{items:Array Value}{vl vu:Value}{lo hi:Option Int}{Q:Value->Shared->Prop}(ht:IsTup s.heap t items)(hs:s.heap.IsSliceOf sl vl vu .none)(pl:IsPart vl lo)(pu:IsPart vu hi)(hw:¬(sIx items.size 0 lo=0/\sIx items.size items.size hi=items.size))(h:Q (.ref s.heap.objs.size) { s with heap:=s.heap.push { cls:=.type "tuple",data:=.seq ((items.toList.drop (sIx items.size 0 lo)).take (sIx items.size items.size hi - sIx items.size 0 lo)).toArray } })(hsz:items.size<=sizeLine):wpAny (model prog w) A (getItem (.ref t) (.ref sl)) Q E s:=by
 have htake:sizeOk (.seq ((items.toList.drop (sIx items.size 0 lo)).take (sIx items.size items.size hi - sIx items.size 0 lo)).toArray):=by
  show((items.toList.drop (sIx items.size 0 lo)).take (sIx items.size items.size hi - sIx items.size 0 lo)).toArray.size<=sizeLine
  rw[Ê,ņ,Ţ,é]
  omega
 have hj:sIx items.size items.size hi<=items.size:=Dj _ _ (Æ _) hi
 obtain⟨os,hos,hcs,hds⟩:=id hs
 have hTs:s.TypeIs (.ref sl) "slice":=⟨os,hos,hcs⟩
 unfold getItem
 try with_reducible refine Ł ?_
 first|refine Á (Ç ?_)|skip
 refine Á (wpAny_sequenceKey ht.typeIs (by decide) ?_)
 refine Á (ĉ (name:=ğ "__getitem__") ht.typeIs PyProof.Rows.slot_tuple_getitem
  (Ĉ PyProof.Rows.slot_tuple_getitem ht.typeIs entry_tuple_getitem ?_ (args_tuple_getitem _ _)))
 show wpAny _ _ (Builtin.Tuple.tupleItemsOf (.ref t) >>= _) _ _ s
 refine Á (tupleItemsOf_ ht ?_)
 refine Á (wpAny_typeOf hTs ?_)
 rw[if_pos (by decide)]
 refine Á (iG hs pl pu ?_)
 have hno:¬((((sIx items.size 0 lo:Nat):Int) == 0&&(1:Int) == 1&&(sIx items.size items.size hi - sIx items.size 0 lo) == items.size)=true):=by
  intro q
  rw[â,â] at q
  have q1:((sIx items.size 0 lo:Nat):Int)=0:=eq_of_beq q.1.1
  have q2:sIx items.size items.size hi - sIx items.size 0 lo=items.size:=eq_of_beq q.2
  exact hw ⟨by omega,by omega⟩
 show wpAny _ _ (if (((sIx items.size 0 lo:Nat):Int) == 0&&(1:Int) == 1&&(sIx items.size items.size hi - sIx items.size 0 lo) == items.size)=true then _ else _) _ _ s
 rw[if_neg hno,xK]
 first
  |exact Á (m:=Ľ _) (ĭ (Ç ⟨_,rfl,Ç h⟩) htake)
  |exact Á (m:=Ľ _) (ĭ (Á (Ç (Ç ⟨_,rfl,Ç h⟩))) htake)
  |exact Á (Á (m:=Ľ _) (ĭ (Ç (Ç ⟨_,rfl,Ç h⟩)) htake))
  |exact Á (Á (m:=Ľ _) (ĭ (Ç ⟨_,rfl,Ç h⟩) htake))
end
end HT
namespace L2
open PySem PySem.Spec PyProof.Rows
abbrev TO:=St->Hp->(Option Int->Hp->Prop)->Prop
def PO(X:Cx)(e:Option Expr)(t:TO):Prop :=
 ∀(pins:List (Addr×Obj)) (s:Shared) (σ:St) (H:Hp) (Q:Option Int->Hp->Prop),Inv X pins σ H s->t σ H Q ->
  wpAny (model X.prog X.w) X.A (evalPart e X.env) (λu s'=>∃o H',Inv X pins σ H' s'/\IsPart u o/\Q o H') X.xe s
def Ai:TO:=λ_ H Q=>Q none H
def Gj(t:TE):TO:=λσ H Q=>t σ H λx H1=>∃i,x=.int i/\Q (some i) H1
def intsAre_of{ns:List Int}:∀{us:List Value},Vals (ns.map V.int) us->IntsAre us ns:=by
 induction ns with
 |nil=>intro us r;rw[List.map_nil] at r;cases r;exact .nil
 |cons n ns ih =>
  intro us r
  rw[ð] at r
  cases r with
  |cons r1 r2 =>
   obtain⟨t,e⟩:=r1
   subst e
   exact .cons n t (ih r2)
section
variable {X:Cx}{e:Expr}{te:TE}{lo hi:Option Expr}{tl th:TO}{pos p2:Pos}
def Ax:PO X none Ai:=by
 intro pins s σ H Q I h
 rw[evalPart_none]
 exact Ç ⟨none,H,I,.none,h⟩
def Aw(h:PE X e te):PO X (some e) (Gj te):=by
 intro pins s σ H Q I hw
 rw[evalPart_some]
 refine thn (h pins s σ H _ I hw) λu s1 ⟨x,H1,I1,r1,q1⟩=>?_
 obtain⟨i,rfl,q⟩:=q1
 obtain⟨t,rfl⟩:=r1
 exact⟨some i,H1,I1,.int i t,q⟩
def SlR(X:Cx)(r:V->Option Int->Option Int->Hp->VK->Prop):Prop :=
 ∀(pins:List (Addr×Obj)) (s:Shared) (σ:St) (H:Hp) (x:V) (v vl vu:Value) (lo hi:Option Int) (sl:Addr) (Q:VK),Inv X pins σ H s->RelV x v->s.heap.IsSliceOf sl vl vu .none->IsPart vl lo->IsPart vu hi->r x lo hi H Q ->
  ∃T id,typeLookup (.type T) "__getitem__"=pure (some (.builtin id))/\s.TypeIs v T/\wpAny (model X.prog X.w) X.A (getItem v (.ref sl)) (EP X pins σ Q) X.xe s
def SlR.or{r r':V->Option Int->Option Int->Hp->VK->Prop}(h:SlR X r)(h':SlR X r'):SlR X (λx lo hi H Q=>r x lo hi H Q\/r' x lo hi H Q):=by
 intro pins s σ H x v vl vu lo hi sl Q I rx hs pl pu q
 rcases q with q|q
 ·exact h pins s σ H x v vl vu lo hi sl Q I rx hs pl pu q
 ·exact h' pins s σ H x v vl vu lo hi sl Q I rx hs pl pu q
def tSl(r:V->Option Int->Option Int->Hp->VK->Prop)(te:TE)(tl th:TO):TE:=λσ H Q=>te σ H λx H1=>tl σ H1 λl H2=>th σ H2 λu H3=>r x l u H3 Q
def qg{r:V->Option Int->Option Int->Hp->VK->Prop}(hr:SlR X r)(he:PE X e te)(hl:PO X lo tl)(hu:PO X hi th):PE X (.Subscript e (.Slice lo hi none p2) pos) (tSl r te tl th):=by
 intro pins s σ H Q I h
 refine Subscript_ (thn (he pins s σ H _ I h) λv s1 ⟨x,H1,I1,r1,q1⟩=>?_)
 refine wpAny_Slice (thn (hl pins s1 σ H1 _ I1 q1) λvl s2 ⟨l,H2,I2,pl,q2⟩=>thn (hu pins s2 σ H2 _ I2 q2) λvu s3 ⟨u,H3,I3,pu,q3⟩=>?_)
 rw[evalPart_none]
 refine Ç ?_
 have I4:Inv X pins σ H3 { s3 with heap:=s3.heap.push { cls:=.type "slice",data:=.fields #[vl,vu,.none] } }:=I3.kept (t':=s3.toks) λb ob q=>Ä _ q
 obtain⟨T,id,hT,ht,hg⟩:=hr pins { s3 with heap:=s3.heap.push { cls:=.type "slice",data:=.fields #[vl,vu,.none] } } σ H3 x v vl vu l u s3.heap.objs.size Q I4 r1 (Heap.IsSliceOf.new ..) pl pu q3
 show wpAny (model X.prog X.w) X.A (subscriptTail e (.Slice lo hi none p2) v (.ref s3.heap.objs.size)) (EP X pins σ Q) X.xe { s3 with heap:=s3.heap.push { cls:=.type "slice",data:=.fields #[vl,vu,.none] } }
 exact tail_any (ops:=[.ref s3.heap.objs.size,v]) ht hT hg (by with_unfolding_all rfl)
def jw(xs:List V)(lo hi:Option Int):List V:=(xs.drop (HT.sIx xs.length 0 lo)).take (HT.sIx xs.length xs.length hi - HT.sIx xs.length 0 lo)
def jj(xs:List V)(lo hi:Option Int):(jw xs lo hi).length<=xs.length:=by
 unfold jw
 rw[ņ,Ţ]
 omega
def Iz(K:Í):V->Option Int->Option Int->Hp->VK->Prop:=λx lo hi H Q=>∃a xs,x=.ref a/\SqT K H a xs /\
 ¬(HT.sIx xs.length 0 lo=0/\HT.sIx xs.length xs.length hi=xs.length)/\∀p,H p=none->Q (.ref p) (upd H p (.tup (jw xs lo hi)))
def wU:SlR X (Iz X.K):=by
 intro pins s σ H x v vl vu lo hi sl Q I rx hs pl pu h
 obtain⟨a,xs,rfl,hx,hw,q⟩:=h
 cases rx
 obtain⟨its,r,ht,hz⟩:=I.tuple hx
 have hlen:its.toArray.size=xs.length:=by rw[Ê];exact r.length.symm
 refine⟨"tuple",_,PyProof.Rows.slot_tuple_getitem.lookup,ht.typeIs,?_⟩
 refine HT.iu ht hs pl pu (by rw[hlen];exact hw) ?_ (by rw[hlen];exact hz)
 rw[hlen]
 refine⟨.ref s.heap.objs.size,_,I.laid (t':=s.toks) (o:=.tup (jw xs lo hi)) (λb ob q=>Ä _ q) (Æ _) ?_,rfl,q _ (I.hok.fresh (Æ _))⟩
 exact⟨ú (jj xs lo hi) hz,_,(r.drop (HT.sIx xs.length 0 lo)).take (HT.sIx xs.length xs.length hi - HT.sIx xs.length 0 lo),IsTup.new _ _⟩
def GK(K:Í):R2:=λx y H Q=>∃a b xs ys,x=.ref a/\y=.ref b/\SqT K H a xs/\SqT K H b ys/\xs≠[]/\xs.length+ys.length<=sizeLine /\
 (ys=[]->Q (.ref a) H)/\(ys≠[]->∀p,H p=none->Q (.ref p) (upd H p (.tup (xs++ys))))
def Vals.oV{xs:List V}{us:List Value}(r:Vals xs us):us=[]↔xs=[]:=by
 cases r with
 |nil=>simp
 |cons _ _=>simp
def Bg:OpR X (binaryOp .Add) (GK X.K):=by
 intro pins s σ H x y v u Q I rx ry h
 obtain⟨a,b,xs,ys,rfl,rfl,ha,hb,hx,hz,q1,q2⟩:=h
 cases rx
 cases ry
 obtain⟨its,r1,p1,_⟩:=I.tuple ha
 obtain⟨its2,r2,p2,_⟩:=I.tuple hb
 refine HT.BR p1 p2 (λz=>hx (r1.oV.mp z)) (λz=>⟨.ref a,H,I,rfl,q1 (r2.oV.mp z)⟩) (λz=>?_) (by rw[←r1.length,←r2.length];exact hz)
 refine⟨.ref s.heap.objs.size,_,I.laid (t':=s.toks) (o:=.tup (xs++ys)) (λb ob q=>Ä _ q) (Æ _) ?_,rfl,q2 (λw=>z (r2.oV.mpr w)) _ (I.hok.fresh (Æ _))⟩
 exact⟨by rw[Ü];exact hz,_,r1.append r2,IsTup.new _ _⟩
end
def ixN(n:Nat)(i:Int):Option Nat:=if 0<=i then (if i<n then some i.toNat else none) else if -(n:Int)<=i then some (i+n).toNat else none
def atI{α:Type}(xs:List α)(i:Int):Option α:=(ixN xs.length i).bind λj=>xs[j]?
def Bw{n:Nat}{i:Int}{j:Nat}(h:ixN n i=some j):seqIndex? i n=some j/\j<n/\-(n:Int)<=i/\i<n:=by
 unfold ixN at h
 by_cases h0:0<=i
 ·rw[if_pos h0] at h
  by_cases h1:i<n
  ·rw[if_pos h1] at h
   have e:i.toNat=j:=Ì h
   exact⟨by rw[seqIndex_of h0 h1,e],by omega,by omega,h1⟩
  ·rw[if_neg h1] at h;cases h
 ·rw[if_neg h0] at h
  by_cases h1:-(n:Int)<=i
  ·rw[if_pos h1] at h
   have e:(i+n).toNat=j:=Ì h
   exact⟨by rw[seqIndex_neg (by omega) h1,e],by omega,h1,by omega⟩
  ·rw[if_neg h1] at h;cases h
def pR{α:Type}{xs:List α}{i:Int}{v:α}(h:atI xs i=some v):∃j,seqIndex? i xs.length=some j/\xs[j]?=some v/\j<xs.length/\-(xs.length:Int)<=i/\i<xs.length:=by
 unfold atI at h
 cases e:ixN xs.length i with
 |none=>rw[e] at h;cases h
 |some j =>
  rw[e] at h
  obtain⟨h1,h2,h3,h4⟩:=Bw e
  exact⟨j,h1,h,h2,h3,h4⟩
def fO{α:Type}{xs:List α}{j:Nat}{v:α}(h:xs[j]?=some v):atI xs (j:Int)=some v:=by
 have hj:j<xs.length:=(Ñ.mp h).1
 have e:ixN xs.length (j:Int)=some j:=by
  unfold ixN
  rw[if_pos (by omega),if_pos (by omega)];simp
 unfold atI;rw[e];exact h
def iC(b:Expr):Prop:=∀o i,subscripted b false o i=operate [o,i] (getItem o i)
def IxR(X:Cx)(r:R2):Prop :=
 ∀(value slice:Expr) (pins:List (Addr×Obj)) (s:Shared) (σ:St) (H:Hp) (x y:V) (v u:Value) (Q:VK),Inv X pins σ H s->RelV x v->RelV y u->r x y H Q ->
  subscripted slice false v u=operate [v,u] (getItem v u)->wpAny (model X.prog X.w) X.A (subscriptTail value slice v u) (EP X pins σ Q) X.xe s
def MtR(X:Cx)(id:String)(r:V->List V->Hp->VK->Prop):Prop :=
 ∀(pins:List (Addr×Obj)) (s:Shared) (σ:St) (H:Hp) (x:V) (xs:List V) (v:Value) (us:List Value) (Q:VK),Inv X pins σ H s->RelV x v->Vals xs us->r x xs H Q ->
  wpAny (model X.prog X.w) X.A (call (.builtin id) (v::us)) (EP X pins σ Q) X.xe s
section
variable {X:Cx}{a b:Expr}{ta tb:TE}{pos:Pos}
def IxR.or{r r':R2}(h:IxR X r)(h':IxR X r'):IxR X (λx y H Q=>r x y H Q\/r' x y H Q):=by
 intro value slice pins s σ H x y v u Q I rx ry q hs
 rcases q with q|q
 ·exact h value slice pins s σ H x y v u Q I rx ry q hs
 ·exact h' value slice pins s σ H x y v u Q I rx ry q hs
def xR{r:R2}(hr:IxR X r)(ha:PE X a ta)(hb:PE X b tb)(hs:iC b):PE X (.Subscript a b pos) (tOp r ta tb):=by
 intro pins s σ H Q I h
 exact Subscript_ (FT ha hb I h λv u s2 x y H2 I2 rx ry q=>hr a b pins s2 σ H2 x y v u Q I2 rx ry q (hs _ _))
def I9(K:Í):R2:=λx y H Q=>∃p xs i v,x=.ref p/\y=.int i/\SqL K H p xs/\atI xs i=some v/\Q v H
def IV(K:Í):R2:=λx y H Q=>∃p xs i v,x=.ref p/\y=.int i/\SqT K H p xs/\atI xs i=some v/\Q v H
def IW:R2:=λx y H Q=>∃z i c,x=.str z/\y=.int i/\z.length<=sizeLine/\atI z.cps.toList i=some c/\Q (.str ⟨#[c]⟩) H
def o7:IxR X (I9 X.K):=by
 intro value slice pins s σ H x y v u Q I rx ry h hs
 obtain⟨p,xs,i,z,rfl,rfl,hq,he,q⟩:=h
 cases rx
 obtain⟨t,rfl⟩:=ry
 obtain⟨its,r,pl,hz⟩:=I.list hq
 obtain⟨j,h1,h2,h3,h4,h5⟩:=pR he
 obtain⟨w,ew,rw'⟩:=r.get h2
 have hl:=r.length
 have hn:=kW
 have fin:EP X pins σ Q w s:=⟨z,H,I,rw',q⟩
 by_cases h0:0<=i
 ·have hj:i.toNat=j:=by
   rw[seqIndex_of h0 h5] at h1
   exact Ì h1
  exact item_listR pl.isList h0 (by omega) (by rw[hj];simpa using ew) fin hs
 ·have hj:(i+(its.toArray.size:Int)).toNat=j:=by
   rw[seqIndex_neg (by omega) h4] at h1
   rw[Ê,←hl]
   exact Ì h1
  exact subscriptTail_builtinR (x:=w) pl.isList.typeIs slot_list_getitem.lookup
   (wpAny_getItem_list_neg (Q:=λr s'=>r=w/\EP X pins σ Q r s') pl.isList (by omega) (by rw[Ê] <;> omega) (by omega) (by rw[hj];simpa using ew) ⟨rfl,fin⟩) hs
def yN:IxR X (IV X.K):=by
 intro value slice pins s σ H x y v u Q I rx ry h hs
 obtain⟨p,xs,i,z,rfl,rfl,hq,he,q⟩:=h
 cases rx
 obtain⟨t,rfl⟩:=ry
 obtain⟨its,r,pl,hz⟩:=I.tuple hq
 obtain⟨j,h1,h2,h3,h4,h5⟩:=pR he
 obtain⟨w,ew,rw'⟩:=r.get h2
 have hl:=r.length
 have hn:=kW
 have fin:EP X pins σ Q w s:=⟨z,H,I,rw',q⟩
 exact subscriptTail_builtinR (x:=w) pl.typeIs slot_tuple_getitem.lookup
  (getItem_tuple (j:=j) (Q:=λr s'=>r=w/\EP X pins σ Q r s') pl (by omega) (by omega) (by rw[Ê,←hl];exact h1) (by simpa using ew) ⟨rfl,fin⟩) hs
def Fb:IxR X IW:=by
 intro value slice pins s σ H x y v u Q I rx ry h hs
 obtain⟨z,i,c,rfl,rfl,hz,he,q⟩:=h
 obtain⟨t,rfl⟩:=rx
 obtain⟨t',rfl⟩:=ry
 obtain⟨j,h1,h2,h3,h4,h5⟩:=pR he
 have hl:z.cps.toList.length=z.length:=by simp[Str.length]
 rw[hl] at h1 h4 h5
 have hn:=kW
 exact tail_any (typeIs_str s z t) slot_str_getitem.lookup (getItem_str (c:=c) (by
  have e1:decide (i < -(2 ^ 63:Int))=false:=decide_eq_false (by omega)
  have e2:decide (i ≥ 2 ^ 63)=false:=decide_eq_false (by omega)
  rw[e1,e2,Bool.or_false]) (by rw[h1];simpa using h2) ⟨.str ⟨#[c]⟩,H,I.tok _,⟨_,rfl⟩,q⟩) hs
def nM(lo hi:Option Int)(n:Nat):(sliceBounds lo hi none n).1=((HT.sIx n 0 lo:Nat):Int)/\(sliceBounds lo hi none n).2.1=((HT.sIx n n hi:Nat):Int)/\(sliceBounds lo hi none n).2.2=1:=by
 refine⟨?_,?_,rfl⟩
 ·cases lo with
  |none=>simp[sliceBounds,HT.sIx]
  |some i =>
   simp only[sliceBounds,HT.sIx,Option.getD_none,show(1:Int) > 0 by decide,if_true]
   by_cases h:i<0
   ·simp only[h,if_true] <;> omega
   ·simp only[h,if_false] <;> omega
 ·cases hi with
  |none=>simp[sliceBounds,HT.sIx]
  |some i =>
   simp only[sliceBounds,HT.sIx,Option.getD_none,show(1:Int) > 0 by decide,if_true]
   by_cases h:i<0
   ·simp only[h,if_true] <;> omega
   ·simp only[h,if_false] <;> omega
def lW(its:List Value)(lo hi:Option Int):slicePick its.toArray lo hi none=((its.drop (HT.sIx its.length 0 lo)).take (HT.sIx its.length its.length hi - HT.sIx its.length 0 lo)).toArray:=by
 obtain⟨h1,h2,h3⟩:=nM lo hi its.toArray.size
 unfold slicePick
 rw[h1,h2,h3]
 simp only[sliceRange_one,pick_run,Ê] <;> rfl
def IK(K:Í):V->Option Int->Option Int->Hp->VK->Prop:=λx lo hi H Q=>∃a xs,x=.ref a/\SqL K H a xs/\∀p,H p=none->Q (.ref p) (upd H p (.lst (jw xs lo hi)))
def tH:SlR X (IK X.K):=by
 intro pins s σ H x v vl vu lo hi sl Q I rx hs pl pu h
 obtain⟨a,xs,rfl,hx,q⟩:=h
 cases rx
 obtain⟨its,r,ht,hz⟩:=I.list hx
 have hlen:=r.length
 refine⟨"list",_,slot_list_getitem.lookup,ht.isList.typeIs,?_⟩
 refine wpAny_getItem_list_slice ht.isList hs pl pu .none (by simp) ?_ (by rw[Ê] <;> omega)
 rw[lW,←hlen]
 refine⟨.ref s.heap.objs.size,_,I.laid (t':=s.toks) (o:=.lst (jw xs lo hi)) (λb ob q=>Ä _ q) (Æ _) ?_,rfl,q _ (I.hok.fresh (Æ _))⟩
 exact⟨ú (jj xs lo hi) hz,_,0,(r.drop (HT.sIx xs.length 0 lo)).take (HT.sIx xs.length xs.length hi - HT.sIx xs.length 0 lo),Î _ rfl⟩
def dB:aK X (.builtin "len") (λxs H Q=>∃p ys,xs=[.ref p]/\(SqL X.K H p ys\/SqT X.K H p ys)/\Q (.int ys.length) H):=by
 intro pins s σ H xs us Q I r h
 obtain⟨p,ys,rfl,hq,q⟩:=h
 obtain⟨u,rfl,rx⟩:=vals1 r
 cases rx
 have hn:=kW
 rcases hq with hq|hq
 ·obtain⟨its,r',pl,hz⟩:=I.list hq
  have hlen:=r'.length
  exact Calls.call_len_list pl.isList (by simp only[Ê] <;> omega) ⟨.int ys.length,H,I.tok _,⟨s.toks+1,by rw[Ê,hlen]⟩,q⟩
 ·obtain⟨its,r',pl,hz⟩:=I.tuple hq
  have hlen:=r'.length
  exact len_tuple pl (by simp only[Ê] <;> omega) ⟨.int ys.length,H,I.tok _,⟨s.toks+1,by rw[Ê,hlen]⟩,q⟩
def pO:aK X (.builtin "len") (λxs H Q=>∃z,xs=[.str z]/\z.length<=sizeLine/\Q (.int z.length) H):=by
 intro pins s σ H xs us Q I r h
 obtain⟨z,rfl,hz,q⟩:=h
 obtain⟨u,rfl,t,rfl⟩:=vals1 r
 have hn:=kW
 exact len_str (by omega) ⟨.int z.length,H,I.tok _,⟨_,rfl⟩,q⟩
def mj:aK X (.type "tuple") (λxs H Q=>∃p ys,xs=[.ref p]/\((SqL X.K H p ys/\∀l,H l=none->Q (.ref l) (upd H l (.tup ys)))\/(SqT X.K H p ys/\Q (.ref p) H))):=by
 intro pins s σ H xs us Q I r h
 obtain⟨p,ys,rfl,h⟩:=h
 obtain⟨u,rfl,rx⟩:=vals1 r
 cases rx
 rcases h with ⟨hq,q⟩|⟨hq,q⟩
 ·obtain⟨its,r',pl,hz⟩:=I.list hq
  have hlen:=r'.length
  refine call_tuple_list pl.isList (λh' kp=>?_) (by simp only[Ê] <;> omega)
  have I1:Inv X pins σ H { s with heap:=h' }:=I.kept (t':=s.toks) kp
  have I2:Inv X pins σ (upd H h'.objs.size (.tup ys)) { s with heap:=h'.push { cls:=.type "tuple",data:=.seq its.toArray } } :=
   I1.laid (t':=s.toks) (λb o e=>Ä _ e) (Æ _) (show aF X.prog X.w _ _ _ (.tup ys) from⟨hz,its,r',IsTup.new _ _⟩)
  exact⟨.ref h'.objs.size,_,I2,rfl,q _ (I1.hok.fresh (Æ _))⟩
 ·obtain⟨its,r',pl,hz⟩:=I.tuple hq
  exact call_tuple_same pl ⟨.ref p,H,I,rfl,q⟩
def tyV(K:Í)(T:String)(x:V)(H:Hp):Prop:=match x with
 |.str _=>T="str"
 |.int _=>T="int"
 |.ref p=>(T="list"/\∃xs,SqL K H p xs)\/(T="tuple"/\∃o,K.lookup p=some o/\o.cls=.type "tuple"/\o.dict=none) ∨
   (T="dict"/\((∃kvs,H p=some (.dK kvs))\/∃kvs,H p=some (.dT kvs)))\/(T="set"/\∃S n,H p=some (.set S n))
 |_=>False
def CW{pins:List (Addr×Obj)}{σ:St}{H:Hp}{s:Shared}{T:String}{x:V}{v:Value}(I:Inv X pins σ H s)(r:RelV x v)(ty:tyV X.K T x H) :
  s.TypeIs v T/\∀a,v=.ref a->∃ob,s.heap.get? a=some ob/\ob.dict=none:=by
 cases x with
 |str z =>
  obtain⟨t,rfl⟩:=r
  cases (show T="str" from ty)
  exact⟨typeIs_str s z t,λ_ e=>nomatch e⟩
 |int i =>
  obtain⟨t,rfl⟩:=r
  cases (show T="int" from ty)
  exact⟨typeIs_int s i t,λ_ e=>nomatch e⟩
 |ref p =>
  cases r
  rcases ty with ⟨rfl,xs,hq⟩|⟨rfl,o,hk,hc,hd⟩|⟨rfl,hk⟩|⟨rfl,S,n,hk⟩
  ·obtain⟨its,_,pl,_⟩:=I.list hq
   refine⟨pl.isList.typeIs,λa e=>?_⟩
   cases e
   obtain⟨o,n,e,c,hd,_⟩:=pl
   exact⟨o,e,hd⟩
  ·refine⟨⟨o,I.kIn p o hk,hc⟩,λa e=>?_⟩
   cases e
   exact⟨o,I.kIn _ o hk,hd⟩
  ·have z:∃o,s.heap.get? p=some o/\o.ExactDict:=by
    rcases hk with ⟨kvs,hk⟩|⟨kvs,hk⟩
    ·obtain⟨_,_,_,_,o,_,_,e,ex,_⟩:=I.hok p _ hk
     exact⟨o,e,ex⟩
    ·obtain⟨_,_,_,_,o,_,_,e,ex,_⟩:=I.hok p _ hk
     exact⟨o,e,ex⟩
   obtain⟨o,e,ex⟩:=z
   refine⟨⟨o,e,ex.1⟩,λa e2=>?_⟩
   cases e2
   exact⟨o,e,ex.2.1⟩
  ·obtain⟨o,_,_,_,e,ex,_⟩:=I.hok p _ hk
   refine⟨⟨o,e,ex.1⟩,λa e2=>?_⟩
   cases e2
   exact⟨o,e,ex.2.1⟩
 |_=>exact Ĳ ty
def tBM(K:Í)(T:String)(r:V->List V->Hp->VK->Prop)(to:TE)(t:TA):TE:=λσ H Q=>to σ H λx H1=>tyV K T x H1/\t σ H1 λxs H2=>r x xs H2 Q
variable {o e:Expr}{es:List Expr}{to:TE}{t:TA}{name:Str}{apos cpos:Pos}{T id:String}{r:V->List V->Hp->VK->Prop}
def tY(pa:PlainAttrs T)(slot:Slot T name id)(hty:typeOf (.builtin id)=pure (.type "method_descriptor"))(hm:MtR X id r)(ho:PE X o to)(ha:PA X (e::es) t)(hbase:attributeBase o name X.env (eval o X.env)=eval o X.env:=by rfl)(hfew:((backTo cpos (starEach (e::es) X.env)).all (λx=>!x.1)&&(backToKw cpos (keywordEach [] X.env)).all (λx=>x.1.isSome)
  &&decide ((e::es).length+([]:List Keyword).length+(if ([]:List Keyword).isEmpty then 0 else 1)<30))=true:=by rfl)(hline:(apos.endLine == cpos.line)=true:=by rfl)(hs:starEach (e::es) X.env=(false,eval e X.env)::starEach es X.env:=by rfl)(hplain:(backTo cpos (starEach es X.env)).any (·.1)=false:=by rfl) :
  PE X (.Call (.Attribute o name apos) (e::es) [] cpos) (tBM X.K T r to t):=by
 intro pins s σ H Q I h
 refine wpAny_Call_method_late hbase hfew hline rfl (thn (ho pins s σ H _ I h) λv s1 ⟨x,H1,I1,r1,ty,q1⟩=>?_)
 obtain⟨h1,h2⟩:=CW I1 r1 ty
 refine⟨T,id,pa,slot,hty,h1,h2,?_⟩
 have hA:=ha cpos pins s1 σ H1 _ I1 q1
 rw[hs] at hA ⊢
 refine Calls.callWith_builtin (by show(false || (backTo cpos (starEach es X.env)).any (·.1))=false;rw[hplain] <;> rfl) (Calls.evalArgs_plain ?_)
 exact thn hA λus s2 ⟨vs,H2,I2,r2,q2⟩=>hm pins s2 σ H2 x vs v us Q I2 r1 r2 q2
/- xs.append(e),list.index on a module's tuple .. are MtR facts of 06m -/
end
def MtM(X:Cx)(id:String)(r:V->List V->Hp->VK->Prop):Prop :=
 ∀(pins:List (Addr×Obj)) (s:Shared) (σ:St) (H:Hp) (x:V) (xs:List V) (v:Value) (us:List Value) (Q:VK),Inv X pins σ H s->RelV x v->Vals xs us->r x xs H Q ->
  wpAny (model X.prog X.w) X.A (call (.builtin id) (v::us)) (EP X pins σ Q) X.xe s
def Vals.one:∀{x:V}{us:List Value},Vals [x] us->∃u,us=[u]/\RelV x u
 |_,_,.cons r .nil=>⟨_,rfl,r⟩
def Vals.two:∀{x y:V}{us:List Value},Vals [x,y] us->∃u v,us=[u,v]/\RelV x u/\RelV y v
 |_,_,_,.cons r (.cons q .nil)=>⟨_,_,rfl,r,q⟩
def Vals.rep{xs:List V}{us:List Value}(h:Vals xs us):∀k:Nat,Vals (È k xs).flatten (È k us).flatten
 |0=>.nil
 |k+1=>by
  rw[Ĝ,Ĝ,ľ,ľ]
  exact Vals.append h (Vals.rep h k)
def foldl_rep(its:List Value):∀(k:Nat) (acc:List Value),
  List.foldl (λx1 x2=>x1++x2) acc.toArray (È k its.toArray)=(acc++(È k its).flatten).toArray
 |0,acc=>by simp
 |k+1,acc=>by
  have e:acc.toArray++its.toArray=(acc++its).toArray:=by simp
  have e2:(acc++its)++(È k its).flatten=acc++(È (k+1) its).flatten:=by
   rw[Ĝ,ľ,Ŀ]
  rw[←e2,←foldl_rep its k (acc++its),←e,Ĝ,List.foldl_cons]
section
variable {X:Cx}{pins:List (Addr×Obj)}{σ:St}{H:Hp}{s:Shared}{l b:Addr}{xs ys zs:List V}
def Inv.Es{its its':List Value}{n:Nat}{f:Array Value->Array Value}{t':Nat}(I:Inv X pins σ H s)(hH:H l=some (.lst xs))(e:s.heap.get? l=some { cls:=.type "list",data:=.seq its.toArray n })(hf:f its.toArray=its'.toArray)(hv:Vals ys its')(hz:ys.length<=sizeLine) :
  Inv X pins σ (upd H l (.lst ys)) { s with heap:=s.heap.update l (ë f),toks:=t' }:=by
 have q:=PySem.IsL.update e f
 rw[hf] at q
 refine I.write (x:=l) (e:=l) (by rw[hH];exact trivial) (.inl rfl) (λb' u hb hu=>(Heap.get?_update_other s.heap (ë f) (è hb)).trans hu) ⟨_,q⟩ ?_
 exact⟨hz,its',_,hv,q⟩
def Inv.Hq{its:List Value}{t':Nat}(I:Inv X pins σ H s)(hv:Vals ys its)(hz:ys.length<=sizeLine) :
  Inv X pins σ (upd H s.heap.objs.size (.lst ys)) { s with heap:=s.heap.push { cls:=.type "list",data:=.seq its.toArray },toks:=t' } :=
 I.laid (λ_ _ q=>Ä _ q) (Æ _) ⟨hz,its,0,hv,Î _ rfl⟩
def Inv.fresh(I:Inv X pins σ H s):H s.heap.objs.size=none:=I.hok.fresh (Æ _)
def Inv.rT(I:Inv X pins σ H s)(hH:H l=some (.lst xs)):xs.length<=sizeLine/\∃(its:List Value) (n:Nat),Vals xs its/\xs.length=its.length/\s.heap.get? l=some { cls:=.type "list",data:=.seq its.toArray n }:=by
 obtain⟨z,its,n,r,e⟩:=I.hok l _ hH
 exact⟨z,its,n,r,r.length,e⟩
def qx{n:Nat}(h:n<=sizeLine):ŀ n=false:=by
 unfold ŀ
 exact decide_eq_false (by omega)
end
section
variable {X:Cx}
def tR:V->List V->Hp->VK->Prop:=λx vs H Q=>∃l xs y,x=.ref l/\vs=[y]/\H l=some (.lst xs)/\xs.length<sizeLine/\Q .non (upd H l (.lst (xs++[y])))
def u9:MtM X "list.append" tR:=by
 intro pins s σ H x vs v us Q I rx rv h
 obtain⟨l,xs,y,rfl,rfl,hH,hz,q⟩:=h
 cases rx
 obtain⟨u,rfl,ru⟩:=rv.one
 obtain⟨z,its,n,r,hl,e⟩:=I.rT hH
 refine Ū F.slot_list_append ⟨_,e,rfl⟩ F.entry_list_append (F.args_list_append_2 _ _) (PySem.list_append l its.toArray n u (by rw[Ê];omega)) ⟨e,?_⟩
 refine⟨.non,_,I.Es (its':=its++[u]) hH e (by simp) (r.append (.cons ru .nil)) ?_,rfl,q⟩
 rw[Ü,List.length_singleton]
 omega
def Ao:V->List V->Hp->VK->Prop:=λx vs H Q=>∃l b xs zs,x=.ref l/\vs=[.ref b]/\H l=some (.lst xs)/\H b=some (.lst zs)/\xs.length+zs.length<=sizeLine/\Q .non (upd H l (.lst (xs++zs)))
def Gb:MtM X "list.extend" Ao:=by
 intro pins s σ H x vs v us Q I rx rv h
 obtain⟨l,b,xs,zs,rfl,rfl,hH,hB,hz,q⟩:=h
 cases rx
 obtain⟨u,rfl,ru⟩:=rv.one
 cases ru
 obtain⟨z,its,n,r,hl,e⟩:=I.rT hH
 obtain⟨z2,its2,n2,r2,hl2,e2⟩:=I.rT hB
 have hsz:its.toArray.size+its2.toArray.size<=sizeLine:=by rw[Ê,Ê];omega
 have hlong:¬(!its.toArray.isEmpty&&ŀ (its.toArray.size+its2.toArray.size))=true:=by
  rw[qx hsz,Bool.and_false]
  exact Ë
 refine Ū F.slot_list_extend ⟨_,e,rfl⟩ F.entry_list_extend (F.args_list_extend_2 _ _)
  (AutoSeq1.list_extend_list_list_0 l its.toArray n b its2.toArray n2 hlong (by rw[Ê];omega) (by omega)) ⟨e,e2,?_⟩
 refine⟨.non,_,I.Es (its':=its++its2) hH e (by simp) (r.append r2) ?_,rfl,q⟩
 rw[Ü]
 omega
def GP:R2:=λx y H Q=>∃l b xs zs,x=.ref l/\y=.ref b/\H l=some (.lst xs)/\H b=some (.lst zs)/\xs.length+zs.length<=sizeLine/\∀p,H p=none->Q (.ref p) (upd H p (.lst (xs++zs)))
def yp:OpR X (binaryOp .Add) GP:=by
 intro pins s σ H x y v u Q I rx ry h
 obtain⟨l,b,xs,zs,rfl,rfl,hH,hB,hz,q⟩:=h
 cases rx
 cases ry
 obtain⟨z,its,n,r,hl,e⟩:=I.rT hH
 obtain⟨z2,its2,n2,r2,hl2,e2⟩:=I.rT hB
 refine PySem.P.add_list e e2 ?_ (by rw[Ê,Ê];omega)
 have ea:its.toArray++its2.toArray=(its++its2).toArray:=by simp
 rw[ea]
 exact⟨.ref _,_,I.Hq (t':=s.toks) (r.append r2) (by rw[Ü];omega),rfl,q _ I.fresh⟩
def GF:R2:=λx y H Q=>∃l k xs,x=.ref l/\y=.int k/\H l=some (.lst xs)/\-(2 ^ 63)<=k/\k<2 ^ 63/\xs.length * k.toNat<=sizeLine /\
 ∀p,H p=none->Q (.ref p) (upd H p (.lst (È k.toNat xs).flatten))
def len_rep{α:Type}(xs:List α)(k:Nat):(È k xs).flatten.length=k * xs.length:=by
 induction k with
 |zero=>simp
 |succ k ih=>rw[Ĝ,ľ,Ü,ih,Nat.succ_mul,Nat.add_comm]
def Ef:OpR X (binaryOp .Mult) GF:=by
 intro pins s σ H x y v u Q I rx ry h
 obtain⟨l,k,xs,rfl,rfl,hH,h1,h2,hz,q⟩:=h
 cases rx
 obtain⟨t,rfl⟩:=ry
 obtain⟨z,its,n,r,hl,e⟩:=I.rT hH
 have hlen:its.toArray.size * k.toNat<=sizeLine:=by rw[Ê,←hl];exact hz
 have hcap:¬its.toArray.size * k.toNat > (2 ^ 63 - 1) / 8:=by
  have:(sizeLine:Nat)<=(2 ^ 63 - 1) / 8:=by decide
  omega
 have hfit:¬(!Builtin.List.listFitsIndex k)=true:=by
  rw[fitsIndex_both h1 h2]
  exact Ë
 have hlong:¬ŀ (its.toArray.size * k.toNat)=true:=by
  rw[qx hlen]
  exact Ë
 have hnew:List.foldl (λx1 x2=>x1++x2) #[] (È (if its.toArray.isEmpty=true then 0 else k.toNat) its.toArray)=(È k.toNat its).flatten.toArray:=by
  have f0:∀m:Nat,List.foldl (λx1 x2=>x1++x2) #[] (È m its.toArray)=(È m its).flatten.toArray:=λm=>by
   have:=foldl_rep its m []
   rw[List.nil_append] at this
   exact this
  rw[f0]
  cases its with
  |nil=>simp
  |cons a r'=>rw[if_neg (by simp)]
 refine wpAny_binaryOp_repeat_ref (T:="list") (U:="int") (by decide) ⟨_,e,rfl⟩ (λs'=>typeIs_int s' k t) noFill_list_mul F.fills_int_mul F.slot_int_rmul repeat_list F.slot_int_index.lookup
  (Ū F.slot_int_rmul (typeIs_int s k t) F.entry_int_rmul (F.args_int_rmul_2 _ _) (int___rmul___int_list k t l its.toArray n)
   ⟨e,rfl,⟨_,e,rfl⟩,Ū F.slot_list_mul ⟨_,e,rfl⟩ F.entry_list_mul (F.args_list_mul_2 _ _) (AutoListH.list___mul___list_int_3 l its.toArray n k t hfit hcap hlong) ⟨e,?_⟩⟩)
 rw[hnew]
 exact⟨.ref _,_,I.Hq (t':=s.toks) (r.rep k.toNat) (by rw[len_rep,Nat.mul_comm];exact hz),rfl,q _ I.fresh⟩
end
section
variable {prog:Program}{w:World}{A:Around}{E:Value->Shared->Prop}{s:Shared}
end
section
variable {X:Cx}
end
end L2
namespace Att
open PySem PySem.W PySem.Calls PyProof.Rows
def jt{P:Params}{h:Heap}:∀(ns:List Int) (vs:List Value),WellAll P h vs (ns.map WData.int)->IntsAre vs ns:=by
 intro ns
 induction ns with
 |nil =>
  intro vs w
  rw[List.map_nil] at w
  cases w
  exact .nil
 |cons n ns ih =>
  intro vs w
  rw[ð] at w
  cases w with
  |cons a b =>
   cases a
   exact .cons _ _ (ih _ b)
def uQ{l:OpenLaw}{n:Nat}(hn:l.most=some n){P:Params}{h:Heap}{args:List WData}{vals:List Value}(hpre:l.row.toRowW.claim.pre args=true)(hwl:WellAll P h vals args) :
  ∃a vs ns,vals=[ò a]/\args=[WData.list (ns.map WData.int)]/\h.get? a=some { cls:=.type "list",data:=.seq vs.toArray }/\IntsAre vs ns/\ns.length<=n:=by
 have hsh:WShape.hasAll [] args [.list .int]=true:=(pre_splitW hpre).1
 have hc:l.pre.holds [] { args:=args }=true:=(pre_splitW hpre).2
 obtain⟨d,r,rfl,h1,h2⟩:=hasAllW_cons hsh
 obtain rfl:=hasAllW_nil h2
 obtain⟨xs,rfl,h3⟩:=hasW_list h1
 obtain⟨ns,rfl⟩:=items_int h3
 have hlen:ns.length<=n:=by
  unfold OpenLaw.pre at hc
  have h4:(WTm.not (.lt (.lit (.int (n:Int))) (.len (.arg 0)))).holds [] { args:=[.list (ns.map .int)] }=true:=by
   have h4:=(holds_andW hc).1
   rw[hn] at h4
   exact h4
  have h5:=condW_of h4 (w_not (w_lt w_lit (w_len_list (w_arg rfl))))
  rw[Ã] at h5
  refine Nat.le_of_not_lt λq=>?_
  have q':(n:Int)<((ns.length:Nat):Int):=by omega
  first
   |(rw[decide_eq_true q'] at h5;exact absurd h5 (by decide))
   |(simp at h5;omega)
 cases hwl with
 |cons w1 w2 =>
  cases w2
  cases w1 with
  |list ho hall=>exact⟨_,_,ns,rfl,rfl,ho,jt ns _ hall,hlen⟩
def uT(l:OpenLaw)(args:List WData):l.row.toRowW.claim.post args (.bool true) args=true :=
 postW_of (r:=l.row.toRowW) (X:=(true == true))
  (show WShape.has [] (.bool true) .bool=true by first|rfl|decide|simp[WShape.has,WShape.arms,WShape.armsAll])
  (show(WTm.eq .res (.lit (.bool true))).value [] { args:=args,res:=some (.bool true),after:=args }=some (.bool (true == true)) from w_eq_bool (w_res rfl) w_lit) rfl
def qU{l:OpenLaw}{n:Nat}{q:Program}{loose:List Str}{XP:(Str->Option Value)->Heap->Prop}{YP:World->Heap->Prop}{d:DefRec}(hn:l.most=some n)(hdf:d.params.defaults=[])(call:∀(w:World) (s₀ s₁:Shared) (mg mb:Str->Option Value) (fa:Addr) (o:Obj) (pm cd doc:Value) (a:Addr) (vs:List Value) (ns:List Int),
   Ground q loose [] XP w s₀ mg mb s₁.heap->YP w s₁.heap ->
   s₁.heap.get? fa=some o->o.data=.func (docDef d.name d.params d.body d.scope pm cd doc)->s₁.heap.CodeRec cd d.name->mg d.name=some (.ref fa) ->
   s₁.heap.get? a=some { cls:=.type "list",data:=.seq vs.toArray }->IntsAre vs ns->ns.length<=n->s₁.gens=#[] ->
   codeAny (model l.prog w) callerA (.call (.ref fa) ⟨[.ref a],[]⟩) (λr s'=>r=.ok (.ret (.bool true))/\OldK s₁.heap s'.heap/\s'.os=s₁.os/\AllBare s'.gens) s₁) :
  WalkO q loose XP YP l.row.toRowW d [] (λf vs=>PySem.call f vs):=by
 intro w s₀ s₁ mg mb G Y fa o pm cd doc dV kV ho hd hcd hD hmg hg args vals as hpre hlay hrd hwl hlo
 obtain rfl:dV=.none:=Dflts.none hD hdf
 obtain rfl:kV=.none:=Dflts.noKw hD
 obtain⟨a,vs,ns,rfl,rfl,hobj,hints,hlen⟩:=uQ hn hpre hwl
 refine enter_call (codeAny_mono (call w s₀ s₁ mg mb fa o pm cd doc a vs ns G Y ho (fd_plain hd) hcd hmg hobj hints hlen hg) λr s' hq=>?_)
 obtain⟨rfl,h2,h3,h4⟩:=hq
 exact⟨.inl ⟨.bool true,.bool true,[],rfl,λ_=>rfl,.bool true,uT l _,λ_=>⟨List.Pairwise.nil,λ_ hm=>(nomatch hm)⟩⟩,h2,h3,h4⟩
section
variable {prog:Program}{w:World}{A:Around}{E:Value->Shared->Prop}{s:Shared}{K:Frag}
def ledger(h:Heap)(L d:Addr):List (Addr×Obj):=(ã h.objs.size).filterMap λa=>if a=L\/a=d then none else (h.get? a).map λo=>(a,o)
end
end Att
namespace L2
open PySem PySem.Spec PyProof.Rows
def mD:∀{vs:List Value}{ns:List Int},IntsAre vs ns->Vals (ns.map V.int) vs
 |_,_,.nil=>.nil
 |_,_,.cons n t h=>.cons ⟨t,rfl⟩ (mD h)
def Only(H:Hp):Prop:=∀b,H b=none\/∃o xs,H b=some (.frz o (.lst xs))
def yL{P:Program}{w:World}{K:Í}{mg mb:Str->Option Value}{CX:CXT}{k:Nat}{fa a:Addr}{fd:FuncData}{x:Str}{sp:Sp}{s₁:Shared}{vs:List Value}{ns:List Int}(KX:K.In s₁.heap)(hns:s₁.heap.Ns mainGlobals mg)(hb:s₁.heap.Ns builtinsNs mb)(hbb:∀x:Str,x≠"__name__"->mb x=bootBuiltins x)(hlim:s₁.heap.NoLimit)(hg:s₁.gens=#[])(ha:s₁.heap.get? a=some { cls:=.type "list",data:=.seq vs.toArray })(hi:IntsAre vs ns)(hl:ns.length<=sizeLine)(hr:Room k callerA)(F:∀base:Heap,K.In base->base.Ns mainGlobals mg->FnOk P w K mg base CX k fa fd [x] sp)(hbind:∀(s:Shared) (u:Value),BindsTo s fd ⟨[u],[]⟩ [(x,u)])(hsp:∀H:Hp,Only H->SqL K H a (ns.map V.int)->sp [.ref a] H (λv _=>v=.bl true) λ_ _ _=>False)(hCX:∀H e s',CX [] H s₁ (λ_ _ _=>False) e s'->False) :
  codeAny (model P w) callerA (.call (.ref fa) ⟨[.ref a],[]⟩) (λr s'=>r=.ok (.ret (.bool true))/\OldK s₁.heap s'.heap/\s'.os=s₁.os/\AllBare s'.gens) s₁:=by
 have rv:=mD hi
 have lenV:=hi.length
 -- from an abstract heap in which nothing but the script may be tracked
 have core:∀H:Hp,Only H->SqL K H a (ns.map V.int)->HOk P w H s₁.heap->(∀b,H b≠none->b=a)->(H a≠none->K.lookup a=none) ->
   codeAny (model P w) callerA (.call (.ref fa) ⟨[.ref a],[]⟩) (λr s'=>r=.ok (.ret (.bool true))/\OldK s₁.heap s'.heap/\s'.os=s₁.os/\AllBare s'.gens) s₁:=by
  intro H hO hS hok hA hK
  have base_of:∀{b:Addr}{o:Obj},s₁.heap.get? b=some o->H b=none->(o8 s₁.heap H).get? b=some o:=λe n=>yO e n
  have noA:∀{b:Addr}{o:Obj}{es:Array DictEntry}{ep:Nat},s₁.heap.get? b=some o->o.data=.dict es ep->H b=none:=λ{b o es ep} e d=>by
   cases q:H b with
   |none=>rfl
   |some u =>
    have e':b=a:=hA b (by rw[q];simp)
    subst e'
    rw[ha] at e;cases e
    have d':Data.seq vs.toArray _=Data.dict es ep:=d
    cases d'
  have nsK:∀{b:Addr}{m:Str->Option Value},s₁.heap.Ns b m->(o8 s₁.heap H).Ns b m:=λ{b m} ⟨o,es,ep,e,d,r⟩=>⟨o,es,ep,base_of e (noA e d),d,r⟩
  have hKb:K.In (o8 s₁.heap H):=λb o e=>base_of (KX b o e) (by
   cases q:H b with
   |none=>rfl
   |some u =>
    have e':b=a:=hA b (by rw[q];simp)
    subst e'
    rw[hK (by rw[q];simp)] at e;cases e)
  have hM:Mod K mg (o8 s₁.heap H):=⟨hKb,nsK hns,⟨mb,nsK hb,hbb⟩,let ⟨mc,h1,h2⟩:=hlim;⟨mc,nsK h1,h2⟩⟩
  have e0:Env0 P w K mg (o8 s₁.heap H) callerA [] s₁ H:=⟨rfl,hM,λb o e=>Bm e,Nat.le_of_eq (vA _ _),trivial,λb hb=>absurd (show b∈([]:List Addr) from hb) (by simp),hok,.of_eq hg⟩
  refine codeAny_mono ((F _ hKb (nsK hns)).run callerA [] s₁ H ⟨[.ref a],[]⟩ [.ref a] [.ref a] _ _ hr e0 (hbind s₁ (.ref a)) (.cons rfl .nil) (hsp H hO hS)) λr s' h=>?_
  cases r with
  |error e=>exact(hCX H e s' h).elim
  |ok fl =>
   cases fl with
   |next=>exact Ĳ h
   |brk=>exact Ĳ h
   |cont=>exact Ĳ h
   |ret u =>
    obtain⟨v,H',os,bare,un,hok',r',q⟩:=h
    have q':v=.bl true:=q
    subst q'
    obtain rfl:u=ů true:=r'
    refine⟨rfl,OldK.of_keep λb o e=>?_,os,bare⟩
    cases q:H b with
    |none=>exact un.keep b o e q (by intro z;exact absurd (show b∈([]:List Addr) from z) (by simp)) (by simp)
    |some u =>
     rcases hO b with z|⟨ob,xs,z⟩
     ·rw[q] at z;cases z
     ·have z2:=un.frzs b ob _ z
      obtain⟨e1,_⟩:=hok b _ z
      obtain⟨e2,_⟩:=hok' b _ z2
      rw[e] at e1;cases e1
      exact e2
 cases hk:K.lookup a with
 |some o =>
  -- the script is one of the module's own objects
  have e:=KX a o hk
  rw[ha] at e
  cases e
  refine core (λ_=>none) (λ_=>.inl rfl) (.inr ⟨_,vs.toArray,_,hk,rfl,rfl,rfl,by rw[Ê,lenV];exact hl,by simpa using rv⟩) (λb u z=>by have z':(none:Option HO)=some u:=z;cases z') (λb z=>absurd rfl z) λz=>absurd rfl z
 |none =>
  refine core (λb=>if b=a then some (.frz { cls:=.type "list",data:=.seq vs.toArray } (.lst (ns.map V.int))) else none) (λb=>?_) (.inl (.inr ⟨{ cls:=.type "list",data:=.seq vs.toArray },if_pos rfl⟩)) (λb u z=>?_) (λb z=>?_) λ_=>hk
  ·by_cases hb:b=a
   ·exact .inr ⟨_,_,if_pos hb⟩
   ·exact .inl (if_neg hb)
  ·by_cases hb:b=a
   ·have z':=(if_pos hb).symm.trans z
    cases z'
    subst hb
    exact⟨ha,by rw[Ã];exact hl,vs,_,rv,ha⟩
   ·have z':=(if_neg hb).symm.trans z
    cases z'
  ·by_cases hb:b=a
   ·exact hb
   ·exact absurd (if_neg hb) z
def Ah{l:W.OpenLaw}{n k:Nat}{q:Program}{loose:List Str}{XP:(Str->Option Value)->Heap->Prop}{YP:World->Heap->Prop}{d:DefRec}{K:Params->Í}{CX:World->CXT}{sp:World->Sp}{x:Str}(hn:l.most=some n)(hn2:n<=sizeLine)(hdf:d.params.defaults=[])(hr:Room k callerA)(hY:∀(w:World) (h:Heap),YP w h->(K w.params).In h)(F:∀(w:World) (mg:Str->Option Value) (fa:Addr) (h:Heap),(K w.params).In h->h.Ns mainGlobals mg->mg d.name=some (.ref fa) ->
   ∃fd:FuncData,(∀(s:Shared) (u:Value),BindsTo s fd ⟨[u],[]⟩ [(x,u)]) /\
    ∀base:Heap,(K w.params).In base->base.Ns mainGlobals mg->FnOk l.prog w (K w.params) mg base (CX w) k fa fd [x] (sp w))(hsp:∀(w:World) (H:Hp) (a:Addr) (ns:List Int),ns.length<=n->Only H->SqL (K w.params) H a (ns.map V.int)->sp w [.ref a] H (λv _=>v=.bl true) λ_ _ _=>False)(hCX:∀(w:World) (H:Hp) (s:Shared) (e:Value) (s':Shared),CX w [] H s (λ_ _ _=>False) e s'->False) :
  W.WalkO q loose XP YP l.row.toRowW d [] (λf vs=>PySem.call f vs):=by
 refine Att.qU hn hdf λw s₀ s₁ mg mb fa o pm cd doc a vs ns G Y ho hd hcd hmg hobj hints hlen hg=>?_
 have KX:=hY w _ Y
 obtain⟨fd,hb,hF⟩:=F w mg fa _ KX G.T.g hmg
 exact yL KX G.T.g G.T.b G.T.builtins G.T.nolimit hg hobj hints (ú hlen hn2) hr hF hb (λH hO hS=>hsp w H a ns hlen hO hS) λH e s'=>hCX w H s₁ e s'
def fL(s:Stmt):Arguments:=match s with
 |.FunctionDef _ a _ _ _ _ _ _ _ _=>a
 |_=>{ posonlyargs:=[],args:=[],vararg:=none,kwonlyargs:=[],kw_defaults:=[],kwarg:=none,defaults:=[] }
def cZ(s:Stmt):List Stmt:=match s with
 |.FunctionDef _ _ b _ _ _ _ _ _ _=>b
 |_=>[]
def aq(s:Stmt):Scope:=match s with
 |.FunctionDef _ _ _ _ _ _ sc _ _ _=>sc
 |_=>{ kind:=.function,names:=[],isGenerator:=false,isCoroutine:=false }
abbrev CX0:CXT:=λ_ _ _ _ _ _=>False
abbrev E0:XK:=λ_ _ _=>False
def G6{X:Cx}:Passes CX0 X E0:=λ_ _ _ _ _ _ _ h=>h.elim
structure Fun(K:Í)(x qual:Str)(st:Stmt)(f:Addr)(fd:FuncData):Prop where
 ex:∃(oc:Value) (od:Option Addr) (kV doc pm:Value) (an:Option Addr) (cdv ct:Value) (osl:Array (Option Value)),
  fd=W.fnOf x qual (fL st) (cZ st) (aq st) .none kV doc pm an cdv ct/\K.lookup f=some ⟨oc,od,.func fd,osl⟩/\W.codeIn K cdv qual=true
 kp:ŷ K (.ref f)=true
section
variable {P:Program}{w:World}{K:Í}{mg:Str->Option Value}{base:Heap}
def Fun.ok{x qual:Str}{st:Stmt}{f:Addr}{fd:FuncData}{N ps:List Str}{k:Nat}{sp:Sp}(F:Fun K x qual st f fd)(S:FnScope N ps (aq st))(len:∀vs H Q E,sp vs H Q E->vs.length=ps.length)(hbody:∀(cdv:Value) (A:Around) (outer:List Env) (s:Shared) (H:Hp) (vs:List V) (Q:VK) (E:XK),Room k (A.deeper (envOfC qual (aq st) s.heap.objs.size f cdv))->sp vs H Q E ->
   ∃t,PSs (vK CX0 P w K mg base N qual (aq st) f cdv A outer s H E).nox (cZ st) t/\t { nx:=λ_ H'=>Q .non H',rt:=Q } (start N vs) H):FnOk P w K mg base CX0 (k+1) f fd ps sp:=by
 obtain⟨oc,od,kV,doc,pm,an,cdv,ct,osl,rfl,lk,hcd⟩:=F.ex
 refine HB lk hcd S len λA outer s H vs Q E hr hsp=>?_
 obtain⟨t,h,q⟩:=hbody cdv A outer s H vs Q E hr hsp
 exact⟨t,h.nox,q⟩
def Fun.binds{x qual:Str}{st:Stmt}{f:Addr}{fd:FuncData}{ps:List Str}(F:Fun K x qual st f fd)(h:∀(kV doc pm:Value) (an:Option Addr) (cdv ct:Value) (us:List Value),us.length=ps.length->bindArgs (W.fnOf x qual (fL st) (cZ st) (aq st) .none kV doc pm an cdv ct) ⟨us,[]⟩=pure (ps.zip us):=by intro _ _ _ _ _ _ us hl;first|(obtain⟨_,rfl⟩:=Nf.len1 us hl;rfl)|(obtain⟨_,_,rfl⟩:=Nf.len2 us hl;rfl)|(obtain⟨_,_,_,rfl⟩:=Nf.Jh us hl;rfl)):Binds K fd ps []:=by
 obtain⟨oc,od,kV,doc,pm,an,cdv,ct,osl,rfl,lk,hcd⟩:=F.ex
 exact .all (h kV doc pm an cdv ct)
def Fq{x qual:Str}{st:Stmt}{f:Addr}{oc:Value}{od an:Option Addr}{osl:Array (Option Value)}{kV doc pm cdv ct:Value}(l:K.lookup f=some ⟨oc,od,.func (W.fnOf x qual (fL st) (cZ st) (aq st) .none kV doc pm an cdv ct),osl⟩)(c:W.codeIn K cdv qual=true)(k:ŷ K (.ref f)=true):Fun K x qual st f (W.fnOf x qual (fL st) (cZ st) (aq st) .none kV doc pm an cdv ct):=⟨⟨oc,od,kV,doc,pm,an,cdv,ct,osl,rfl,l,c⟩,k⟩
end
section
variable {X:Cx}
def pv(i:Nat){x:Str}{pos:Pos}(hN:X.N[i]?=some x:=by rfl)(hv:Vis X.env.scope x:=by first|exact Ş rfl|exact Ż (Ş rfl)|exact Ż (Ż rfl))(hd:(x == ("__debug__":Str))=false:=by decide)(hcd:(x == ("__classdict__":Str))=false:=by decide):PE X (.Name x pos) (lV i):=Dy hN hv hd hcd
end
def aC{A B:Prop}(h:B):if false=true then A else B:=by
 rw[if_neg Ë]
 exact h
def aU{A B:Prop}(h:A):if true=true then A else B:=by
 rw[if_pos rfl]
 exact h
def Fd{c A B:Prop}[Decidable c](h1:c->A)(h2:¬c->B):if c then A else B:=by
 by_cases h:c
 ·rw[if_pos h]
  exact h1 h
 ·rw[if_neg h]
  exact h2 h
def Same(H H':Hp):Prop:=∀b o,H b=some o->H' b=some o
def Same.refl(H:Hp):Same H H:=λ_ _ h=>h
structure CB where
 cl:List (Str×Addr)
 C:Addr
 s:Shared
 H:Hp
 ex:List Addr
abbrev Cx.bI(X:Cx)(own M:List Str)(scope:Scope)(c:CB):Cx where
 prog:=X.prog
 w:=X.w
 K:=X.K
 mg:=X.mg
 base:=X.base
 A:=X.A
 N:=own++M
 s₀:=c.s
 H₀:=c.H
 env:=compEnvC scope c.cl c.C X.env
 outer:=X.stack
 stack:=X.stack
 ex:=c.ex
 fn:=λx=>scope.names.lookup x == some .cell
 calm:=X.calm
 pn:=[]
 sf:=X.sf
 xe:=λ_ _=>False
abbrev Cx.comp(X:Cx)(own:List Str)(scope:Scope)(c:CB):Cx:=X.bI own X.N scope c
def bJ(cells:List (Str×Addr)):List (Str×NameKind)->List (Str×Addr)->List (Str×Addr)
 |[],acc=>acc
 |(n,k)::r,acc=>if k == .free then bJ cells r ((n,(cells.lookup n).getD 0)::acc) else bJ cells r acc
def dz{env:Env}:∀(names:List (Str×NameKind)) (acc:List (Str×Addr)),(∀x∈names,x.2=.free->∃c,env.cells.lookup x.1=some c) ->
  (forIn names acc λ(p:Str×NameKind) (r:List (Str×Addr))=>match p with
   |(name,kind)=>if (kind == á)=true then do let a ←cellOf env name;pure (ó ((name,a)::r)) else pure (ó r):Sem (List (Str×Addr)))=pure (bJ env.cells names acc)
 |[],acc,_=>by simp[bJ]
 |(n,k)::r,acc,h=>by
  rw[List.forIn_cons]
  by_cases hk:(k == á)=true
  ·obtain⟨c,hc⟩:=h (n,k) Ô (by simpa using hk)
   have e:cellOf env n=pure c:=by unfold cellOf;rw[hc]
   have ih:=dz (env:=env) r ((n,c)::acc) λx hx=>h x (Ð _ hx)
   show((if (k == á)=true then do let a ←cellOf env n;pure (ó ((n,a)::acc)) else pure (ó acc)) >>= _:Sem _)=_
   rw[if_pos hk,e]
   unfold bJ
   rw[if_pos hk,hc]
   exact ih
  ·have ih:=dz (env:=env) r acc λx hx=>h x (Ð _ hx)
   show((if (k == á)=true then do let a ←cellOf env n;pure (ó ((n,a)::acc)) else pure (ó acc)) >>= _:Sem _)=_
   rw[if_neg hk]
   unfold bJ
   rw[if_neg hk]
   exact ih
def sW{scope:Scope}{env:Env}(h:∀x∈scope.names,x.2=.free->∃c,env.cells.lookup x.1=some c):closureFor scope env=pure (bJ env.cells scope.names []):=by
 have e:=dz (env:=env) scope.names [] h
 unfold closureFor
 show(forIn scope.names [] _ >>= λcs=>pure cs:Sem _)=_
 have e2:(forIn scope.names ([]:List (Str×Addr)) λ(p:Str×NameKind) (r:List (Str×Addr))=>match p with
   |(name,kind)=>if (kind == á)=true then do let a ←cellOf env name;pure (ó ((name,a)::r)) else pure (ó r):Sem (List (Str×Addr)))=pure (bJ env.cells scope.names []):=e
 rw[e2]
 rfl
def iB{cells:List (Str×Addr)}{x:Str}{c:Addr}:∀{names:List (Str×NameKind)}{acc:List (Str×Addr)},(bJ cells names acc).lookup x=some c->acc.lookup x=some c\/((x,á)∈names/\c=(cells.lookup x).getD 0)
 |[],acc,h=>.inl h
 |(n,k)::r,acc,h=>by
  unfold bJ at h
  by_cases hk:(k == á)=true
  ·rw[if_pos hk] at h
   have hk':k=.free:=by simpa using hk
   rcases iB h with q|⟨q1,q2⟩
   ·rw[Ĕ] at q
    cases hx:x == n with
    |true =>
     rw[hx] at q
     have e:x=n:=by simpa using hx
     subst e hk'
     exact .inr ⟨Ô,(Ì q).symm⟩
    |false=>rw[hx] at q;exact .inl q
   ·exact .inr ⟨Ð _ q1,q2⟩
  ·rw[if_neg hk] at h
   rcases iB h with q|⟨q1,q2⟩
   ·exact .inl q
   ·exact .inr ⟨Ð _ q1,q2⟩
def lN{cells:List (Str×Addr)}{x:Str}:∀{names:List (Str×NameKind)}{acc:List (Str×Addr)},(acc.lookup x).isSome=true->((bJ cells names acc).lookup x).isSome=true
 |[],_,h=>h
 |(n,k)::r,acc,h=>by
  unfold bJ
  split
  ·refine lN ?_
   rw[Ĕ]
   cases hx:x == n <;> simp[h]
  ·exact lN h
def eV{cells:List (Str×Addr)}{x:Str}:∀{names:List (Str×NameKind)}{acc:List (Str×Addr)},(x,á)∈names->((bJ cells names acc).lookup x).isSome=true
 |(n,k)::r,acc,h=>by
  unfold bJ
  rcases Ï.mp h with e|h
  ·cases e
   rw[if_pos (by rfl)]
   exact lN (by simp[Ĕ])
  ·split
   ·exact eV h
   ·exact eV h
def gB(env:Env)(scope:Scope)(N:List Str):Bool :=
 (scope.kind == .function)&&scope.names.all λy=>match y.2 with
  |.local=>!(N.contains y.1)&&(scope.names.lookup y.1 == some .local)
  |.cell=>!(N.contains y.1)&&(scope.names.lookup y.1 == some .cell)
  |.free=>(scope.names.lookup y.1 == some .free)&&(env.kindOf y.1 == some .cell || env.kindOf y.1 == some .free)
  |_=>true
def bH{env:Env}:∀{names:List (Str×NameKind)}{x:Str}{q:NameKind},(names.map λ(n,k)=>if (k == á&&env.scope.kind == .function&&env.kindOf n == some .cell) then (n,ç) else (n,k)).lookup x=some q ->
  ∃k,(x,k)∈names/\names.lookup x=some k/\(q=k\/(q=.cell/\k=.free))
 |[],_,_,h=>by simp at h
 |(n,k)::r,x,q,h=>by
  have ih:=@bH env r x q
  have h':List.lookup x ((if (k == á&&env.scope.kind == .function&&env.kindOf n == some .cell)=true then (n,ç) else (n,k))::(r.map λ(n,k)=>if (k == á&&env.scope.kind == .function&&env.kindOf n == some .cell) then (n,ç) else (n,k)))=some q:=h
  by_cases hc:(k == á&&env.scope.kind == .function&&env.kindOf n == some .cell)=true
  ·rw[if_pos hc,Ĕ] at h'
   cases hx:x == n with
   |true =>
    rw[hx] at h'
    have e:x=n:=by simpa using hx
    subst e
    have hk:k=.free:=by simp at hc;exact hc.1.1
    exact⟨k,Ô,by simp[Ĕ],.inr ⟨(Ì h').symm,hk⟩⟩
   |false =>
    rw[hx] at h'
    obtain⟨k',h1,h2,h3⟩:=ih h'
    exact⟨k',Ð _ h1,by rw[Ĕ,hx];exact h2,h3⟩
  ·rw[if_neg hc,Ĕ] at h'
   cases hx:x == n with
   |true =>
    rw[hx] at h'
    have e:x=n:=by simpa using hx
    subst e
    exact⟨k,Ô,by simp[Ĕ],.inl (Ì h').symm⟩
   |false =>
    rw[hx] at h'
    obtain⟨k',h1,h2,h3⟩:=ih h'
    exact⟨k',Ð _ h1,by rw[Ĕ,hx];exact h2,h3⟩
def HOk.track{P:Program}{w:World}{H:Hp}{h:Heap}{a:Addr}{o:HO}(x:HOk P w H h)(hn:H a=none)(new:aF P w (upd H a o) h a o):HOk P w (upd H a o) h:=λb u e=>by
 by_cases hb:b=a
 ·subst hb;rw[ao] at e;cases e;exact new
 ·rw[aj hb] at e
  exact(x b u e).stay (λc v _ q=>q) (λc q=>by rw[aj (ak q hn)];exact q) λc xs q=>by rw[aj (ak q hn)];exact q
def vN{prog:Program}{w:World}{A:Around}{s:Shared}{elt target iter:Expr}{ifs:List Expr}{scope:Scope}{pos:Pos}{it acc:Value}{env:Env}{R:Result->Shared->Prop}(I:Nat->Shared->Prop)(turn:∀n s,I n s->wpAny (model prog w) A (pyNext it) (λr s₁=>match r with
   |none=>R (.ok .next) s₁
   |some v=>wpAny (model prog w) A (letOwnedTupleGo target it v) (λ_ s₀=>wpAny (model prog w) A (assign target env v) (λ_ s₂ =>
     wpAny (model prog w) A (forIn ifs true λc r=>if r=true then do let ok ←isTrue c env (eval c env);pure (ó ok) else pure (ó r)) (λok s₃ =>
      if ok=true then wpAny (model prog w) A (eval elt env) (λx s₄ =>
       wpAny (model prog w) A (call (.builtin "list.append") [acc,x]) (λ_ s₅=>∃m,m<n/\I m s₅) (λ_ _=>False) s₄) (λ_ _=>False) s₃
      else ∃m,m<n/\I m s₃) (λ_ _=>False) s₂) (λ_ _=>False) s₀) (λ_ _=>False) s₁) (λ_ _=>False) s)(n:Nat)(h:I n s):codeAny (model prog w) A (.compLoop (.ListComp elt [⟨target,iter,ifs,0⟩] scope pos) 0 it acc env) R s:=by
 refine codeAny_loop rfl I (λn s hI=>?_) n h
 show wpAny _ A ((compTurn (.ListComp elt [⟨target,iter,ifs,0⟩] scope pos) 0 it acc env).onRaise (λx=>do noteFrame x env;theTreesLotGoes x)) _ _ s
 refine wpAny_noted ?_
 rw[compTurn_list]
 refine Á (wpAny_standAt (Á (Ħ (turn n s hI) (λr s₁ h₁=>?_) λ_ _ h'=>h'.elim)))
 cases r with
 |none=>exact Ç h₁
 |some v =>
  refine Á (Ħ h₁ (λ_ s₀ h₀'=>?_) λ_ _ h'=>h'.elim)
  refine Á (Ħ h₀' (λ_ s₂ h₂=>Á (Ħ h₂ (λok s₃ h₃=>?_) λ_ _ h'=>h'.elim)) λ_ _ h'=>h'.elim)
  cases ok with
  |false=>exact Ç ⟨rfl,h₃⟩
  |true =>
   exact Á (Á (Ħ h₃ (λx s₄ h₄=>Á (Ħ h₄ (λ_ s₅ h₅=>Ç (Ç ⟨rfl,h₅⟩)) λ_ _ h'=>h'.elim)) λ_ _ h'=>h'.elim))
def PTs(X:Cx)(ifs:List Expr)(t:TT):Prop :=
 ∀(pins:List (Addr×Obj)) (s:Shared) (σ:St) (H:Hp) (Q:Bool->Hp->Prop),Inv X pins σ H s->t σ H Q ->
  wpAny (model X.prog X.w) X.A (forIn ifs true λc r=>if r=true then do let ok ←isTrue c X.env (eval c X.env);pure (ó ok) else pure (ó r)) (TP X pins σ Q) X.xe s
def Ar{X:Cx}:PTs X [] (λ_ H Q=>Q true H):=λ_ _ _ H _ I h=>wpAny_tests_nil ⟨H,I,h⟩
def Ig(J:It)(n:Nat)(g:CB->TG)(tt:CB->TT)(te:CB->TE)(σ:St)(Q:VK)(H:Hp):Prop:=∃W:Nat->Nat->List V->Hp->Prop,(∃m,W 0 m [] H)/\∀(c:CB) i m ys H,W i m ys H ->
 (J.stop i H/\∀p,H p=none->Q (.ref p) (upd H p (.lst ys))) ∨
 (J.go i H/\ys.length<sizeLine/\∃N:List V->Hp->Prop,(∀ys' H',N ys' H'->∃m',m'<m/\W (i+1) m' ys' H')/\∀x H',J.yld i H x H'->g c x (È n none++σ) H' λσ2 H2=>tt c σ2 H2 λb H3 =>
  if b=true then te c σ2 H3 λv H4=>N (ys++[v]) H4 else N ys H3)
def tLC(n:Nat)(wi:TI)(g:CB->TG)(tt:CB->TT)(te:CB->TE):TE:=λσ H Q=>wi σ H λJ H1=>Ig J n g tt te σ Q H1
section
variable {X:Cx}{own:List Str}{scope:Scope}{tg iter elt:Expr}{ifs:List Expr}{pos:Pos}{wi:TI}{g:CB->TG}{tt:CB->TT}{te:CB->TE}
def aM(env:Env)(scope:Scope)(N M:List Str):Bool :=
 gB env scope M&&((N.length == M.length)&&(N.zip M).all λy=>y.1 == y.2 || ((y.2 == ("":Str))&&scope.names.all λz=>!(z.1 == ("":Str))))
def Aa{env:Env}{N:List Str}(h:gB env scope N=true):aM env scope N N=true:=by
 unfold aM
 rw[h,Bool.true_and,beq_self_eq_true,Bool.true_and,ø]
 rintro⟨a,b⟩ hy
 obtain⟨i,hi,e⟩:=List.mem_iff_getElem.mp hy
 rw[List.getElem_zip] at e
 cases e
 simp
variable {M:List Str}
def dh(h:aM X.env scope X.N M=true):scope.kind=.function:=by
 unfold aM gB at h
 simp only[â,beq_iff_eq] at h
 exact h.1.1
def bx(h:aM X.env scope X.N M=true):∀y∈scope.names,(y.2=.local->y.1∉M/\scope.names.lookup y.1=some .local)/\(y.2=.cell->y.1∉M/\scope.names.lookup y.1=some .cell)/\(y.2=.free->scope.names.lookup y.1=some .free/\(X.env.kindOf y.1=some .cell\/X.env.kindOf y.1=some .free)):=by
 unfold aM at h
 rw[â] at h
 have h:=h.1
 unfold gB at h
 rw[â,ø] at h
 intro y hy
 have q:=h.2 y hy
 obtain⟨n,k⟩:=y
 cases k with
 |«local»=>simp at q ⊢;exact q
 |cell=>simp at q ⊢;exact q
 |free=>simp at q ⊢;exact q
 |globalExplicit=>simp
 |globalImplicit=>simp
def aD:∀(names:List (Str×NameKind)) (n:Nat) (acc:List (Str×Addr)),cellsFrom n names acc=cellsFrom n names []++acc
 |[],_,_=>rfl
 |(nm,k)::r,n,acc=>by
  show(if (k == ç)=true then cellsFrom (n+1) r ((nm,n)::acc) else cellsFrom n r acc)=(if (k == ç)=true then cellsFrom (n+1) r [(nm,n)] else cellsFrom n r [])++acc
  split
  ·rw[aD r (n+1) ((nm,n)::acc),aD r (n+1) [(nm,n)],Ŀ]
   rfl
  ·exact aD r n acc
def bV:∀(names:List (Str×NameKind)) (n:Nat) (x:Str) (c:Addr),(x,c)∈cellsFrom n names []->(x,ç)∈names/\n<=c
 |[],_,_,_,h=>nomatch h
 |(nm,k)::r,n,x,c,h=>by
  have h:(x,c)∈(if (k == ç)=true then cellsFrom (n+1) r [(nm,n)] else cellsFrom n r []):=h
  split at h
  ·rename_i hk
   rw[aD] at h
   rcases õ.mp h with z|z
   ·obtain⟨h1,h2⟩:=bV r (n+1) x c z
    exact⟨Ð _ h1,by omega⟩
   ·have z:(x,c)=(nm,n):=by simpa using z
    cases z
    have hk:k=.cell:=by simpa using hk
    subst hk
    exact⟨Ô,Æ _⟩
  ·obtain⟨h1,h2⟩:=bV r n x c h
   exact⟨Ð _ h1,h2⟩
def iW:∀(names:List (Str×NameKind)) (n:Nat) (x y:Str) (c:Addr),(x,c)∈cellsFrom n names []->(y,c)∈cellsFrom n names []->x=y
 |[],_,_,_,_,h,_=>nomatch h
 |(nm,k)::r,n,x,y,c,h,h'=>by
  have h:(x,c)∈(if (k == ç)=true then cellsFrom (n+1) r [(nm,n)] else cellsFrom n r []):=h
  have h':(y,c)∈(if (k == ç)=true then cellsFrom (n+1) r [(nm,n)] else cellsFrom n r []):=h'
  by_cases hk:(k == ç)=true
  ·rw[if_pos hk,aD] at h h'
   rcases õ.mp h with z|z <;> rcases õ.mp h' with z'|z'
   ·exact iW r (n+1) x y c z z'
   ·have:=(bV r (n+1) x c z).2
    have z':(y,c)=(nm,n):=by simpa using z'
    cases z'
    exact absurd this (Nat.not_succ_le_self _)
   ·have:=(bV r (n+1) y c z').2
    have z:(x,c)=(nm,n):=by simpa using z
    cases z
    exact absurd this (Nat.not_succ_le_self _)
   ·have z:(x,c)=(nm,n):=by simpa using z
    have z':(y,c)=(nm,n):=by simpa using z'
    cases z
    cases z'
    rfl
  ·rw[if_neg hk] at h h'
   exact iW r n x y c h h'
def fD:∀(names:List (Str×NameKind)) (h:Heap) (b:Addr) (o:Obj),h.get? b=some o->(pushCells h names).get? b=some o
 |[],_,_,_,e=>e
 |(nm,k)::r,h,b,o,e=>by
  show(if (k == ç)=true then pushCells (h.push { cls:=Ă "cell",data:=Data.cell none }) r else pushCells h r).get? b=some o
  split
  ·exact fD r _ b o (Ä _ e)
  ·exact fD r h b o e
def iI:∀(names:List (Str×NameKind)) (h:Heap) (x:Str) (c:Addr),(x,c)∈cellsFrom h.objs.size names []->(pushCells h names).IsCell c none
 |[],_,_,_,e=>nomatch e
 |(nm,k)::r,h,x,c,e=>by
  have e:(x,c)∈(if (k == ç)=true then cellsFrom (h.objs.size+1) r [(nm,h.objs.size)] else cellsFrom h.objs.size r []):=e
  show(if (k == ç)=true then pushCells (h.push { cls:=Ă "cell",data:=Data.cell none }) r else pushCells h r).IsCell c none
  by_cases hk:(k == ç)=true
  ·rw[if_pos hk,aD] at e
   rw[if_pos hk]
   rcases õ.mp e with z|z
   ·exact iI r _ x c (by rw[ý];exact z)
   ·have z:(x,c)=(nm,h.objs.size):=by simpa using z
    cases z
    exact⟨_,fD r _ _ _ (Î _ rfl),rfl⟩
  ·rw[if_neg hk] at e ⊢
   exact iI r h x c e
def rR{M:Model}{A:Around}{E:Value->Shared->Prop}{s:Shared}{scope:Scope}{globals:Addr}{closure:List (Str×Addr)}{qual:Str}{func:Option Addr}{code:Value}{around:Option Env}{builtins:Addr}{Q:Env->Shared->Prop}(h:Q (newEnv scope s.heap.objs.size globals (cellsFrom (s.heap.objs.size+1) scope.names closure) qual func code around builtins) { s with heap:=pushCells (s.heap.push { cls:=Ă (if around.isSome=true then "dict" else "frame"),data:=Data.dict #[] }) scope.names }) :
  wpAny M A (newFunctionEnv scope globals closure [] qual func code around builtins) Q E s:=by
 unfold newFunctionEnv
 refine Á (wpAny_alloc ?_)
 refine Á (wpAny_layCells _ (λ_ _ _=>rfl) _ _ _ _ ?_)
 rw[ý]
 exact Á (Ç (Ç h))
def FN{n:Nat}{names:List (Str×NameKind)}{cl:List (Str×Addr)}{x:Str}{c:Addr}(h:(cellsFrom n names cl).lookup x=some c):(x,c)∈cellsFrom n names []\/cl.lookup x=some c:=by
 rw[aD,List.lookup_append] at h
 cases e:(cellsFrom n names []).lookup x with
 |none=>rw[e] at h;exact .inr h
 |some d =>
  rw[e] at h
  cases h
  exact .inl (ě e)
def Ab{n:Nat}{names:List (Str×NameKind)}{cl:List (Str×Addr)}{x:Str}(h:∀c,(x,c)∈cellsFrom n names []->False):(cellsFrom n names cl).lookup x=cl.lookup x:=by
 rw[aD,List.lookup_append]
 cases e:(cellsFrom n names []).lookup x with
 |none=>rfl
 |some d=>exact(h d (ě e)).elim
def qL(h:aM X.env scope X.N M=true){n:Nat}{x:Str}(hx:(x,á)∈scope.names):∀c,(x,c)∈cellsFrom n scope.names []->False:=λc z=>by
 have h1:=((bx h _ hx).2.2 rfl).1
 have h2:=((bx h _ (bV _ _ _ _ z).1).2.1 rfl).2
 rw[h1] at h2
 cases h2
def eU(h:aM X.env scope X.N M=true):X.N.length=M.length:=by
 unfold aM at h
 rw[â,â] at h
 exact eq_of_beq h.2.1
def nq{i:Nat}{x:Str}{k:NameKind}(h:aM X.env scope X.N M=true)(hx:M[i]?=some x)(_:x∈M)(hn:(x,k)∈scope.names):X.N[i]?=some x:=by
 have hl:=eU h
 unfold aM at h
 rw[â,â,ø] at h
 have hi:i<M.length:=(Ñ.mp hx).1
 have hx':M[i]=x:=(Ñ.mp hx).2
 have hi':i<X.N.length:=by omega
 have q:=h.2.2 (X.N[i],M[i]) (by
  refine List.mem_iff_getElem.mpr ⟨i,by rw[Ā];omega,?_⟩
  rw[List.getElem_zip])
 rw[Bool.or_eq_true] at q
 rcases q with q|q
 ·have q:X.N[i]=M[i]:=eq_of_beq q
  rw[Ý hi',q,hx']
 ·rw[â,ø] at q
  have e:M[i]=("":Str):=eq_of_beq q.1
  have z:=q.2 (x,k) hn
  rw[←hx',e] at z
  simp at z
def sV{pins:List (Addr×Obj)}{σ:St}{H:Hp}{s:Shared}{fp:List Addr}{h₁:Heap}{tk:Nat}(hk:aM X.env scope X.N M=true)(I:Inv X pins σ H s)(hf:∀b∈fp,fj X pins H b)(hfo:∀b∈fp,∃o,s.heap.get? b=some o)(hns:h₁.Ns (s.heap.objs.size+1) λ_=>none)(old:∀b o,s.heap.get? b=some o->h₁.get? b=some o)(hD:h₁.get? s.heap.objs.size=some { cls:=.type "list",data:=.seq #[] 0 })(hnc:∀x c,(x,c)∈cellsFrom (s.heap.objs.size+2) scope.names []->h₁.IsCell c none) :
  Inv (X.bI own M scope ⟨cellsFrom (s.heap.objs.size+2) scope.names (bJ X.env.cells scope.names []),s.heap.objs.size+1,s,H,fp⟩) [(s.heap.objs.size,{ cls:=.type "list",data:=.seq #[] 0 })] (È own.length none++σ) H { s with heap:=h₁,toks:=tk }:=by
 have hkk:=dh hk
 have hka:=bx hk
 have hhas:∀x,(x,á)∈scope.names->∃c,X.env.cells.lookup x=some c:=λx hx=>I.ok.has x ((hka _ hx).2.2 rfl).2
 have hcl:∀x c,(bJ X.env.cells scope.names []).lookup x=some c->X.env.cells.lookup x=some c/\(x,á)∈scope.names:=λx c e=>by
  rcases iB e with q|⟨q1,q2⟩
  ·simp at q
  ·obtain⟨c',e'⟩:=hhas x q1
   rw[e'] at q2
   exact⟨by rw[e',q2];rfl,q1⟩
 have hcc:∀x c,(cellsFrom (s.heap.objs.size+2) scope.names (bJ X.env.cells scope.names [])).lookup x=some c->(X.env.cells.lookup x=some c/\(x,á)∈scope.names/\c<s.heap.objs.size)\/((x,c)∈cellsFrom (s.heap.objs.size+2) scope.names []/\(x,ç)∈scope.names/\s.heap.objs.size+2<=c):=λx c e=>by
  rcases FN e with z|z
  ·exact .inr ⟨z,bV _ _ _ _ z⟩
  ·obtain⟨h1,h2⟩:=hcl x c z
   obtain⟨v,o,ho,_⟩:=I.cell x c h1
   exact .inl ⟨h1,h2,Å ho⟩
 have hvis:∀x,(relabel scope X.env).names.lookup x=some .cell\/(relabel scope X.env).names.lookup x=some .free->(x,á)∈scope.names\/(x,ç)∈scope.names:=λx hx=>by
  have key:∀q,(relabel scope X.env).names.lookup x=some q->q=.cell\/q=.free->(x,á)∈scope.names\/(x,ç)∈scope.names:=λq hq hq'=>by
   obtain⟨k,h1,h2,h3⟩:=bH (env:=X.env) (names:=scope.names) hq
   rcases h3 with h3|⟨_,h3⟩
   ·subst h3
    rcases hq' with z|z
    ·rw[z] at h1;exact .inr h1
    ·rw[z] at h1;exact .inl h1
   ·rw[h3] at h1;exact .inl h1
  rcases hx with hx|hx
  ·exact key _ hx (.inl rfl)
  ·exact key _ hx (.inr rfl)
 have hlt:∀b o,s.heap.get? b=some o->b<s.heap.objs.size:=λb o e=>Å e
 refine⟨⟨I.ok.mod,hkk,I.ok.glob,I.ok.blt,Ń _,λx y c h1 h2=>?inj,λx hx=>?_,λx c z e=>?cab,I.ok.hd,I.ok.frames,.inl rfl,λb hb=>⟨?_,λx c e=>?exf⟩,I.bs,
   ú I.ok.bsz I.sz,λb o e hb=>?_,λb hb hs=>?_,I.stack,I.tE,λq hq=>⟨(I.ok.sof q hq).1,I.base.frzs _ _ _ (I.ok.sof q hq).2.1,(I.ok.sof q hq).2.2⟩⟩,rfl,I.bare,Un.kept old,⟨_,hns,λi x v h1 h2 h3=>?_⟩,λx c e=>?_,?_,λx c e=>?frc,λp hp=>?_,I.hok.kept old,?_⟩
 case inj =>
  rcases hcc x c h1 with ⟨a1,_,a3⟩|⟨a1,_,a3⟩ <;> rcases hcc y c h2 with ⟨b1,_,b3⟩|⟨b1,_,b3⟩
  ·exact I.ok.inj x y c a1 b1
  ·exact absurd (Õ a3 (ú (ť _ 2) b3)) (ñ _)
  ·exact absurd (Õ b3 (ú (ť _ 2) a3)) (ñ _)
  ·exact iW _ _ _ _ _ a1 b1
 case cab =>
  show s.heap.objs.size<=c
  rcases hcc x c e with ⟨_,a2,_⟩|⟨_,_,a3⟩
  ·have h1:=((hka _ a2).2.2 rfl).1
   have z:(scope.names.lookup x == some ç)=true:=z
   rw[h1] at z
   exact absurd z (by decide)
  ·omega
 case exf =>
  rcases hcc x c e with ⟨a1,_,_⟩|⟨_,_,a3⟩
  ·exact(hf b hb).2.2.2.2.1 x c a1
  ·obtain⟨o,e⟩:=hfo b hb
   have:=hlt b o e
   intro z
   subst z
   exact absurd (Õ this (ú (ť _ 2) a3)) (ñ _)
 case frc =>
  rcases hcc x c e with ⟨a1,_,_⟩|⟨_,_,a3⟩
  ·exact I.freeC x c a1
  ·exact I.hok.fresh (by omega)
 ·have hx':(relabel scope X.env).names.lookup x=some .cell\/(relabel scope X.env).names.lookup x=some .free:=hx
  refine Ŏ.mp (W.cellsFrom_some _ _ _ ?_)
  rcases hvis x hx' with z|z
  ·exact .inr (eV z)
  ·exact .inl ((hka _ z).2.1 rfl).2
 ·obtain⟨o,e⟩:=hfo b hb
  exact Ö (ę (hlt b o e))
 ·have hb':b∈fp:=hb
  rcases(hf b hb').2.2.2.1 with z|z
  ·exact I.ok.noex b o e z
  ·exact absurd (Õ (Å (I.ok.bs b o e).1) z) (ñ _)
 ·have hb':b∈fp:=hb
  rcases Ï.mp (I.rA b hs) with z|z
  ·exact(hf b hb').2.1 z
  ·exact(hf b hb').2.2.1 z
 ·have hi:own.length<=i:=by
   by_cases hi:i<own.length
   ·rw[Đ (by simpa using hi),į] at h2
    split at h2 <;> cases h2
   ·omega
  have h1':M[i - own.length]?=some x:=by
   have q:(own++M)[i]?=some x:=h1
   rwa [î hi] at q
  have h2':σ[i - own.length]?=some (some v):=by
   rw[î (by simpa using hi)] at h2
   simpa using h2
  have h3':Vis (relabel scope X.env) x:=h3
  have hfr:(x,á)∈scope.names:=by
   rcases h3' with z|z
   ·obtain⟨k,q1,q2,q3⟩:=bH (env:=X.env) (names:=scope.names) z
    rcases q3 with q3|⟨q3,_⟩
    ·subst q3
     exact absurd (Ù h1') ((hka _ q1).1 rfl).1
    ·cases q3
   ·rcases hvis x z with y|y
    ·exact y
    ·exact absurd (Ù h1') ((hka _ y).2.1 rfl).1
  have hkx:=((hka _ hfr).2.2 rfl).2
  obtain⟨m,hm,hl⟩:=I.loc
  obtain⟨u,ru,lu⟩:=hl _ x v (nq hk h1' (Ù h1') hfr) h2' (by rcases hkx with z|z;exact .inr (.inl z);exact .inr (.inr z))
  refine⟨u,ru,.inr ⟨?_,?_⟩⟩
  ·rcases h3' with z|z|z
   ·obtain⟨k,q1,q2,q3⟩:=bH (env:=X.env) (names:=scope.names) z
    rcases q3 with q3|⟨q3,_⟩
    ·subst q3
     exact absurd (Ù h1') ((hka _ q1).1 rfl).1
    ·cases q3
   ·exact .inl z
   ·exact .inr z
  ·rcases lu with ⟨z,_⟩|⟨_,c,e,ic⟩
   ·rcases hkx with q|q
    ·rw[q] at z;cases z
    ·rw[q] at z;cases z
   ·obtain⟨c',e'⟩:=Ŏ.mp (eV (cells:=X.env.cells) (acc:=[]) hfr)
    have e2:=(hcl x c' e').1
    rw[e] at e2
    cases e2
    obtain⟨o,ho,hd⟩:=ic
    exact⟨c,(Ab (qL hk hfr)).trans e',o,old _ _ ho,hd⟩
 ·rcases hcc x c e with ⟨z,_,_⟩|⟨z,_,_⟩
  ·obtain⟨v,o,ho,hd⟩:=I.cell x c z
   exact⟨v,o,old _ _ ho,hd⟩
  ·exact⟨none,hnc x c z⟩
 ·exact I.hok.fresh (Ń _)
 ·have hp':p=(s.heap.objs.size,{ cls:=.type "list",data:=.seq #[] 0 }):=by simpa using hp
  subst hp'
  refine⟨hD,I.hok.fresh (Æ _),Ö (Ŋ _),λz=>?_,λv z=>nomatch z⟩
  obtain⟨_,o,ho,_⟩:=I.stack.mem z
  exact absurd (Å ho) (ñ _)
 ·show(È own.length none++σ).length=(own++M).length
  rw[Ü,Ü,Š,I.len,eU hk]
def sU{pins pn:List (Addr×Obj)}{σ σ':St}{H H':Hp}{s s':Shared}{fp:List Addr}{cl:List (Str×Addr)}{ys:List V}{us:List Value}{n:Nat}(I:Inv X pins σ H s)(hf:∀b∈fp,fj X pins H b)(J:Inv (X.bI own M scope ⟨cl,s.heap.objs.size+1,s,H,fp⟩) pn σ' H' s')(hp:(s.heap.objs.size,({ cls:=.type "list",data:=.seq us.toArray n }:Obj))∈pn)(hv:Vals ys us)(hz:ys.length<=sizeLine) :
  Inv X pins σ (upd H' s.heap.objs.size (.lst ys)) s'/\H' s.heap.objs.size=none:=by
 obtain⟨hD,hDn,_⟩:=J.pin _ (Û _ hp)
 refine⟨I.call' J.os ⟨λb o e n hb hx=>J.base.keep b o e n hb hx,λb o e n hb hx=>J.base.slot b o e n hb hx,λb o e n hx=>?_,λb o e hx=>J.base.there b o e hx,λb xs e=>?_,λb o u e=>?_,λb ps e=>?_⟩ ?_ J.bare ?_,hDn⟩
 ·rw[aj (Ö (Å e))]
  exact J.base.free b o e n hx
 ·have q:=J.base.tups b xs e
  rw[aj (ak q hDn)]
  exact q
 ·have q:=J.base.frzs b o u e
  rw[aj (ak q hDn)]
  exact q
 ·obtain⟨more,q⟩:=J.base.tbls b ps e
  exact⟨more,by rw[aj (ak q hDn)];exact q⟩
 ·exact J.hok.track hDn ⟨hz,us,n,hv,hD⟩
 ·intro b hb
  exact⟨(hf b hb).2.2.2.1,(hf b hb).2.1,(hf b hb).2.2.2.2.1,(hf b hb).2.2.2.2.2⟩
def lK{pins pn:List (Addr×Obj)}{σ σ':St}{H H':Hp}{s s':Shared}{fp:List Addr}{cl:List (Str×Addr)}(hk:aM X.env scope X.N M=true)(I:Inv X pins σ H s)(hf:∀b∈fp,fj X pins H b)(hcl:∀x,(x,á)∈scope.names->∃c,cl.lookup x=some c/\X.env.cells.lookup x=some c)(J:Inv (X.bI own M scope ⟨cl,s.heap.objs.size+1,s,H,fp⟩) pn σ' H' s'):Inv (X.bI own M scope ⟨cl,s.heap.objs.size+1,s,H,fp⟩) pn (È own.length none++σ) H' s':=by
 have hka:=bx hk
 refine⟨J.ok,J.os,J.bare,J.base,?_,J.cell,J.free,J.freeC,J.pin,J.hok,?_⟩
 ·obtain⟨mC,hmC,_⟩:=J.loc
  refine⟨mC,hmC,λi x v h1 h2 h3=>?_⟩
  have hi:own.length<=i:=by
   by_cases hi:i<own.length
   ·rw[Đ (by simpa using hi),į] at h2
    split at h2 <;> cases h2
   ·omega
  have h1':M[i - own.length]?=some x:=by
   have q:(own++M)[i]?=some x:=h1
   rwa [î hi] at q
  have h2':σ[i - own.length]?=some (some v):=by
   rw[î (by simpa using hi)] at h2
   simpa using h2
  have h3':Vis (relabel scope X.env) x:=h3
  have nloc:¬(relabel scope X.env).names.lookup x=some .local:=λz=>by
   obtain⟨k,q1,q2,q3⟩:=bH (env:=X.env) (names:=scope.names) z
   rcases q3 with q3|⟨q3,_⟩
   ·subst q3
    exact absurd (Ù h1') ((hka _ q1).1 rfl).1
   ·cases q3
  have hkk:(relabel scope X.env).names.lookup x=some .cell\/(relabel scope X.env).names.lookup x=some .free:=by
   rcases h3' with z|z
   ·exact absurd z nloc
   ·exact z
  have hfr:(x,á)∈scope.names:=by
   have key:∀q,(relabel scope X.env).names.lookup x=some q->q=.cell\/q=.free->(x,á)∈scope.names:=λq hq hq'=>by
    obtain⟨k,h1,h2,h3⟩:=bH (env:=X.env) (names:=scope.names) hq
    rcases h3 with h3|⟨_,h3⟩
    ·subst h3
     rcases hq' with z|z
     ·rw[z] at h1;exact absurd (Ù h1') ((hka _ h1).2.1 rfl).1
     ·rw[z] at h1;exact h1
    ·rw[h3] at h1;exact h1
   rcases hkk with hx|hx
   ·exact key _ hx (.inl rfl)
   ·exact key _ hx (.inr rfl)
  have hkx:=((hka _ hfr).2.2 rfl).2
  obtain⟨m,hm,hl⟩:=I.loc
  obtain⟨u,ru,lu⟩:=hl _ x v (nq hk h1' (Ù h1') hfr) h2' (by rcases hkx with z|z;exact .inr (.inl z);exact .inr (.inr z))
  refine⟨u,ru,.inr ⟨hkk,?_⟩⟩
  rcases lu with ⟨z,_⟩|⟨_,c,e,ic⟩
  ·rcases hkx with q|q
   ·rw[q] at z;cases z
   ·rw[q] at z;cases z
  ·obtain⟨c',e',e2⟩:=hcl x hfr
   rw[e] at e2
   cases e2
   obtain⟨o,ho,hd⟩:=ic
   obtain⟨sl,q⟩:=J.base.any ho (I.freeC x c e) λz=>(hf c z).2.2.2.2.1 x c e rfl
   exact⟨c,e',_,q,hd⟩
 ·show(È own.length none++σ).length=(own++M).length
  rw[Ü,Ü,Š,I.len,eU hk]
def vM{pins:List (Addr×Obj)}{σ:St}{H:Hp}{s:Shared}{it:Addr}{fp:List Addr}{tn:Nat->Heap->Prop}{J:It}{W:Nat->Nat->List V->Hp->Prop}{E:Value->Shared->Prop}{RR:Value->Addr->Result->Shared->Prop}{Cm:Cx->Prop}(hc:∀c,Cm (X.bI own M scope c))(hk:aM X.env scope X.N M=true)(hg:∀c,PG (X.bI own M scope c) tg (g c))(ht:∀c,PTs (X.bI own M scope c) ifs (tt c))(he:∀c,PE (X.bI own M scope c) elt (te c))(I:Inv X pins σ H s)(T:TurnG Cm X.prog X.w X.K tg J fp it tn)(st:tn 0 s.heap)(hf:∀b∈fp,fj X pins H b){m0:Nat}(w0:W 0 m0 [] H){D:List V->Hp->Prop}(turn:∀(c:CB) i m ys H,W i m ys H->(J.stop i H/\D ys H) ∨
   (J.go i H/\ys.length<sizeLine/\∃N:List V->Hp->Prop,(∀ys' H',N ys' H'->∃m',m'<m/\W (i+1) m' ys' H')/\∀x H',J.yld i H x H'->g c x (È own.length none++σ) H' λσ2 H2=>tt c σ2 H2 λb H3 =>
    if b=true then te c σ2 H3 λv H4=>N (ys++[v]) H4 else N ys H3))(fin:∀s' m' ys H',(s'.heap.Ns (s.heap.objs.size+1) m')->H' (s.heap.objs.size+1)=none->H' s.heap.objs.size=none->Inv X pins σ (upd H' s.heap.objs.size (.lst ys)) s'->D ys H'->RR (.ref s.heap.objs.size) (s.heap.objs.size+1) (.ok .next) s') :
  wpAny (model X.prog X.w) X.A (newList []) (λacc s₃=>wpAny (model X.prog X.w) X.A (newFunctionEnv scope X.env.globals (bJ X.env.cells scope.names []) [] X.env.qual none .none (some X.env)) (λcenv s₄ =>
   codeAny (model X.prog X.w) X.A (.compStart (.ListComp elt [⟨tg,iter,ifs,0⟩] scope pos) 0 (.ref it) acc { cenv with scope:=relabel scope X.env }) (RR acc cenv.locals) s₄) E s₃) E s:=by
 have hkk:=dh hk
 have hka:=bx hk
 refine ĭ (rR ?_)
 dsimp only
 have hC:(s.heap.push { cls:=.type "list",dict:=none,data:=.seq ([]:List Value).toArray }).objs.size=s.heap.objs.size+1:=ý ..
 rw[hC]
 generalize hH2:s.heap.push { cls:=.type "list",dict:=none,data:=.seq ([]:List Value).toArray }=H2 at hC ⊢
 generalize hH3:H2.push { cls:=Ă (if (some X.env:Option Env).isSome=true then "dict" else "frame"),data:=Data.dict #[] }=H3
 generalize hh1:pushCells H3 scope.names=h₁
 have hC3:H3.objs.size=s.heap.objs.size+2:=by rw[←hH3,ý,hC]
 have old3:∀b o,H3.get? b=some o->h₁.get? b=some o:=λb o e=>hh1 ▸ fD _ _ _ _ e
 have old2:∀b o,H2.get? b=some o->h₁.get? b=some o:=λb o e=>old3 b o (hH3 ▸ Ä _ e)
 have old:∀b o,s.heap.get? b=some o->h₁.get? b=some o:=λb o e=>old2 b o (hH2 ▸ Ä _ e)
 have hacc:h₁.get? s.heap.objs.size=some { cls:=.type "list",data:=.seq #[] 0 }:=old2 _ _ (hH2 ▸ Î _ rfl)
 have hns:h₁.Ns (s.heap.objs.size+1) λ_=>none:=by
  have z:=Heap.Ns.new H2 (Ă (if (some X.env:Option Env).isSome=true then "dict" else "frame"))
  rw[hC,hH3] at z
  exact z.keeps old3
 have hnc:∀x c,(x,c)∈cellsFrom (s.heap.objs.size+2) scope.names []->h₁.IsCell c none:=λx c e=>by
  rw[←hC3] at e
  exact hh1 ▸ iI _ _ _ _ e
 have hfo:∀b∈fp,∃o,s.heap.get? b=some o:=λb hb=>let ⟨o,e,_⟩:=T.obj 0 _ st b hb;⟨o,e⟩
 have st₁:tn 0 h₁:=T.keep 0 _ _ st λb _ o e=>old b o e
 have I₁:=sV (own:=own) (tk:=s.toks) hk I hf hfo hns old hacc hnc
 have loop:∀s₃:Shared,s₃={ s with heap:=h₁,toks:=s.toks } ->
   codeAny (model X.prog X.w) X.A (.compLoop (.ListComp elt [⟨tg,iter,ifs,0⟩] scope pos) 0 (.ref it) (.ref s.heap.objs.size) (compEnvC scope (cellsFrom (s.heap.objs.size+2) scope.names (bJ X.env.cells scope.names [])) (s.heap.objs.size+1) X.env))
    (RR (.ref s.heap.objs.size) (s.heap.objs.size+1)) s₃:=by
  rintro s₃ rfl
  have neD:∀b∈fp,b≠s.heap.objs.size:=λb hb=>by
   obtain⟨o,e⟩:=hfo b hb
   exact Ö (Å e)
  have stat:∀{H':Hp}{o:Obj},(∀b∈fp,H' b=none)->∀b∈fp,fj (X.bI own M scope ⟨cellsFrom (s.heap.objs.size+2) scope.names (bJ X.env.cells scope.names []),s.heap.objs.size+1,s,H,fp⟩) [(s.heap.objs.size,o)] H' b:=λ{H' o} hn b hb =>
   ⟨hn b hb,(I₁.ok.exf b hb).1,I₁.ok.exfs b hb,.inl hb,(I₁.ok.exf b hb).2,λp hp=>by
    have hp':p=(s.heap.objs.size,o):=by simpa using hp
    subst hp'
    exact è (neD b hb)⟩
  refine vN (λk s'=>∃i ys us n H',Inv (X.bI own M scope ⟨cellsFrom (s.heap.objs.size+2) scope.names (bJ X.env.cells scope.names []),s.heap.objs.size+1,s,H,fp⟩) [(s.heap.objs.size,{ cls:=.type "list",data:=.seq (us:List Value).toArray n })] (È own.length none++σ) H' s' /\
    Vals ys us/\ys.length<=sizeLine/\tn i s'.heap/\(∀b∈fp,H' b=none)/\W i k ys H') ?_ m0 ⟨0,[],[],0,H,I₁,.nil,Ģ _,st₁,λb hb=>(hf b hb).1,w0⟩
  rintro k s3 ⟨i,ys,us,n,H3,I3,hv,hz,st3,fr3,w3⟩
  rcases turn ⟨cellsFrom (s.heap.objs.size+2) scope.names (bJ X.env.cells scope.names []),s.heap.objs.size+1,s,H,fp⟩ i k ys H3 w3 with ⟨stop,d⟩|⟨go,hlt,N,hN,step⟩
  ·refine thn (T.done (X.bI own M scope ⟨cellsFrom (s.heap.objs.size+2) scope.names (bJ X.env.cells scope.names []),s.heap.objs.size+1,s,H,fp⟩) rfl rfl rfl (hc _) i _ s3 _ H3 _ I3 (stat fr3) st3 stop) λr s4 ⟨hr,I4⟩=>?_
   subst hr
   obtain⟨m',hm',_⟩:=I4.loc
   obtain⟨J4,hDn⟩:=sU I hf I4 (Ĵ.mpr rfl) hv hz
   exact fin s4 m' ys H3 hm' I4.free hDn J4 d
  ·refine thn (T.item (X.bI own M scope ⟨cellsFrom (s.heap.objs.size+2) scope.names (bJ X.env.cells scope.names []),s.heap.objs.size+1,s,H,fp⟩) rfl rfl rfl (hc _) i _ s3 _ H3 _ I3 (stat fr3) st3 go) λr s4 ⟨u,hr,h4⟩=>?_
   subst hr
   refine thn h4 λ_ s5 ⟨x,H5,I5,r5,y5,st5,fr5⟩=>?_
   have I5':=I5.pinned (stat fr5) (T.obj _ _ st5)
   refine thn (hg _ _ s5 _ H5 x u _ I5' r5 (step x H5 y5)) λ_ s6 ⟨σ6,H6,I6,q6⟩=>?_
   refine thn (ht _ _ s6 σ6 H6 _ I6 q6) λb s7 ⟨H7,I7,q7⟩=>?_
   -- the turn's end: the iterator's records stand,the names are forgotten
   have clH:∀x,(x,á)∈scope.names->∃c,(cellsFrom (s.heap.objs.size+2) scope.names (bJ X.env.cells scope.names [])).lookup x=some c/\X.env.cells.lookup x=some c:=λx hx=>by
    obtain⟨c,e⟩:=I.ok.has x ((hka _ hx).2.2 rfl).2
    obtain⟨c',e'⟩:=Ŏ.mp (eV (cells:=X.env.cells) (acc:=[]) hx)
    rcases iB e' with q|⟨_,q⟩
    ·simp at q
    ·rw[e] at q
     exact⟨c',(Ab (qL hk hx)).trans e',by rw[e,q];rfl⟩
   have keepT:∀{H':Hp}{σ':St}{s':Shared}{pn:List (Addr×Obj)},(∀p∈dO fp s5.heap,p∈pn)->Inv (X.bI own M scope ⟨cellsFrom (s.heap.objs.size+2) scope.names (bJ X.env.cells scope.names []),s.heap.objs.size+1,s,H,fp⟩) pn σ' H' s'->tn (i+1) s'.heap/\∀b∈fp,H' b=none:=λ{H' σ' s' pn} hs I' =>
    ⟨T.keep _ _ _ st5 λb hb o e=>(I'.pin (b,o) (Û _ (hs _ (cV hb e)))).1,λb hb=>by
     obtain⟨o,e,_⟩:=T.obj _ _ st5 b hb
     exact(I'.pin (b,o) (Û _ (hs _ (cV hb e)))).2.1⟩
   cases b with
   |false =>
    rw[if_neg Ë]
    rw[if_neg Ë] at q7
    obtain⟨m',hm',w7⟩:=hN _ _ q7
    obtain⟨t7,f7⟩:=keepT (λp hp=>Û _ hp) I7
    exact⟨m',hm',i+1,ys,us,n,H7,lK hk I hf clH I7.gD,hv,hz,t7,f7,w7⟩
   |true =>
    rw[if_pos rfl]
    rw[if_pos rfl] at q7
    refine thn (he _ _ s7 σ6 H7 _ I7 q7) λu8 s8 ⟨v8,H8,I8,r8,q8⟩=>?_
    obtain⟨m',hm',w8⟩:=hN _ _ q8
    obtain⟨t8,f8⟩:=keepT (λp hp=>Û _ hp) I8
    obtain⟨hD8,nD8,lD8,fD8,_⟩:=I8.pin (s.heap.objs.size,{ cls:=.type "list",data:=.seq us.toArray n }) (Û _ (ł _ (Ĵ.mpr rfl)))
    refine append_at (hsz:=by rw[Ê,←hv.length];exact Nat.le_of_lt hlt) hD8 λh9 hs9 hD9=>?_
    have J8:Inv (X.bI own M scope ⟨cellsFrom (s.heap.objs.size+2) scope.names (bJ X.env.cells scope.names []),s.heap.objs.size+1,s,H,fp⟩) (dO fp s5.heap) σ6 H8 s8:=I8.jC λp hp=>I8.pin p (Û _ (Û _ hp))
    have J9:Inv (X.bI own M scope ⟨cellsFrom (s.heap.objs.size+2) scope.names (bJ X.env.cells scope.names []),s.heap.objs.size+1,s,H,fp⟩) (dO fp s5.heap) σ6 H8 { s8 with heap:=h9 }:=J8.turned (t':=s8.toks) (it:=s.heap.objs.size) (λb o hb e=>(hs9.2 b hb).trans e) nD8 lD8 (.inr (Æ _))
     (λx c e z=>by
      obtain⟨v,o,ho,hd⟩:=J8.cell x c e
      rw[z,hD8] at ho
      cases ho
      cases hd)
     (λp hp=>by
      have hp':p∈dO fp s5.heap:=by simpa using hp
      exact neD _ (mR hp').1)
    obtain⟨t9,f9⟩:=keepT (λp hp=>hp) J9
    have e9:h9.get? s.heap.objs.size=some { cls:=.type "list",data:=.seq (us++[u8]).toArray (n+1) }:=by
     rw[hD9,List.push_toArray]
    have J9':Inv (X.bI own M scope ⟨cellsFrom (s.heap.objs.size+2) scope.names (bJ X.env.cells scope.names []),s.heap.objs.size+1,s,H,fp⟩) [(s.heap.objs.size,{ cls:=.type "list",data:=.seq (us++[u8]).toArray (n+1) })] σ6 H8 { s8 with heap:=h9 }:=J9.jC λp hp=>by
     have hp':p=(s.heap.objs.size,{ cls:=.type "list",data:=.seq (us++[u8]).toArray (n+1) }):=by simpa using hp
     subst hp'
     exact⟨e9,nD8,lD8,fD8,λv z=>nomatch z⟩
    exact⟨m',hm',i+1,ys++[v8],us++[u8],n+1,H8,lK hk I hf clH J9',hv.append (.cons r8 .nil),by rw[Ü,List.length_singleton];exact hlt,t9,f9,w8⟩
 exact codeAny_compStart_list (loop _ rfl) (T.self _ 0 _ _ _ st₁ (loop _ rfl))
def vP{pins:List (Addr×Obj)}{σ:St}{H:Hp}{s:Shared}(hk:aM X.env scope X.N M=true)(I:Inv X pins σ H s):closureFor scope X.env=pure (bJ X.env.cells scope.names []) :=
 sW λx hx hf=>I.ok.has x.1 ((bx hk x hx).2.2 hf).2
def vO{pins:List (Addr×Obj)}{σ:St}{H:Hp}{s s':Shared}{C:Addr}{h':Heap}{m:Str->Option Value}(I:Inv X pins σ H s')(hs:X.s₀.heap.objs.size<=C)(hC:C≠X.env.locals)(hcl:∀x c,X.env.cells.lookup x=some c->c≠C)(hp:∀p∈X.pn++pins,p.1≠C)(hn:H C=none)(hb:Ů C s'.heap h'):Inv X pins σ H { s' with heap:=h' }:=I.turned (t':=s'.toks) (λb o hb' e=>(hb.2 b hb').trans e) hn hC (.inr hs) hcl hp
def DQ(own M:List Str)(hc:X.calm=true)(hi:PI X tg iter wi)(hg:∀c,PG (X.bI own M scope c) tg (g c))(ht:∀c,PTs (X.bI own M scope c) ifs (tt c))(he:∀c,PE (X.bI own M scope c) elt (te c))(hk:aM X.env scope X.N M=true:=by rfl)(hs:∀x,foldedSetIterable iter X.env x=pure x:=by intro _;rfl) :
  PE X (.ListComp elt [⟨tg,iter,ifs,0⟩] scope pos) (tLC own.length wi g tt te):=by
 intro pins s σ H Q I h
 rw[eval_ListComp]
 have hka:=bx hk
 refine wpAny_comprehension_free (use:=none) rfl hs (vP hk I) (dh hk) (λx hx hl=>((hka x hx).1 hl).2) (thn (hi pins s σ H _ I h) λv s1 h1=>thn h1 λitv s2 h2=>?_)
 obtain⟨it,fp,tn,J,H2,e,I2,T,st2,f2,W,⟨m0,w0⟩,turn⟩:=h2
 subst e
 refine vM (RR:=λacc C=>compPost (model X.prog X.w) X.A X.xe none (EP X pins σ Q) acc C) (D:=λys H=>∀p,H p=none->Q (.ref p) (upd H p (.lst ys))) (λ_=>hc) hk hg ht he I2 T st2 f2 w0 turn ?_
 intro s' m' ys H' hns hCn hDn J' d
 have lt2:∀{b:Addr}{o:Obj},s2.heap.get? b=some o->b≠s2.heap.objs.size+1:=λe=>Ö (ę (Å e))
 refine⟨m',hns,λh' hb=>⟨.ref s2.heap.objs.size,_,vO (m:=m') (s:=s2) J' (ú I2.sz (Ń _)) (è (Ö (ę I2.lt))) (λx c e=>?_) (λp hp=>?_) ?_ hb,rfl,d _ hDn⟩⟩
 ·obtain⟨v,o,ho,_⟩:=I2.cell x c e
  exact lt2 ho
 ·exact lt2 (I2.pin p hp).1
 ·rw[aj (ĸ (Ŋ _))]
  exact hCn
def G3(own:List Str)(hc:X.calm=true)(hi:PI X tg iter wi)(hg:∀c,PG (X.comp own scope c) tg (g c))(ht:∀c,PTs (X.comp own scope c) ifs (tt c))(he:∀c,PE (X.comp own scope c) elt (te c))(hk:gB X.env scope X.N=true:=by rfl)(hs:∀x,foldedSetIterable iter X.env x=pure x:=by intro _;rfl) :
  PE X (.ListComp elt [⟨tg,iter,ifs,0⟩] scope pos) (tLC own.length wi g tt te):=DQ own X.N hc hi hg ht he (Aa hk) hs
end
section
variable {X:Cx}{tg:Expr}{K:Í}{g:CB->TG}{tt:CB->TT}{te:CB->TE}{σ:St}{H:Hp}{Q:VK}{n:Nat}
def Jj(K:Í)(tl:TE):TI:=λσ H R=>tl σ H λx H1=>∃a,x=.ref a/\(((∃xs,SqL K H1 a xs)/\R (Itl K a) H1)\/((∃xs,SqT K H1 a xs)/\R (Itt K a) H1))
def Dt{l:Expr}{tl:TE}(hl:PE X l tl):PI X tg l (Jj X.K tl):=by
 intro pins s σ H R I h
 refine thn (hl pins s σ H _ I h) λv s1 ⟨x,H1,I1,r1,q1⟩=>?_
 obtain⟨a,e,q1⟩:=q1
 subst e
 cases r1
 rcases q1 with ⟨⟨xs,hq⟩,q⟩|⟨⟨xs,hq⟩,q⟩
 ·obtain⟨its,rv,p,hz⟩:=I1.list hq
  refine wpAny_pyIter_list p.isList ?_
  refine⟨s1.heap.objs.size,[s1.heap.objs.size],_,_,H1,rfl,I1.kept (t':=s1.toks) λb o e=>Ä _ e,uL a _,⟨_,Î _ rfl,rfl,rfl⟩,λb hb=>?_,q⟩
  have e:b=s1.heap.objs.size:=by simpa using hb
  subst e
  exact I1.pB (Æ _) (I1.hok.fresh (Æ _))
 ·obtain⟨its,rv,p,hz⟩:=I1.tuple hq
  refine Ė (show s1.heap.IsTuple a its.toArray from p) ?_
  refine⟨s1.heap.objs.size,[s1.heap.objs.size],_,_,H1,rfl,I1.kept (t':=s1.toks) λb o e=>Ä _ e,qZ a _,⟨_,Î _ rfl,rfl,rfl⟩,λb hb=>?_,q⟩
  have e:b=s1.heap.objs.size:=by simpa using hb
  subst e
  exact I1.pB (Æ _) (I1.hok.fresh (Æ _))
end
end L2
namespace NfSort
open PySem PySem.W PyProof.Rows
def kwp{α:Type}(n:Nat)(key:Nat->Int):KasT α->(α->Prop)->Prop
 |.ret a,Q=>Q a
 |.ask i j k,Q=>i<n/\j<n/\kwp n key (k (decide (key i<key j))) Q
def aP{α:Type}{n:Nat}{key:Nat->Int}{Q Q':α->Prop}(h:∀a,Q a->Q' a):∀{t:KasT α},kwp n key t Q->kwp n key t Q'
 |.ret a,q=>h a q
 |.ask _ _ k,q=>⟨q.1,q.2.1,aP h q.2.2⟩
def cu{α β:Type}{n:Nat}{key:Nat->Int}{f:α->KasT β}{Q:β->Prop}:∀{t:KasT α},kwp n key t (λa=>kwp n key (f a) Q)->kwp n key (t.bind f) Q
 |.ret a,q=>q
 |.ask _ _ k,q=>⟨q.1,q.2.1,cu q.2.2⟩
def oX{α:Type}{n:Nat}{key:Nat->Int}{cmp:Nat->Nat->(Bool->Shared->Prop)->Shared->Prop}{s:Shared}{G:α->Shared->Prop}(hc:∀i j C,i<n->j<n->C (decide (key i<key j)) s->cmp i j C s) :
  ∀{t:KasT α},kwp n key t (λa=>G a s)->t.kasWp cmp G s
 |.ret _,q=>q
 |.ask i j k,q=>hc i j _ q.1 q.2.1 (oX hc q.2.2)
section
variable {n:Nat}{key:Nat->Int}{p:Array Nat}
def Pm(n:Nat)(p:Array Nat):Prop:=p.Perm (ã n).toArray
def kk(key:Nat->Int)(p:Array Nat)(i:Nat):Int:=key (p.getD i 0)
def Pm.size(h:Pm n p):p.size=n:=by
 have:=Array.Perm.size_eq h
 simpa using this
def getD_eq(p:Array Nat)(i:Nat):p.getD i 0=(p[i]?).getD 0:=by
 by_cases h:i<p.size <;> simp[Array.getD,h]
def Pm.lt(h:Pm n p){i:Nat}(hi:i<n):p.getD i 0<n:=by
 have hs:=h.size
 have hi':i<p.size:=by omega
 have hm:p[i]∈p.toList:=by
  have:=Array.getElem_mem hi'
  simpa using this
 have hp:p.toList.Perm (ã n):=by
  have:=Array.perm_iff_toList_perm.mp h
  simpa using this
 have e:p.getD i 0=p[i]:=by simp[Array.getD,hi']
 rw[e]
 exact List.mem_range.mp (hp.mem_iff.mp hm)
def Pm.rev(h:Pm n p)(i j:Nat):Pm n (kas_rev p i j):=Array.Perm.trans (mirror_perm _ _ _ _) h
def Pm.bub(h:Pm n p)(i j:Nat):Pm n (bubble p i j):=Array.Perm.trans (bubble_perm _ _ _) h
def oY(h:Pm n p){i j:Nat}(hj:j<=n)(t:Nat):kk key (kas_rev p i j) t=if i<=t/\t<j then kk key p (i+j - 1 - t) else kk key p t:=by
 unfold kk kas_rev
 rw[getD_eq,getElem?_mirror_all (by rw[h.size];exact hj)]
 split
 ·rw[getD_eq]
 ·rw[getD_eq]
def Et(h:Pm n p){k l:Nat}(hk:k<n)(hl:l<=k)(t:Nat):kk key (bubble p k (k - l)) t=if t=l then kk key p k else if l<t/\t<=k then kk key p (t - 1) else kk key p t:=by
 unfold kk
 rw[getD_eq,getElem?_bubble (by rw[h.size];exact hk) _ (by omega)]
 have e:k - (k - l)=l:=by omega
 rw[e]
 split
 ·rw[getD_eq]
 ·split
  ·rw[getD_eq]
  ·rw[getD_eq]
def Up(key:Nat->Int)(p:Array Nat)(m:Nat):Prop:=∀i j,i<=j->j<m->kk key p i<=kk key p j
def Dn(key:Nat->Int)(p:Array Nat)(m:Nat):Prop:=∀i j,i<=j->j<m->kk key p j<=kk key p i
def Rn(key:Nat->Int)(p:Array Nat)(m q:Nat):Prop:=q+1<=m/\∀t,m<=t+q+1->t<m->kk key p t=kk key p (m - 1)
def Up.more{a:Nat}(h:Up key p a)(h1:1<=a)(hx:kk key p (a - 1)<=kk key p a):Up key p (a+1):=λi j hij hj=>by
 by_cases hja:j<a
 ·exact h i j hij hja
 ·obtain rfl:j=a:=by omega
  by_cases hi:i=j
  ·subst hi;exact Ũ _
  ·exact Int.le_trans (h i (j - 1) (by omega) (by omega)) hx
def Dn.more{a:Nat}(h:Dn key p a)(h1:1<=a)(hx:kk key p a<=kk key p (a - 1)):Dn key p (a+1):=λi j hij hj=>by
 by_cases hja:j<a
 ·exact h i j hij hja
 ·obtain rfl:j=a:=by omega
  by_cases hi:i=j
  ·subst hi;exact Ũ _
  ·exact Int.le_trans hx (h i (j - 1) (by omega) (by omega))
def sY(hp:Pm n p):∀(f a:Nat),1<=a->a+f<=n->Up key p a->kwp n key (kas_asc p f a) (λm=>a<=m/\m<=a+f/\Up key p m/\(m<a+f->kk key p m<kk key p (m - 1)))
 |0,a,h1,hf,hu=>⟨Æ _,Æ _,hu,λh=>absurd h (by omega)⟩
 |f+1,a,h1,hf,hu=>by
  refine⟨hp.lt (by omega),hp.lt (by omega),?_⟩
  by_cases hc:key (p.getD a 0)<key (p.getD (a - 1) 0)
  ·(rw[decide_eq_true hc];dsimp only;rw[if_pos rfl])
   exact⟨Æ _,by omega,hu,λ_=>hc⟩
  ·(rw[decide_eq_false hc];dsimp only;rw[if_neg Ë])
   refine aP (λm ⟨a1,a2,a3,a4⟩=>⟨by omega,by omega,a3,λh=>a4 (by omega)⟩) (sY hp f (a+1) (by omega) (by omega) (hu.more h1 (Int.not_lt.mp hc)))
def tO(hp:Pm n p){a q:Nat}(ha:a<=n)(hr:Rn key p a q)(t:Nat):kk key (kas_rev p (a - (q+1)) a) t=kk key p t:=by
 rw[oY hp ha]
 split
 ·rename_i h
  rw[hr.2 t (by omega) h.2]
  exact hr.2 _ (by have:=hr.1;omega) (by omega)
 ·rfl
def Dn.eq{p':Array Nat}{m:Nat}(h:Dn key p m)(e:∀t,kk key p' t=kk key p t):Dn key p' m:=λi j a b=>by rw[e,e];exact h i j a b
def ux:∀(f:Nat) (p:Array Nat) (a q:Nat),Pm n p->1<=a->a+f<=n->Dn key p a->Rn key p a q ->
  kwp n key (kas_desc f p a q) (λr=>Pm n r.1/\a<=r.2.1/\r.2.1<=a+f/\Dn key r.1 r.2.1/\Rn key r.1 r.2.1 r.2.2)
 |0,p,a,q,hp,h1,hf,hd,hr=>⟨hp,Æ _,Æ _,hd,hr⟩
 |f+1,p,a,q,hp,h1,hf,hd,hr=>by
  refine⟨hp.lt (by omega),hp.lt (by omega),?_⟩
  have fin:∀{p':Array Nat}{q':Nat},Pm n p'->Dn key p' (a+1)->Rn key p' (a+1) q'->kwp n key (kas_desc f p' (a+1) q') (λr=>Pm n r.1/\a<=r.2.1/\r.2.1<=a+(f+1)/\Dn key r.1 r.2.1/\Rn key r.1 r.2.1 r.2.2):=λx y z =>
   aP (λr ⟨a1,a2,a3,a4,a5⟩=>⟨a1,by omega,by omega,a4,a5⟩) (ux f _ (a+1) _ x (by omega) (by omega) y z)
  have rn0:∀p':Array Nat,Rn key p' (a+1) 0:=λp'=>⟨by omega,λt h1 h2=>by
   have e:t=a+1 - 1:=by omega
   rw[e]⟩
  by_cases hc:key (p.getD a 0)<key (p.getD (a - 1) 0)
  ·(rw[decide_eq_true hc];dsimp only;rw[if_pos rfl])
   have hc':kk key p a<kk key p (a - 1):=hc
   by_cases hq:q > 0
   ·rw[if_pos hq]
    have e:=tO (key:=key) hp (by omega) hr
    exact fin (hp.rev _ _) ((hd.more h1 (Int.le_of_lt hc')).eq e) (rn0 _)
   ·rw[if_neg hq]
    exact fin hp (hd.more h1 (Int.le_of_lt hc')) (rn0 _)
  ·(rw[decide_eq_false hc];dsimp only;rw[if_neg Ë])
   refine⟨hp.lt (by omega),hp.lt (by omega),?_⟩
   by_cases hc2:key (p.getD (a - 1) 0)<key (p.getD a 0)
   ·(rw[decide_eq_true hc2];dsimp only;rw[if_pos rfl])
    exact⟨hp,Æ _,(by show a<=a+(f+1);omega),hd,hr⟩
   ·(rw[decide_eq_false hc2];dsimp only;rw[if_neg Ë])
    have e:kk key p a=kk key p (a - 1):=Int.le_antisymm (Int.not_lt.mp hc2) (Int.not_lt.mp hc)
    refine fin hp (hd.more h1 (Int.le_of_eq e)) ⟨by have:=hr.1;omega,λt t1 t2=>?_⟩
    show _=kk key p a
    by_cases ht:t=a
    ·rw[ht]
    ·rw[e]
     exact hr.2 t (by omega) (by omega)
def pX{a:Nat}(hp:Pm n p)(h1:1<=a)(ha:a<=n)(hd:Dn key p a):kwp n key (kas_tail3 a n p) (λr=>Pm n r.2/\1<=r.1/\r.1<=n/\Up key r.2 r.1):=by
 unfold kas_tail3
 have hu:Up key (kas_rev p 0 a) a:=λi j hij hj=>by
  rw[oY hp ha,oY hp ha,if_pos ⟨by omega,by omega⟩,if_pos ⟨by omega,hj⟩]
  exact hd _ _ (by omega) (by omega)
 refine cu (aP (λm ⟨a1,a2,a3,_⟩=>?_) (sY (hp.rev 0 a) (n - a) a h1 (by omega) hu))
 exact⟨hp.rev 0 a,by omega,by omega,a3⟩
def ji{a:Nat}(hp:Pm n p)(ha:a+1<=n)(hd:Dn key p (a+1)):kwp n key (kas_descPart a n p) (λr=>Pm n r.2/\1<=r.1/\r.1<=n/\Up key r.2 r.1):=by
 unfold kas_descPart
 refine cu (aP (λr ⟨a1,a2,a3,a4,a5⟩=>?_) (ux (n - (a+1)) p (a+1) 0 hp (by omega) (by omega) hd ⟨by omega,λt h1 h2=>by
  have e:t=a+1 - 1:=by omega
  rw[e]⟩))
 split
 ·exact pX (a1.rev _ _) (by omega) (by omega) (a4.eq (tO a1 (by omega) a5))
 ·exact pX a1 (by omega) (by omega) a4
def zZ(hp:Pm n p)(h1:1<=n):kwp n key (kas_count n p) (λr=>Pm n r.2/\1<=r.1/\r.1<=n/\Up key r.2 r.1):=by
 unfold kas_count
 have u1:Up key p 1:=λi j hij hj=>by
  have e:i=j:=by omega
  rw[e];exact Ũ _
 refine cu (aP (λm ⟨a1,a2,a3,a4⟩=>?_) (sY hp (n - 1) 1 (Æ _) (by omega) u1))
 by_cases hm:m=n
 ·rw[if_pos (by simpa using hm)]
  exact⟨hp,by omega,by omega,a3⟩
 ·rw[if_neg (by simpa using hm)]
  have hlt:=a4 (by omega)
  by_cases hm1:m > 1
  ·rw[if_pos hm1]
   refine⟨hp.lt (by omega),hp.lt (by omega),?_⟩
   by_cases hc:key (p.getD 0 0)<key (p.getD (m - 1) 0)
   ·(rw[decide_eq_true hc];dsimp only;rw[if_pos rfl])
    exact⟨hp,by omega,by omega,a3⟩
   ·(rw[decide_eq_false hc];dsimp only;rw[if_neg Ë])
    have hall:∀t,t<m->kk key p t=kk key p 0:=λt ht=>by
     have e1:=a3 0 t (by omega) ht
     have e2:=a3 t (m - 1) (by omega) (by omega)
     have e3:kk key p (m - 1)<=kk key p 0:=Int.not_lt.mp hc
     omega
    have e:∀t,kk key (kas_rev p 0 m) t=kk key p t:=λt=>by
     rw[oY hp (by omega)]
     split
     ·rename_i h
      rw[hall t h.2,hall _ (by omega)]
     ·rfl
    refine ji (hp.rev 0 m) (by omega) (Dn.eq (p:=p) (Dn.more (λi j hij hj=>?_) (by omega) (Int.le_of_lt hlt)) e)
    rw[hall i (by omega),hall j hj]
    exact Ũ _
  ·rw[if_neg hm1]
   obtain rfl:m=1:=by omega
   refine ji hp (by omega) (Dn.more (λi j hij hj=>?_) (by omega) (Int.le_of_lt hlt))
   have e:i=j:=by omega
   rw[e];exact Ũ _
def jZ{k:Nat}(hp:Pm n p)(hk:k<n)(hu:Up key p k):∀(f l r:Nat),l<=r->r<=k->r<=l+f->(∀t,t<l->kk key p t<=kk key p k)->(∀t,r<=t->t<k->kk key p k<kk key p t) ->
  kwp n key (kas_place p k f l r) (λl'=>l'<=k/\(∀t,t<l'->kk key p t<=kk key p k)/\(∀t,l'<=t->t<k->kk key p k<kk key p t))
 |0,l,r,h1,h2,h3,h4,h5=>⟨by omega,h4,λt a b=>h5 t (by omega) b⟩
 |f+1,l,r,h1,h2,h3,h4,h5=>by
  unfold kas_place
  by_cases hlr:l ≥ r
  ·rw[if_pos hlr]
   exact⟨by omega,h4,λt a b=>h5 t (by omega) b⟩
  ·rw[if_neg hlr]
   have hm:(l+r) / 2<r:=by omega
   refine⟨hp.lt hk,hp.lt (by omega),?_⟩
   by_cases hc:key (p.getD k 0)<key (p.getD ((l+r) / 2) 0)
   ·(rw[decide_eq_true hc];dsimp only;rw[if_pos rfl])
    have hc':kk key p k<kk key p ((l+r) / 2):=hc
    exact jZ hp hk hu f l _ (by omega) (by omega) (by omega) h4 λt a b=>Int.lt_of_lt_of_le hc' (hu _ t a b)
   ·(rw[decide_eq_false hc];dsimp only;rw[if_neg Ë])
    have hc':kk key p ((l+r) / 2)<=kk key p k:=Int.not_lt.mp hc
    exact jZ hp hk hu f _ r (by omega) (by omega) (by omega) (λt a=>Int.le_trans (hu t _ (by omega) (by omega)) hc') h5
def Ad:∀(f:Nat) (p:Array Nat) (k:Nat),Pm n p->k+f<=n->Up key p k->kwp n key (kas_bin f p k) (λp'=>Pm n p'/\Up key p' (k+f))
 |0,p,k,hp,hk,hu=>⟨hp,hu⟩
 |f+1,p,k,hp,hk,hu=>by
  unfold kas_bin
  refine cu (aP (λl ⟨a1,a2,a3⟩=>?_) (jZ hp (by omega) hu k 0 k (Ģ _) (Æ _) (by omega) (λt h=>absurd h (by omega)) (λt h1 h2=>absurd h1 (by omega))))
  have e:=Et (key:=key) hp (k:=k) (by omega) a1
  have hu':Up key (bubble p k (k - l)) (k+1):=λi j hij hj=>by
   rw[e,e]
   by_cases hi:i=l
   ·rw[if_pos hi]
    by_cases hj':j=l
    ·rw[if_pos hj'];exact Ũ _
    ·rw[if_neg hj',if_pos ⟨by omega,by omega⟩]
     exact Int.le_of_lt (a3 _ (by omega) (by omega))
   ·rw[if_neg hi]
    by_cases hi2:l<i/\i<=k
    ·rw[if_pos hi2,if_neg (by omega),if_pos ⟨by omega,by omega⟩]
     exact hu _ _ (by omega) (by omega)
    ·rw[if_neg hi2]
     by_cases hj':j=l
     ·rw[if_pos hj']
      exact a2 i (by omega)
     ·rw[if_neg hj']
      by_cases hj2:l<j/\j<=k
      ·rw[if_pos hj2]
       exact hu _ _ (by omega) (by omega)
      ·rw[if_neg hj2]
       exact hu _ _ hij (by omega)
  refine aP (λp' ⟨b1,b2⟩=>⟨b1,?_⟩) (Ad f _ (k+1) (hp.bub _ _) (by omega) hu')
  have e2:k+(f+1)=k+1+f:=by omega
  rw[e2];exact b2
def Ak(h1:1<=n):kwp n key (kas_sort n) (λp=>Pm n p/\Up key p n):=by
 unfold kas_sort
 refine cu (aP (λr ⟨a1,a2,a3,a4⟩=>?_) (zZ (p:=(ã n).toArray) (Array.Perm.refl _) h1))
 have e:max r.1 1=r.1:=by omega
 rw[e]
 split
 ·refine aP (λp' ⟨b1,b2⟩=>⟨b1,?_⟩) (Ad (n - r.1) r.2 r.1 a1 (by omega) a4)
  have e2:r.1+(n - r.1)=n:=by omega
  rw[e2] at b2;exact b2
 ·have e2:r.1=n:=by omega
  rw[e2] at a4
  exact⟨a1,a4⟩
end
end NfSort
namespace L2
open PySem PySem.Spec PyProof.Rows
section
variable {prog:Program}{w:World}{A:Around}{E:Value->Shared->Prop}{s:Shared}
end
section
variable {X:Cx}{pos:Pos}
def Jo(K:Í)(n:Nat)(t:TGs):TG:=λv σ H Q=>∃a xs,v=.ref a/\SqL K H a xs/\xs.length=n/\t xs σ H Q
end
section
variable {X:Cx}
def pQ:aK X (.builtin "isinstance") (λxs H Q=>∃x c t b,xs=[x,.ty c]/\TyOf X.K H x t/\ū X.K t (.type c)=some b/\Q (.bl b) H):=by
 intro pins s σ H xs us Q I r h
 obtain⟨x,c,t,b,rfl,ty,e,q⟩:=h
 obtain⟨u,u2,rfl,rx,rc⟩:=vals2 r
 cases rc
 exact vo I rx ty e λtk=>⟨.bl b,H,I.tok _,rfl,q⟩
def pP:aK X (.builtin "isinstance") (λxs H Q=>∃x p c1 c2 t b,xs=[x,.ref p]/\TyOf X.K H x t/\SqT X.K H p [.ty c1,.ty c2]/\W.kitAny X.K t [.type c1,.type c2]=some b/\Q (.bl b) H):=by
 intro pins s σ H xs us Q I r h
 obtain⟨x,p,c1,c2,t,b,rfl,ty,hp,e,q⟩:=h
 obtain⟨u,u2,rfl,rx,rc⟩:=vals2 r
 cases rc
 obtain⟨its,rv,⟨o,ho,hcl,n,hd⟩,hz⟩:=I.tuple hp
 obtain⟨v1,v2,rfl,r1,r2⟩:=vals2 rv
 cases r1
 cases r2
 obtain⟨oc,od,odt,osl⟩:=o
 cases hcl
 cases hd
 have fin:∀tk,EP X pins σ Q (.bool b) { s with toks:=tk }:=λtk=>⟨.bl b,H,I.tok _,rfl,q⟩
 cases ty with
 |non=>cases (show u=ă from rx);exact ŏ W.kitx_none I.kIn Ċ ho e (λz=>nomatch z) fin
 |bl y=>cases (show u=ů y from rx);exact ŏ W.kitx_bool I.kIn Ċ ho e (λz=>nomatch z) fin
 |int i=>obtain⟨t,q⟩:=(show ∃t,u=Ğ i t from rx);cases q;exact ŏ W.kitx_int I.kIn Ċ ho e (λz=>nomatch z) fin
 |str y=>obtain⟨t,q⟩:=(show ∃t,u=Value.str y t from rx);cases q;exact ŏ W.kitx_str I.kIn Ċ ho e (λz=>nomatch z) fin
 |flt y=>obtain⟨t,q⟩:=(show ∃t,u=Value.float y t from rx);cases q;exact ŏ W.kitx_float I.kIn Ċ ho e (λz=>nomatch z) fin
 |@lst a xs ea =>
  cases (show u=ò a from rx)
  obtain⟨_,_,n,_,h1⟩:=(show aF X.prog X.w H s.heap a (.lst xs) from I.hok a _ ea)
  exact ŏ W.kitx_list I.kIn ⟨_,h1,rfl⟩ ho e (λz=>nomatch z) fin
 |@frz a ob xs ea =>
  cases (show u=ò a from rx)
  obtain⟨_,_,_,n,_,h1⟩:=(show aF X.prog X.w H s.heap a (.frz ob (.lst xs)) from I.hok a _ ea)
  exact ŏ W.kitx_list I.kIn ⟨_,h1,rfl⟩ ho e (λz=>nomatch z) fin
 |@tup a xs ea =>
  cases (show u=ò a from rx)
  obtain⟨_,_,_,p⟩:=(show aF X.prog X.w H s.heap a (.tup xs) from I.hok a _ ea)
  obtain⟨o,h1,h2,_⟩:=p
  exact ŏ W.kitx_tuple I.kIn ⟨o,h1,h2⟩ ho e (λz=>nomatch z) fin
 |@dK a kvs ea =>
  cases (show u=ò a from rx)
  obtain⟨_,_,vs,_,p⟩:=(show aF X.prog X.w H s.heap a (.dK kvs) from I.hok a _ ea)
  obtain⟨o,es,ep,h1,h2,_⟩:=p
  exact ŏ W.kitx_dict I.kIn ⟨o,h1,h2.1⟩ ho e (λz=>nomatch z) fin
 |@dT a kvs ea =>
  cases (show u=ò a from rx)
  obtain⟨_,_,xs,_,o,es,ep,h1,h2,_⟩:=(show aF X.prog X.w H s.heap a (.dT kvs) from I.hok a _ ea)
  exact ŏ W.kitx_dict I.kIn ⟨o,h1,h2.1⟩ ho e (λz=>nomatch z) fin
 |@ins a C dx fs ea cl ha hn htk hm =>
  cases (show u=ò a from rx)
  obtain⟨mA,O,_⟩:=uq I.hok ea
  obtain⟨od,J,_⟩:=O.look
  exact ŏ (W.kitx_own (cl.get _) cl.hd ha hn htk hm) I.kIn J ho e (λz=>nomatch z) fin
def tu:∀{bs:List Bool}{us:List Value},Vals (bs.map V.bl) us->us=bs.map ů
 |[],_,h=>by cases h;rfl
 |b::bs,_,h=>by
  cases h with
  |cons r t =>
   cases r
   rw[tu t]
   rfl
def all_range(bs:List Bool):(ã bs.length).all (λi=>bs.getD i true)=bs.all id:=by
 rw[Ŕ]
 simp only[ø,List.mem_range]
 constructor
 ·intro h x hx
  obtain⟨i,hi,e⟩:=List.mem_iff_getElem.mp hx
  have q:=h i hi
  simp[hi] at q
  rw[←e];exact q
 ·intro h i hi
  have q:=h bs[i] (List.getElem_mem hi)
  simpa[hi] using q
def v7(hc:X.calm=true):aK X (.builtin "all") (λxs H Q=>∃(p:Addr) (bs:List Bool),xs=[.ref p]/\SqL X.K H p (bs.map V.bl)/\Q (.bl (bs.all id)) H):=by
 intro pins s σ H xs us Q I r h
 obtain⟨p,bs,rfl,hp,q⟩:=h
 obtain⟨u,rfl,rx⟩:=vals1 r
 cases rx
 obtain⟨its,rv,pl,hz⟩:=I.list hp
 have e:=tu rv
 subst e
 have hlt:p≠s.heap.objs.size:=by obtain⟨o,ho,_⟩:=pl.isList;exact Ö (Å ho)
 refine call_all_walk (wpAny_pyIter_list pl.isList ?_)
 refine⟨_,_,_,_,_,_,λi=>bs.getD i true,rfl,Walks.list (A:=X.A.in1) (I.ok.hd hc) _ p hlt _,⟨⟨_,Î _ rfl,rfl,rfl⟩,pl.isList.push _⟩,?_,λh' tk hk=>?_⟩
 ·intro i v s Q E hP hQ
  have hP':(bs.map ů)[i]?=some v:=by simpa using hP
  rw[Ú] at hP'
  cases hb:bs[i]? with
  |none=>rw[hb] at hP';cases hP'
  |some b =>
   rw[hb] at hP'
   cases hP'
   refine ÿ ?_
   have e:bs.getD i true=b:=by rw[č,hb];rfl
   have hQ':Q (bs.getD i true) s:=hQ
   rw[e] at hQ'
   exact hQ'
 ·have e:(ã (bs.map ů).toArray.size).all (λi=>bs.getD i true)=bs.all id:=by
   rw[Ê,Ã]
   exact all_range bs
  rw[e]
  refine⟨.bl (bs.all id),H,I.kept λb o eb=>hk b o ?_ (Ä _ eb),rfl,q⟩
  intro hm
  have:b=s.heap.objs.size:=by simpa using hm
  exact absurd (Å eb) (by rw[this];exact ñ _)
def vR(hc:X.calm=true):aK X (.builtin "min") (λxs H Q=>∃p a b,xs=[.ref p]/\SqT X.K H p [.int a,.int b]/\Q (.int (if b<a then b else a)) H):=by
 intro pins s σ H xs us Q I r h
 obtain⟨p,a,b,rfl,hp,q⟩:=h
 obtain⟨u,rfl,rx⟩:=vals1 r
 cases rx
 obtain⟨its,rv,pl,hz⟩:=I.tuple hp
 obtain⟨v1,v2,rfl,⟨t1,rfl⟩,⟨t2,rfl⟩⟩:=vals2 rv
 have pl':s.heap.IsTuple p (intItems #[(a,t1),(b,t2)]):=by
  have z:s.heap.IsTuple p #[Ğ a t1,Ğ b t2]:=pl
  simpa[intItems] using z
 have hlt:p<s.heap.objs.size:=by obtain⟨o,ho,_⟩:=pl;exact Å ho
 refine call_min_walk (Ė pl' ?_)
 refine⟨_,[s.heap.objs.size,p],[s.heap.objs.size],_,_,_,_,rfl,Walks.tuple (A:=X.A.in1) (I.ok.hd hc) _ p (Ö hlt) (intItems #[(a,t1),(b,t2)]),⟨⟨_,Î _ rfl,rfl,rfl⟩,pl'.push _⟩,λc hc=>?_,by simp[intItems],
  CmpOf.ints_lt (numAt #[(a,t1),(b,t2)]) (λ_ _=>intItems_at),λv h' tk hP hk=>?_⟩
 ·show c<(s.heap.push _).objs.size
  rw[ý]
  rcases Ï.mp hc with rfl|hc
  ·exact Ŋ _
  ·have:c=p:=by simpa using hc
   rw[this];exact ę hlt
 ·have hv:v=if b<a then Ğ b t2 else Ğ a t1:=by
   have hP':(intItems #[(a,t1),(b,t2)])[argBest (λi j=>decide (numAt #[(a,t1),(b,t2)] i<numAt #[(a,t1),(b,t2)] j)) 1]?=some v:=by
    have hsz2:(intItems #[(a,t1),(b,t2)]).size - 1=1:=by simp[intItems]
    rw[←hsz2];exact hP
   by_cases hba:b<a
   ·have e:argBest (λi j=>decide (numAt #[(a,t1),(b,t2)] i<numAt #[(a,t1),(b,t2)] j)) 1=1:=by simp[argBest,numAt,hba]
    rw[e] at hP'
    simpa[intItems,hba] using hP'.symm
   ·have e:argBest (λi j=>decide (numAt #[(a,t1),(b,t2)] i<numAt #[(a,t1),(b,t2)] j)) 1=0:=by simp[argBest,numAt,hba]
    rw[e] at hP'
    simpa[intItems,hba] using hP'.symm
  subst hv
  refine⟨.int (if b<a then b else a),H,I.kept λb o eb=>hk b o ?_ (Ä _ eb),?_,q⟩
  ·intro hm
   have:b=s.heap.objs.size:=by simpa using hm
   exact absurd (Å eb) (by rw[this];exact ñ _)
  ·by_cases hba:b<a
   ·rw[if_pos hba,if_pos hba];exact⟨_,rfl⟩
   ·rw[if_neg hba,if_neg hba];exact⟨_,rfl⟩
def vW(hc:X.calm=true):aK X (.builtin "max") (λxs H Q=>∃p a b,xs=[.ref p]/\SqT X.K H p [.int a,.int b]/\Q (.int (if b > a then b else a)) H):=by
 intro pins s σ H xs us Q I r h
 obtain⟨p,a,b,rfl,hp,q⟩:=h
 obtain⟨u,rfl,rx⟩:=vals1 r
 cases rx
 obtain⟨its,rv,pl,hz⟩:=I.tuple hp
 obtain⟨v1,v2,rfl,⟨t1,rfl⟩,⟨t2,rfl⟩⟩:=vals2 rv
 have pl':s.heap.IsTuple p (intItems #[(a,t1),(b,t2)]):=by
  have z:s.heap.IsTuple p #[Ğ a t1,Ğ b t2]:=pl
  simpa[intItems] using z
 have hlt:p<s.heap.objs.size:=by obtain⟨o,ho,_⟩:=pl;exact Å ho
 refine call_max_walk (Ė pl' ?_)
 refine⟨_,[s.heap.objs.size,p],[s.heap.objs.size],_,_,_,_,rfl,Walks.tuple (A:=X.A.in1) (I.ok.hd hc) _ p (Ö hlt) (intItems #[(a,t1),(b,t2)]),⟨⟨_,Î _ rfl,rfl,rfl⟩,pl'.push _⟩,λc hc=>?_,by simp[intItems],
  CmpOf.ints_gt (numAt #[(a,t1),(b,t2)]) (λ_ _=>intItems_at),λv h' tk hP hk=>?_⟩
 ·show c<(s.heap.push _).objs.size
  rw[ý]
  rcases Ï.mp hc with rfl|hc
  ·exact Ŋ _
  ·have:c=p:=by simpa using hc
   rw[this];exact ę hlt
 ·have hv:v=if b > a then Ğ b t2 else Ğ a t1:=by
   have hP':(intItems #[(a,t1),(b,t2)])[argBest (λi j=>decide (numAt #[(a,t1),(b,t2)] i > numAt #[(a,t1),(b,t2)] j)) 1]?=some v:=by
    have hsz2:(intItems #[(a,t1),(b,t2)]).size - 1=1:=by simp[intItems]
    rw[←hsz2];exact hP
   by_cases hba:b > a
   ·have e:argBest (λi j=>decide (numAt #[(a,t1),(b,t2)] i > numAt #[(a,t1),(b,t2)] j)) 1=1:=by simp[argBest,numAt,hba]
    rw[e] at hP'
    simpa[intItems,hba] using hP'.symm
   ·have e:argBest (λi j=>decide (numAt #[(a,t1),(b,t2)] i > numAt #[(a,t1),(b,t2)] j)) 1=0:=by simp[argBest,numAt,hba]
    rw[e] at hP'
    simpa[intItems,hba] using hP'.symm
  subst hv
  refine⟨.int (if b > a then b else a),H,I.kept λb o eb=>hk b o ?_ (Ä _ eb),?_,q⟩
  ·intro hm
   have:b=s.heap.objs.size:=by simpa using hm
   exact absurd (Å eb) (by rw[this];exact ñ _)
  ·by_cases hba:b > a
   ·rw[if_pos hba,if_pos hba];exact⟨_,rfl⟩
   ·rw[if_neg hba,if_neg hba];exact⟨_,rfl⟩
def Fe{prog:Program}{w:World}{A:Around}{E:Value->Shared->Prop}{s:Shared}{l:Addr}{n:Nat}{x:Int}{t:Tok}{u:Value}{Q:Value->Shared->Prop}{its:List Value}(ho:s.heap.get? l=some { cls:=.type "list",data:=.seq its.toArray n })(hfit:¬(!Builtin.List.listFitsIndex x)=true)(hsz:its.toArray.size<=sizeLine)(h:Q .none { s with heap:=s.heap.update l (ë λxs=>(xs.extract 0 (if x<0 then (x+(xs.size:Int)).toNat else min x.toNat xs.size)).push u++xs.extract (if x<0 then (x+(xs.size:Int)).toNat else min x.toNat xs.size)),toks:=s.toks }) :
  wpAny (model prog w) A (call (.builtin "list.insert") [.ref l,.int x t,u]) Q E s:=by
 generalize its.toArray=ia at ho hsz
 exact Ū PySem.F.slot_list_insert ⟨_,ho,rfl⟩ PySem.F.entry_list_insert (PySem.F.args_list_insert_3 _ _ _) (PySem.AutoSeq1.list_insert_list_int_val_1 l ia n x t u hfit hsz) ⟨ho,h⟩
def tQ:V->List V->Hp->VK->Prop:=λx vs H Q=>∃l xs k y,x=.ref l/\vs=[.int (k:Nat),y]/\H l=some (.lst xs)/\k<=xs.length/\xs.length<sizeLine/\Q .non (upd H l (.lst (xs.take k++y::xs.drop k)))
def u6:MtM X "list.insert" tQ:=by
 intro pins s σ H x vs v us Q I rx rv h
 obtain⟨l,xs,k,y,rfl,rfl,hH,hk,hz,q⟩:=h
 cases rx
 obtain⟨u1,u,rfl,⟨t,rfl⟩,ru⟩:=rv.two
 obtain⟨z,its,n,r,hl,e⟩:=I.rT hH
 have h24:(sizeLine:Nat)=16777216:=ä
 have hfit:¬(!Builtin.List.listFitsIndex (k:Int))=true:=by
  have q1:decide (-(2 ^ 63:Int)<=(k:Int))=true:=decide_eq_true (by omega)
  have q2:decide ((k:Int)<2 ^ 63)=true:=decide_eq_true (by omega)
  unfold Builtin.List.listFitsIndex
  rw[q1,q2]
  exact Ë
 have hsz:its.toArray.size<=sizeLine:=by
  have e1:its.toArray.size=xs.length:=(Ê ..).trans hl.symm
  rw[e1]
  exact z
 have hx0:¬((k:Int)<0):=by omega
 have hxk:(k:Int).toNat=k:=Int.toNat_natCast k
 generalize hx:(k:Int)=x at hfit hx0 hxk
 refine Fe (its:=its) e hfit hsz ?_
 refine⟨.non,_,I.Es (its':=its.take k++u::its.drop k) hH e ?_ ?_ ?_,rfl,q⟩
 ·have hm:min k its.length=k:=by omega
  have e2:=W.kl_ins_eq its k u
  simp only[hx0,if_false,hxk,Ê,hm]
  exact e2
 ·exact(r.take k).append (.cons ru (r.drop k))
 ·rw[Ü,Ó,ņ,Ţ]
  omega
end
abbrev Tie:=Int×Int
def Pr(H:Hp)(v:V)(t:Tie):Prop:=∃p,v=.ref p/\H p=some (.tup [.int t.1,.int t.2])
abbrev Prs(H:Hp):List V->List Tie->Prop:=Paired (Pr H)
def aA(t:Tie):Int:=64 * t.1+t.2
def jy(t:Tie):Prop:=0<=t.2/\t.2<64
def eZ(h:Heap)(u:Value)(t:Tie):Prop:=∃a o t1 t2 n,u=.ref a/\h.get? a=some o/\o.cls=.type "tuple"/\o.data=.seq #[.int t.1 t1,.int t.2 t2] n
def eZ.keep{h h':Heap}{u:Value}{t:Tie}(x:eZ h u t)(k:∀a o,h.get? a=some o->o.cls=.type "tuple"->h'.get? a=some o):eZ h' u t:=by
 obtain⟨a,o,t1,t2,n,e,ho,hc,hd⟩:=x
 exact⟨a,o,t1,t2,n,e,k a o ho hc,hc,hd⟩
def GR{α β:Type}{F:α->β->Prop}{l₁:List α}{l₂:List β}(h:Paired F l₁ l₂):∀{i:Nat}{b:β},l₂[i]?=some b->∃a,l₁[i]?=some a/\F a b:=by
 induction h with
 |nil=>intro i x e;simp at e
 |cons r t ih =>
  intro i x e
  cases i with
  |zero=>simp at e;subst e;exact⟨_,rfl,r⟩
  |succ i =>
   obtain⟨c,e1,f⟩:=ih (by simpa using e)
   exact⟨c,by simpa using e1,f⟩
def xJ{α β:Type}{F:α->β->Prop}{l₁:List α}{l₂:List β}(h:Paired F l₁ l₂)(da:α)(db:β):∀(p:List Nat),(∀i∈p,i<l₂.length)->Paired F (p.map λi=>l₁.getD i da) (p.map λi=>l₂.getD i db)
 |[],_=>.nil
 |i::p,hp=>by
  have hi:i<l₂.length:=hp i Ô
  obtain⟨a,e,f⟩:=GR h (i:=i) (b:=l₂[i]) (by simp[hi])
  refine .cons ?_ (xJ h da db p λj hj=>hp j (Ð _ hj))
  have e1:l₁.getD i da=a:=by rw[č,e];rfl
  have e2:l₂.getD i db=l₂[i]:=by simp[hi]
  show F (l₁.getD i da) (l₂.getD i db)
  rw[e1,e2]
  exact f
def Gy{α:Type}:∀us:List α,List.map (λx=>x.snd) (us.zip us)=us
 |[]=>rfl
 |u::us=>by rw[List.zip_cons_cons,ð,Gy us]
def d8{α:Type}(l:List α)(d:α):(ã l.length).map (λi=>l.getD i d)=l:=by
 apply List.ext_getElem
 ·simp
 ·intro i h1 h2
  simp at h1 ⊢
  simp[h1]
section
variable {X:Cx}{pins:List (Addr×Obj)}{σ:St}{H:Hp}{s:Shared}
def Inv.pairs(I:Inv X pins σ H s):∀{vs:List V}{ts:List Tie}{us:List Value},Prs H vs ts->Vals vs us->Paired (eZ s.heap) us ts
 |_,_,_,.nil,r=>by cases r;exact .nil
 |_,_,_,.cons p q,r=>by
  cases r with
  |cons r rr =>
   refine .cons ?_ (I.pairs q rr)
   obtain⟨a,rfl,e⟩:=p
   cases r
   obtain⟨_,its,rv,⟨o,ho,hc,n,hd⟩⟩:=I.hok a _ e
   obtain⟨v1,v2,rfl,⟨t1,rfl⟩,⟨t2,rfl⟩⟩:=vals2 rv
   exact⟨a,o,t1,t2,n,rfl,ho,hc,hd⟩
end
section
variable {prog:Program}{w:World}{A:Around}{E:Value->Shared->Prop}{s:Shared}
def yH{x y:Value}{a b:Tie}{Q:Bool->Shared->Prop}(hx:eZ s.heap x a)(hy:eZ s.heap y b)(na:jy a)(nb:jy b)(h:Q (decide (aA a<aA b)) s):wpAny (model prog w) A (keyLt' (tuples' true) x y) Q E s:=by
 obtain⟨p,o,t1,t2,n,rfl,ho,hc,hd⟩:=hx
 obtain⟨p',o',t1',t2',n',rfl,ho',hc',hd'⟩:=hy
 obtain⟨a1,a2⟩:=a
 obtain⟨b1,b2⟩:=b
 unfold jy at na nb
 simp only at na nb
 refine W.kat_lt ho hd ho' hd' ?_
 refine W.kat_cons (wpAny_eqBool_int ?_)
 by_cases e1:a1=b1
 ·subst e1
  rw[beq_self_eq_true]
  refine W.kat_yes (W.kat_cons (wpAny_eqBool_int ?_))
  by_cases e2:a2=b2
  ·subst e2
   rw[beq_self_eq_true]
   refine W.kat_yes (W.kat_nil ?_)
   have e:decide (aA (a1,a2)<aA (a1,a2))=false:=decide_eq_false (Int.lt_irrefl _)
   rw[e] at h
   exact h
  ·rw[beq_eq_false_iff_ne.mpr e2]
   refine W.kat_no (W.kat_one _ _ (lt_int ?_))
   have e:decide (aA (a1,a2)<aA (a1,b2))=decide (a2<b2):=by
    apply decide_eq_decide.mpr
    unfold aA
    omega
   rw[e] at h
   exact h
 ·rw[beq_eq_false_iff_ne.mpr e1]
  refine W.kat_no (oneLt_int ?_)
  have e:decide (aA (a1,a2)<aA (b1,b2))=decide (a1<b1):=by
   apply decide_eq_decide.mpr
   unfold aA
   simp only
   constructor
   ·intro h;omega
   ·intro h;omega
  rw[e] at h
  exact h
def yM:∀{us:List Value}{ts:List Tie},Paired (eZ s.heap) us ts->∃fs,W.KatTups s.heap us fs/\fs.length=us.length/\∀v∈fs,∃i t,v=Ğ i t
 |_,_,.nil=>⟨[],.nil,rfl,λ_ h=>nomatch h⟩
 |_,_,.cons p q=>by
  obtain⟨a,o,t1,t2,n,rfl,ho,hc,hd⟩:=p
  obtain⟨fs,k,hl,hv⟩:=yM q
  refine⟨_::fs,.cons ho hc hd (f:=Ğ _ t1) rfl k,by simp[hl],λv hv'=>?_⟩
  rcases Ï.mp hv' with rfl|h
  ·exact⟨_,_,rfl⟩
  ·exact hv v h
def Gf{n:Nat}{key:Nat->Int}{p:Array Nat}(hp:NfSort.Pm n p)(h1:1<=n)(hs:NfSort.Up key p n):NfSort.kwp n key (W.kas_count n p) (λr=>r.1=n/\r.2=p):=by
 unfold W.kas_count
 have go:∀(f a:Nat),1<=a->a+f=n->NfSort.kwp n key (W.kas_asc p f a) (λm=>m=n):=by
  intro f
  induction f with
  |zero=>intro a _ h;exact h
  |succ f ih =>
   intro a ha h
   refine⟨hp.lt (by omega),hp.lt (by omega),?_⟩
   have hc:¬key (p.getD a 0)<key (p.getD (a - 1) 0):=Int.not_lt.mpr (hs (a - 1) a (by omega) (by omega))
   rw[decide_eq_false hc]
   exact ih (a+1) (by omega) (by omega)
 refine NfSort.cu (NfSort.aP (λm e=>?_) (go (n - 1) 1 (Æ _) (by omega)))
 rw[if_pos (by simpa using e)]
 exact⟨e,rfl⟩
open PySem.W in
def Al{prog:Program}{w:World}{A:Around}{E:Value->Shared->Prop}{κ:SortKind}{it:Array Keyed}{n:Nat}{Q:Unit->SortSt->Shared->Prop}{G:Array Nat->Shared->Prop}{s:Shared}(h2:2<=n)(hmr:minRun' n n 0<=n)(hG:∀p' st' s',p'.size=n->arrOf st'=p'.map (kas_item it)->failedOf st'=none->G p' s'->Q () st' s')(h:(kas_count n (Ĩ (ã n))).kasWp (kas_cmp prog w A κ it) (λr s'=>r.1=n/\G r.2 s') s) :
  kasC (model prog w) A E sortRuns' Q (kas_st κ it (Ĩ (ã n))) s:=by
 obtain⟨r,rfl⟩:∃r,n=r+2:=⟨n - 2,by omega⟩
 have hrs:(Ĩ (ã (r+2))).size=r+2:=by simp
 rw[sortRuns'_eq]
 refine kasC_bind (kasC_get ?_)
 dsimp only
 have hsz:(arrOf (kas_st κ it (Ĩ (ã (r+2))))).size=r+2:=by
  show((Ĩ (ã (r+2))).map (kas_item it)).size=_
  rw[Array.size_map,hrs]
 simp only[hsz]
 refine kasC_bind (kasC_range ?_)
 show kasC _ _ _ (forIn (0::1::List.range' 2 r) _ _) _ _ _
 refine kasC_cons ?_
 dsimp only
 rw[if_neg (by omega)]
 simp only[Nat.sub_zero,Nat.zero_add]
 refine kasC_bind (kas_count_ (by omega) (by rw[hrs];exact Æ _) (λm p' s' hm1 hm2 hp hg=>?_) h)
 have hps:p'.size=r+2:=hp.trans hrs
 obtain⟨e,hg⟩:=hg
 have e':m=r+2:=e
 subst e'
 dsimp only
 rw[if_neg (by omega)]
 refine kasC_bind (kasC_get ?_)
 rw[show(pendingOf (kas_st κ it p')).back?=none from rfl]
 dsimp only
 refine kasC_bind (kasC_modify (kasC_pure ?_))
 show kasC _ _ _ (forIn (1::List.range' 2 r) _ _) _ _ _
 refine kasC_cons ?_
 dsimp only
 rw[if_pos (Æ _)]
 refine kasC_pure ?_
 dsimp only
 refine kasC_bind (kasC_range ?_)
 show kasC _ _ _ (forIn (0::1::List.range' 2 r) _ _) _ _ _
 refine kasC_cons ?_
 refine kasC_bind (kasC_get ?_)
 rw[if_pos (show(pendingOf (setPending (kas_st κ it p') ((pendingOf (kas_st κ it p')).push (0,r+2,0)))).size<=1 from Æ 1)]
 refine kasC_pure ?_
 dsimp only
 exact kasC_pure (hG p' _ _ hps rfl rfl hg)
def Srt(ts:List Tie):Prop:=ts.length<64\/ts.length=300/\∀i j,i<=j->j<ts.length->aA (ts.getD i (0,0))<=aA (ts.getD j (0,0))
def Srt.lt{ts:List Tie}:Srt ts->ts.length<512
 |.inl h=>by omega
 |.inr h=>by omega
def uP{a:Addr}{us:List Value}{ts:List Tie}{n:Nat}{P:PySem.Fin->Shared->Prop}(ho:s.heap.get? a=some (seqObj "list" us.toArray n))(hp:Paired (eZ s.heap) us ts)(hn:∀t∈ts,jy t)(h64:Srt ts)(h:∀p:List Nat,p.Perm (ã us.length)->(∀i j,i<=j->j<us.length->aA (ts.getD (p.getD i 0) (0,0))<=aA (ts.getD (p.getD j 0) (0,0))) ->
   P (.done (.ret .none)) { s with heap:=sortedHeap s.heap a us (p.map λi=>us.getD i ă).toArray }) :
  wpAny (model prog w) A (Builtin.«list.sort» ⟨[.ref a],[]⟩) P E s:=by
 have hlen:=hp.length
 have hbig:=h64.lt
 have h24:=ä
 rw[list_sort_plain]
 have ha:a<s.heap.objs.size:=Å ho
 refine Á (listItems_at ho rfl ?_)
 refine Á (listUpdate_at ho rfl ?_ (by rw[Ê,ä];omega) (Ģ _))
 obtain⟨e1,ho1⟩:∃e1,(s.heap.update a (ë λ_=>(#[]:Array Value))).get? a=some (seqObj "list" #[] e1):=⟨_,get?_update_seq ho (λ_=>#[])⟩
 refine Á (seqEpoch_at ho1 rfl ?_)
 refine Á (wpAny_newTuple ?_ (by show us.length<=_;rw[ä];omega))
 refine Á (wpAny_newList ?_ (Ģ _))
 refine Ł ?_
 have ho6:(((s.heap.update a (ë λ_=>(#[]:Array Value))).push (seqObj "tuple" us.toArray 0)).push (seqObj "list" #[] 0)).get? a=some (seqObj "list" #[] e1):=by
  rw[ļ _ _ _ (by rw[size_push',š];exact Ö (ę ha)),ļ _ _ _ (by rw[š];exact Ö ha)]
  exact ho1
 have kept:∀b o,s.heap.get? b=some o->o.cls=.type "tuple"->(((s.heap.update a (ë λ_=>(#[]:Array Value))).push (seqObj "tuple" us.toArray 0)).push (seqObj "list" #[] 0)).get? b=some o:=λb o q hc=>by
  have hlt:b<s.heap.objs.size:=Å q
  have hne:b≠a:=λz=>by
   rw[z,ho] at q
   cases q
   have z2:(Ă "list")=Ă "tuple":=hc
   injection z2 with z3
   exact absurd z3 (by decide)
  rw[ļ _ _ _ (by rw[size_push',š];exact Ö (ę hlt)),ļ _ _ _ (by rw[š];exact Ö hlt),Heap.get?_update_ne _ _ _ _ hne]
  exact q
 show wpAny (model prog w) A _ P E { s with heap:=((s.heap.update a (ë λ_=>(#[]:Array Value))).push (seqObj "tuple" us.toArray 0)).push (seqObj "list" #[] 0) }
 dsimp only
 have hsz:us.toArray.size=us.length:=by simp
 have hp6:Paired (eZ (((s.heap.update a (ë λ_=>(#[]:Array Value))).push (seqObj "tuple" us.toArray 0)).push (seqObj "list" #[] 0))) us ts:=Paired.yF hp λu t x=>x.keep kept
 by_cases h2:us.toArray.size<2
 ·rw[if_pos h2,if_pos h2]
  refine Á (Ç ?_)
  rw[StateT.run_pure]
  refine Á (Ç ?_)
  dsimp only
  have eout:(arrOf (SortSt.mk' general' (us.toArray.zip us.toArray) #[] 7 none)).map (·.2)=((ã us.length).map λi=>us.getD i ă).toArray:=by
   rw[d8]
   show(us.toArray.zip us.toArray).map (·.2)=us.toArray
   apply Array.toList_inj.mp
   simp
   exact Gy us
  rw[eout]
  refine Á (seqEpoch_at ho6 rfl ?_)
  refine Á (listUpdate_at ho6 rfl ?_ (Ģ _) (by rw[Ê,Ã,List.length_range,ä];omega))
  simp only[bne_self_eq_false,Ų,if_false]
  refine Ç (h _ (ŧ _) λi j hij hj=>?_)
  have:i=j:=by omega
  subst this
  exact Ũ _
 ·rw[if_neg h2,if_neg h2]
  have h2':2<=us.length:=by omega
  obtain⟨fs,hk,hfl,hfi⟩:=yM (s:={ s with heap:=((s.heap.update a (ë λ_=>(#[]:Array Value))).push (seqObj "tuple" us.toArray 0)).push (seqObj "list" #[] 0) }) hp6
  refine Á (W.kat_kind (T:=.type "int") hk (by omega) (λv hv=>by obtain⟨i,t,rfl⟩:=hfi v hv;exact W.Looks.of_pure rfl) rfl ?_)
  have hcmp:∀i j C,i<us.length->j<us.length->C (decide (aA (ts.getD i (0,0))<aA (ts.getD j (0,0)))) { s with heap:=((s.heap.update a (ë λ_=>(#[]:Array Value))).push (seqObj "tuple" us.toArray 0)).push (seqObj "list" #[] 0) } ->
    W.kas_cmp prog w A (tuples' true) (us.toArray.zip us.toArray) i j C { s with heap:=((s.heap.update a (ë λ_=>(#[]:Array Value))).push (seqObj "tuple" us.toArray 0)).push (seqObj "list" #[] 0) }:=λi j C hi hj hC=>by
   unfold W.kas_cmp
   rw[W.kat_item rfl,W.kat_item rfl]
   have key:∀k,k<us.length->eZ (((s.heap.update a (ë λ_=>(#[]:Array Value))).push (seqObj "tuple" us.toArray 0)).push (seqObj "list" #[] 0)) (us.getD k ă) (ts.getD k (0,0))/\jy (ts.getD k (0,0)):=λk hk=>by
    have hk':k<ts.length:=by omega
    have ek:ts.getD k (0,0)=ts[k]:=by simp[hk']
    obtain⟨u,eu,pu⟩:=GR hp6 (i:=k) (b:=ts[k]) (by simp[hk'])
    have eu':us.getD k ă=u:=by rw[č,eu];rfl
    rw[ek,eu']
    exact⟨pu,hn _ (List.getElem_mem hk')⟩
   exact yH (key i hi).1 (key j hj).1 (key i hi).2 (key j hj).2 hC
  have G:W.kasC (model prog w) A E sortRuns' (λ_ st' s'=>∃p:Array Nat,s'={ s with heap:=((s.heap.update a (ë λ_=>(#[]:Array Value))).push (seqObj "tuple" us.toArray 0)).push (seqObj "list" #[] 0) }/\arrOf st'=p.map (W.kas_item (us.toArray.zip us.toArray))/\failedOf st'=none/\NfSort.Pm us.length p/\NfSort.Up (λi=>aA (ts.getD i (0,0))) p us.length) (W.kas_st (tuples' true) (us.toArray.zip us.toArray) (Ĩ (ã us.length))) { s with heap:=((s.heap.update a (ë λ_=>(#[]:Array Value))).push (seqObj "tuple" us.toArray 0)).push (seqObj "list" #[] 0) }:=by
   rcases h64 with h64|⟨h64,hs⟩
   ·exact W.kas_runs (G:=λp s'=>s'={ s with heap:=((s.heap.update a (ë λ_=>(#[]:Array Value))).push (seqObj "tuple" us.toArray 0)).push (seqObj "list" #[] 0) }/\NfSort.Pm us.length p/\NfSort.Up (λi=>aA (ts.getD i (0,0))) p us.length) h2' (by omega) (λp' st' s' a1 a2 a3 a4=>⟨p',a4.1,a2,a3,a4.2⟩)
     (NfSort.oX hcmp (NfSort.aP (λp hp=>⟨rfl,hp⟩) (NfSort.Ak (by omega))))
   ·have hu:NfSort.Up (λi=>aA (ts.getD i (0,0))) (Ĩ (ã us.length)) us.length:=λi j hij hj=>by
     unfold NfSort.kk
     have eg:∀k,k<us.length->(Ĩ (ã us.length)).getD k 0=k:=λk hk=>by simp[Array.getD,hk]
     rw[eg i (by omega),eg j hj]
     exact hs i j hij (by omega)
    exact Al (G:=λp s'=>s'={ s with heap:=((s.heap.update a (ë λ_=>(#[]:Array Value))).push (seqObj "tuple" us.toArray 0)).push (seqObj "list" #[] 0) }/\NfSort.Pm us.length p/\NfSort.Up (λi=>aA (ts.getD i (0,0))) p us.length) h2' (by rw[hlen,h64];decide +kernel) (λp' st' s' a1 a2 a3 a4=>⟨p',a4.1,a2,a3,a4.2⟩)
     (NfSort.oX (G:=λr s'=>r.1=us.length/\s'={ s with heap:=((s.heap.update a (ë λ_=>(#[]:Array Value))).push (seqObj "tuple" us.toArray 0)).push (seqObj "list" #[] 0) }/\NfSort.Pm us.length r.2/\NfSort.Up (λi=>aA (ts.getD i (0,0))) r.2 us.length) hcmp (NfSort.aP (λr ⟨e1,e2⟩=>⟨e1,rfl,by rw[e2];exact⟨Array.Perm.refl _,hu⟩⟩) (Gf (Array.Perm.refl _) (by omega) hu)))
  have est:SortSt.mk' (tuples' true) (us.toArray.zip us.toArray) #[] 7 none=W.kas_st (tuples' true) (us.toArray.zip us.toArray) (Ĩ (ã us.length)):=by
   have e:=W.kas_range (us.toArray.zip us.toArray)
   rw[show(us.toArray.zip us.toArray).size=us.length by simp] at e
   show SortSt.mk' (tuples' true) (us.toArray.zip us.toArray) #[] 7 none=SortSt.mk' (tuples' true) ((Ĩ (ã us.length)).map (W.kas_item (us.toArray.zip us.toArray))) #[] 7 none
   rw[e]
  have eT:tuples' (Ă "int" != Ă "tuple")=tuples' true:=rfl
  rw[eT,est]
  refine Á (Ħ G ?_ λ_ _ e=>e)
  rintro⟨⟨⟩,st'⟩ s' ⟨p,rfl,har,hf,hpm,hup⟩
  dsimp only
  have hout:=W.kat_snds (ks:=us) (vs:=us) rfl har
  rw[hout]
  have hsz2:p.size=us.length:=hpm.size
  refine Á (seqEpoch_at ho6 rfl ?_)
  refine Á (listUpdate_at ho6 rfl ?_ (Ģ _) (by rw[Ê,Ã,é,hsz2,ä];omega))
  rw[hf]
  simp only[bne_self_eq_false,Ų,if_false]
  refine Ç (h p.toList ?_ λi j hij hj=>?_)
  ·have:=Array.perm_iff_toList_perm.mp hpm
   simpa using this
  ·have q:=hup i j hij hj
   unfold NfSort.kk at q
   have eg:∀k,p.toList.getD k 0=p.getD k 0:=λk=>by
    rw[NfSort.getD_eq,č]
    simp
   rw[eg,eg]
   exact q
def lM{l:Addr}{vs:List Value}{Q:List Value->Shared->Prop}(hl:IsTup s.heap l vs.toArray)(h:Q vs { s with heap:=(s.heap.push (seqObj "list" #[] 0)).update s.heap.objs.size (ë (·++vs.toArray)) })(hsz:vs.length<=sizeLine) :
  wpAny (model prog w) A (collect (.ref l)) Q E s:=by
 obtain⟨o,ho,hc,n,hd⟩:=id hl
 unfold collect
 refine Á (wpAny_runValue (codeAny_builtin entry_proto_collect' ?_))
 show wpAny _ _ (do again (.builtin "list.__iadd__" ⟨[←newList [],.ref l],[]⟩)) _ _ s
 refine Á (wpAny_newList (Ç ⟨Code.quiet_builtin _ (by decide +kernel),codeAny_builtin entry_list_iadd' ?_⟩))
 show wpAny _ _ (Builtin.List.listExtendWith (.ref s.heap.objs.size) (.ref l) (.ref s.heap.objs.size)) _ _ { s with heap:=s.heap.push (seqObj "list" #[] 0) }
 unfold Builtin.List.listExtendWith
 have ho':(s.heap.push (seqObj "list" #[] 0)).get? l=some o:=Ä _ ho
 refine Á (wpAny_typeOf (T:="tuple") ⟨o,ho',hc⟩ ?_)
 have ht:(Ă "tuple" == Ă "tuple")=true:=by rfl
 rw[if_pos (by rw[ht];simp)]
 refine Á (listItems_at ho' hd ?_)
 refine Á (listItems_at (xs:=#[]) (n:=0) (Î _ rfl) rfl ?_)
 rw[if_neg (by simp)]
 refine Á (listUpdate_at (xs:=#[]) (n:=0) (Î _ rfl) rfl ?_ (Ģ _) (by show(#[]++vs.toArray).size<=sizeLine+1;simp only[Array.size_append,Ê,List.length_nil];omega))
 refine Ç ?_
 show wpAny (model prog w) A (do
   let o ←load s.heap.objs.size
   match o.data with
   |.seq xs _=>pure xs.toList
   |_=>unsupported "internal:collect") Q E { s with heap:=(s.heap.push (seqObj "list" #[] 0)).update s.heap.objs.size (ë (·++vs.toArray)) }
 refine Á (wpAny_load (get?_update_seq (Î _ rfl) _) ?_)
 show wpAny _ _ (pure ((#[]:Array Value)++vs.toArray).toList) Q E _
 rw[show((#[]:Array Value)++vs.toArray).toList=vs by simp]
 exact Ç h
def nJ{l:Addr}{us:List Value}{ts:List Tie}{Q:Value->Shared->Prop}(hl:s.heap.IsList l us.toArray\/IsTup s.heap l us.toArray)(hp:Paired (eZ s.heap) us ts)(hn:∀t∈ts,jy t)(h64:Srt ts)(h:∀p:List Nat,p.Perm (ã us.length)->(∀i j,i<=j->j<us.length->aA (ts.getD (p.getD i 0) (0,0))<=aA (ts.getD (p.getD j 0) (0,0))) ->
   Q (.ref (s.heap.objs.size+1)) { s with heap:=sortedAll s.heap us (p.map λi=>us.getD i ă).toArray }) :
  wpAny (model prog w) A (call (.builtin "sorted") [.ref l]) Q E s:=by
 have h24:=ä
 have hlen:=hp.length
 have hbig:=h64.lt
 refine Calls.call_function_entry kind_sorted plain_sorted entry_sorted (args_sorted1 _) ?_
 unfold Builtin.«sorted»
 refine Á (m:=checkCount "sorted" 1 1 _) (Ç ?_)
 have hsz:((s.heap.push (seqObj "list" #[] 0)).update s.heap.objs.size (ë (·++us.toArray))).objs.size=s.heap.objs.size+1:=by
  rw[š,size_push']
 have hoL:(((s.heap.push (seqObj "list" #[] 0)).update s.heap.objs.size (ë (·++us.toArray))).push (seqObj "list" us.toArray 0)).get? (s.heap.objs.size+1)=some (seqObj "list" us.toArray 0):=by
  rw[←hsz];exact Î _ rfl
 have keep:∀b o,s.heap.get? b=some o->(((s.heap.push (seqObj "list" #[] 0)).update s.heap.objs.size (ë (·++us.toArray))).push (seqObj "list" us.toArray 0)).get? b=some o:=λb o q=>by
  have hlt:b<s.heap.objs.size:=Å q
  rw[ļ _ _ _ (by rw[hsz];exact Ö (ę hlt)),Heap.get?_update_ne _ _ _ _ (Ö hlt),ļ _ _ _ (Ö hlt)]
  exact q
 have go:∀{Q':List Value->Shared->Prop},Q' us { s with heap:=(s.heap.push (seqObj "list" #[] 0)).update s.heap.objs.size (ë (·++us.toArray)) }->wpAny (model prog w) A.in1 (collect (.ref l)) Q' (λe s'=>E e s') s:=λ{Q'} hq=>by
  rcases hl with hl|hl
  ·exact collect_list hl hq (by omega)
  ·exact lM hl hq (by omega)
 refine Á (go ?_)
 refine Á (wpAny_newList ?_ (by omega))
 show wpAny _ _ _ _ _ { s with heap:=((s.heap.push (seqObj "list" #[] 0)).update s.heap.objs.size (ë (·++us.toArray))).push (seqObj "list" us.toArray 0) }
 rw[hsz]
 refine Á (Ł (Ĉ slot_list_sort ⟨_,hoL,rfl⟩ entry_list_sort (uP hoL (Paired.yF hp λu t x=>x.keep λa o e _=>keep a o e) hn h64 λp a1 a2=>⟨_,rfl,?_⟩) (args_list_sort _)))
 exact Ç ⟨_,rfl,h p a1 a2⟩
end
section
variable {X:Cx}
def p7{ts:List Tie}{p:List Nat}(hp:p.Perm (ã ts.length))(h:∀i j,i<=j->j<ts.length->aA (ts.getD (p.getD i 0) (0,0))<=aA (ts.getD (p.getD j 0) (0,0))) :
  (p.map λi=>ts.getD i (0,0)).Perm ts/\(p.map λi=>ts.getD i (0,0)).Pairwise (λa b=>aA a<=aA b):=by
 refine⟨?_,?_⟩
 ·have q:=hp.map λi=>ts.getD i (0,0)
  rw[d8] at q
  exact q
 ·have hl:p.length=ts.length:=by simpa using hp.length_eq
  rw[List.pairwise_iff_getElem]
  intro i j hi hj hij
  rw[Ã] at hi hj
  have q:=h i j (by omega) (by omega)
  have ei:p.getD i 0=p[i]:=by simp[hi]
  have ej:p.getD j 0=p[j]:=by simp[hj]
  rw[ei,ej] at q
  simpa using q
def pN:aK X (.builtin "sorted") (λxs H Q=>∃(p:Addr) (vs:List V) (ts:List Tie),xs=[.ref p]/\(SqL X.K H p vs\/SqT X.K H p vs)/\Prs H vs ts/\(∀t∈ts,jy t)/\Srt ts /\
  ∀l ws us,H l=none->Prs H ws us->us.Perm ts->us.Pairwise (λa b=>aA a<=aA b)->Q (.ref l) (upd H l (.lst ws))):=by
 intro pins s σ H xs us Q I r h
 obtain⟨p,vs,ts,rfl,hp,hpr,hn,h64,q⟩:=h
 obtain⟨u,rfl,rx⟩:=vals1 r
 cases rx
 have h24:=ä
 have fin:∀its:List Value,Vals vs its->(s.heap.IsList p its.toArray\/IsTup s.heap p its.toArray)->wpAny (model X.prog X.w) X.A (call (.builtin "sorted") [.ref p]) (EP X pins σ Q) X.xe s:=λits rv hl=>by
  have hpv:=I.pairs hpr rv
  have hlen:=hpr.length
  have hlen2:=rv.length
  have hbig:=h64.lt
  refine nJ hl hpv hn h64 λpp hpp hord=>?_
  have eits:its.length=ts.length:=by omega
  rw[eits] at hpp hord
  obtain⟨hperm,hpw⟩:=p7 hpp hord
  have hlt:∀i∈pp,i<ts.length:=λi hi=>List.mem_range.mp (hpp.mem_iff.mp hi)
  have hw:=xJ hpr V.non (0,0) pp hlt
  have hvv:Vals (pp.map λi=>vs.getD i V.non) (pp.map λi=>its.getD i ă):=xJ rv V.non ă pp λi hi=>by have:=hlt i hi;omega
  obtain⟨e,he⟩:=sortedAll_at s.heap its (pp.map λi=>its.getD i ă).toArray
  refine⟨.ref (s.heap.objs.size+1),upd H (s.heap.objs.size+1) (.lst (pp.map λi=>vs.getD i V.non)),I.laid (t':=s.toks) (λb o eb=>sortedAll_old eb) (Ń _) ?_,rfl,q _ _ _ (I.hok.fresh (Ń _)) hw hperm hpw⟩
  refine⟨?_,_,e,hvv,he⟩
  have hl3:pp.length=ts.length:=by simpa using hpp.length_eq
  rw[Ã]
  omega
 rcases hp with hp|hp
 ·obtain⟨its,rv,pl,hz⟩:=I.list hp
  exact fin its rv (.inl pl.isList)
 ·obtain⟨its,rv,pl,hz⟩:=I.tuple hp
  exact fin its rv (.inr pl)
def pD(t:Tie):PyData:=.tuple [.int t.1,.int t.2]
inductive DatV(K:Í)(H:Hp):V->PyData->Prop
 |lst {a:Addr}{vs:List V}{ts:List Tie}:SqL K H a vs->Prs H vs ts->DatV K H (.ref a) (.list (ts.map pD))
 |tup {a:Addr}{vs:List V}{ts:List Tie}:SqT K H a vs->Prs H vs ts->DatV K H (.ref a) (.tuple (ts.map pD))
 |web {a b:Addr}{n:Int}{vs:List V}{ts:List Tie}:SqT K H a [.int n,.ref b]->SqT K H b vs->Prs H vs ts->DatV K H (.ref a) (.tuple [.int n,.tuple (ts.map pD)])
end
end L2
namespace L2
open PySem PySem.Spec PyProof.Rows HT
section
variable {prog:Program}{w:World}{A:Around}{E:Value->Shared->Prop}{s:Shared}
end
section
variable {X:Cx}{e:Expr}{te:TE}{p1 p2 p3 pos:Pos}
end
end L2
namespace PySem
open Sem (wp)
open AutoSeq1 (wpAny_loadPart')
def d7(l:Addr)(items:Array Value)(n:Nat)(dct:Option Addr)(sl:Array (Option Value)) :
  Meets (Builtin.«enumerate.__new__» ⟨[.type "enumerate",.ref l],[]⟩) (λ_ R s=>s.heap.get? l=some { cls:=.type "tuple",dict:=dct,data:=.seq items n,slots:=sl } /\
   R (.ok (.ret (.ref (s.heap.push { cls:=.type "tuple_iterator",data:=.fields #[.ref l,.int 0 0] }).objs.size)))
    { s with heap:=(s.heap.push { cls:=.type "tuple_iterator",data:=.fields #[.ref l,.int 0 0] }).push { cls:=.type "enumerate",data:=.fields #[.none,.bool false,.ref s.heap.objs.size,rawInt 0,.none,.none] } }) :=
 .of_wp λprog w A R s h=>by
  obtain⟨hp,g,d,tk,os⟩:=s;obtain⟨hl,h⟩:=h
  have hsub:=sub_enumerate
  have hL:Heap.IsTuple (Shared.heap ⟨hp,g,d,tk,os⟩) l items:=⟨_,hl,rfl,n,rfl⟩
  wp_walk using wpAny_loadPart' hl
  refine wpAny_stack_any λst=>Ç ?_
  split
  ·rename_i c _ _ _ _ _
   cases (c == Ă "enumerate")
   ·wp_walk using wpAny_loadPart' hl,Ė hL
    exact⟨_,rfl,h⟩
   ·wp_walk using wpAny_loadPart' hl,Ė hL
    exact⟨_,rfl,h⟩
  ·wp_walk using wpAny_loadPart' hl,Ė hL
   exact⟨_,rfl,h⟩
section
variable {prog:Program}{w:World}{A:Around}{E:Value->Shared->Prop}{s:Shared}
def eX{l:Addr}{items:Array Value}{Q:Value->Shared->Prop}(hL:s.heap.IsTuple l items)(h:∀h',IsEnum h' (s.heap.objs.size+1) s.heap.objs.size 0 .none->h'.IsTupleIter s.heap.objs.size l 0->h'.objs.size=s.heap.objs.size+2 ->
   (∀b o,s.heap.get? b=some o->h'.get? b=some o)->Q (.ref (s.heap.objs.size+1)) { s with heap:=h' }) :
  wpAny (model prog w) A (call (.type "enumerate") [.ref l]) Q E s:=by
 obtain⟨⟨c,dct,dt,sl⟩,hl,hc,n,hd⟩:=hL
 replace hc:c=.type "tuple":=hc
 replace hd:dt=.seq items n:=hd
 subst hc hd
 refine callType_new F.called_enumerate (by decide) (F.typeCall_enumerate_1 _) (F.newCall_enumerate_1 _) (λobj=>F.args_object_init_2 obj _) F.entry_enumerate_new
  (d7 l items n dct sl) ⟨hl,?_⟩
 have hz:(s.heap.push { cls:=.type "tuple_iterator",data:=.fields #[.ref l,.int 0 0] }).objs.size=s.heap.objs.size+1:=ý ..
 show _/\_
 rw[hz]
 have he:IsEnum ((s.heap.push { cls:=.type "tuple_iterator",data:=.fields #[.ref l,.int 0 0] }).push
   { cls:=.type "enumerate",data:=.fields #[.none,.bool false,.ref s.heap.objs.size,rawInt 0,.none,.none] }) (s.heap.objs.size+1) s.heap.objs.size 0 .none:=by
  have:=Î (s.heap.push { cls:=.type "tuple_iterator",data:=.fields #[.ref l,.int 0 0] })
   (o:={ cls:=.type "enumerate",data:=.fields #[.none,.bool false,.ref s.heap.objs.size,rawInt 0,.none,.none] }) rfl
  rw[hz] at this;exact this
 refine⟨⟨_,he,rfl⟩,h _ he ⟨_,Ä _ (Î _ rfl),rfl,rfl⟩ (by rw[ý,hz]) λb o x=>Ä _ (Ä _ x)⟩
def aY{it l:Addr}{i:Nat}{items}{x:Value}{Q:Value->Shared->Prop}(hit:s.heap.IsTupleIter it l i)(hl:s.heap.IsTuple l items)(hx:items[i]?=some x)(hQ:∀h',h'.IsTupleIter it l (i+1)->Ů it s.heap h'->Q x { s with heap:=h' }) :
  wpAny (model prog w) A (í (.ref it)) Q E s:=by
 obtain⟨o,ho,hc,hd⟩:=id hit
 obtain⟨ol,hol,_,nl,hdl⟩:=hl
 unfold í
 refine Á (ĉ (name:=ğ "__next__") hit.typeIs ġ
  (Ĉ ġ hit.typeIs PyProof.Rows.entry_tupleiter_next ?_ (PyProof.Rows.args_tupleiter_next _)))
 show wpAny _ _ (field (.ref it) 0 >>= _) _ _ s
 refine Á (ù ho hd (x:=.ref l) rfl ?_)
 show wpAny _ _ (if (ò l == ă)=true then _ else _) _ _ s
 rw[if_neg (show ¬((ò l == ă)=true) from Ë)]
 show wpAny _ _ (field (.ref it) 1 >>= _) _ _ s
 refine Á (ù ho hd (x:=.int i 0) rfl ?_)
 show wpAny _ _ (seqItems? (.ref l) >>= _) _ _ s
 refine Á (Ķ hol hdl ?_)
 simp only[Int.toNat_natCast,hx]
 refine Á (wpAny_setField ho hd (by simp) (Ç ⟨x,rfl,Ç (hQ _ ?_ (Heap.SameBut.update ..))⟩))
 exact⟨_,Heap.get?_update_self _ ho (Obj.isFreed_of_fields (Obj.data_mapFields hd _)),(Obj.cls_mapFields ..).trans hc,by
  rw[Obj.data_mapFields hd];simp[rawInt]⟩
def bA{it l:Addr}{i:Nat}{items}{Q:Value->Shared->Prop}(hh:A.handled=none)(hit:s.heap.IsTupleIter it l i)(hl:s.heap.IsTuple l items)(hx:items[i]?=none)(hE:∀h' e,Heap.ExtBut it s.heap h'->(∃o,h'.get? e=some o/\o.cls=.type "StopIteration")->E (.ref e) { s with heap:=h' }) :
  wpAny (model prog w) A (í (.ref it)) Q E s:=by
 obtain⟨o,ho,hc,hd⟩:=id hit
 obtain⟨ol,hol,_,nl,hdl⟩:=hl
 unfold í
 refine Á (ĉ (name:=ğ "__next__") hit.typeIs ġ
  (Ĉ ġ hit.typeIs PyProof.Rows.entry_tupleiter_next ?_ (PyProof.Rows.args_tupleiter_next _)))
 show wpAny _ _ (field (.ref it) 0 >>= _) _ _ s
 refine Á (ù ho hd (x:=.ref l) rfl ?_)
 show wpAny _ _ (if (ò l == ă)=true then _ else _) _ _ s
 rw[if_neg (show ¬((ò l == ă)=true) from Ë)]
 show wpAny _ _ (field (.ref it) 1 >>= _) _ _ s
 refine Á (ù ho hd (x:=.int i 0) rfl ?_)
 show wpAny _ _ (seqItems? (.ref l) >>= _) _ _ s
 refine Á (Ķ hol hdl ?_)
 simp only[Int.toNat_natCast,hx]
 refine Á (wpAny_rule (Á (wpAny_setField ho hd (by simp) ?_)))
 show wpAny _ _ (newExc (.type "StopIteration") [] >>= _) _ _ _
 refine Á ?_
 simp only[newExc,newTuple]
 refine Á (ĭ ?_ (by size_fits))
 refine Á (m:=firstArgMember _ _) (wpAny_of_eq (a:=ă) (by first|rfl|(simp only[firstArgMember];rfl)) ?_)
 refine ĭ ?_ (by size_fits)
 simp only[raiseNew]
 refine Á (wpAny_handled ?_)
 first|rw[show A.in1.handled=none from hh]|rw[hh]
 refine Á (Ç (wpAny_throw ?_))
 exact hE _ _ (((Heap.SameBut.update ..).extBut.push _).push _) ⟨_,Î _ rfl,rfl⟩
end
def Draws.tuple{prog:Program}{w:World}{A:Around}(hh:A.handled=none)(it l:Addr)(hne:l≠it)(items:Array Value) :
  Draws prog w A it [it,l] items.size (λi v=>items[i]?=some v) (λi h=>h.IsTupleIter it l i/\h.IsTuple l items) where
 live:=λ_ _ st=>let ⟨o,ho,_⟩:=st.1;⟨o,ho⟩
 frame:=λ_ _ _ st hk=>⟨let ⟨o,ho,r⟩:=st.1;⟨o,hk it (by simp) o ho,r⟩,let ⟨o,ho,r⟩:=st.2;⟨o,hk l (by simp) o ho,r⟩⟩
 item:=λi s Q E hi st hQ=>by
  refine aY st.1 st.2 (x:=items[i]) (by simp[hi]) λh' hit' hs'=>?_
  exact hQ _ h' s.toks (by simp[hi]) ⟨hit',st.2.extBut hs'.extBut hne⟩ hs'
 done:=λs Q E st hE=>bA hh st.1 st.2 (by simp) hE
end PySem
namespace L2
open PySem PySem.Spec PyProof.Rows
def Ite(K:Í)(a:Addr):It :=
 ⟨λi H=>∃xs x,SqT K H a xs/\xs[i]?=some x,λi H x H'=>∃t v,x=.ref t/\H t=none/\H'=upd H t (.tup [.int i,v])/\∀xs,SqT K H a xs->xs[i]?=some v,λi H=>∃xs,SqT K H a xs/\xs.length<=i⟩
def uM{P:Program}{w:World}{K:Í}{elts:List Expr}{kk:Nat}{pos:Pos}(a e it:Addr)(hei:e≠it) :
  Turn P w K (.Tuple elts kk pos) (Ite K a) [e,it] e (λi h=>(∃old,IsEnum h e it i old)/\h.IsTupleIter it a i) where
 mem:=by simp
 obj:=λi h st b hb=>by
  obtain⟨⟨old,he⟩,o,ho,hc,hd⟩:=st
  rcases Ï.mp hb with rfl|hb
  ·exact⟨_,he,λv z=>nomatch z⟩
  ·have e1:b=it:=by simpa using hb
   subst e1
   exact⟨o,ho,λv z=>by rw[hd] at z;cases z⟩
 keep:=λi h h' st k=>by
  obtain⟨⟨old,he⟩,o,ho,r⟩:=st
  exact⟨⟨old,k e (by simp) _ he⟩,o,k it (by simp) _ ho,r⟩
 item:=by
  intro X hP hw hK hc i pins s σ H E I hf st hg
  subst hP hw hK
  obtain⟨xs,x,hq,hx⟩:=hg
  obtain⟨its,rv,p,hz⟩:=I.tuple hq
  obtain⟨u,hu,ru⟩:=rv.get hx
  obtain⟨⟨old,he⟩,hit⟩:=st
  have hai:a≠it:=λz=>by
   obtain⟨o,ho,hc1,_⟩:=p
   obtain⟨o',ho',hc2,_⟩:=hit
   rw[z,ho'] at ho
   cases ho
   rw[hc2] at hc1
   injection hc1 with z2
   exact absurd z2 (by decide)
  have hae:e≠a:=λz=>by
   obtain⟨o,ho,hc1,_⟩:=p
   have he':s.heap.get? e=some _:=he
   rw[z,ho] at he'
   cases he'
   have z1:Ă "enumerate"=Ă "tuple":=hc1
   injection z1 with z2
   exact absurd z2 (by decide)
  have hlt:i<its.toArray.size:=by have:=(Ñ.mp hu).1;simpa using this
  obtain⟨e0,e1,e2,e3,e4,e5⟩:=hf e (by simp)
  obtain⟨f0,f1,f2,f3,f4,f5⟩:=hf it (by simp)
  have D:=Draws.tuple (prog:=X.prog) (w:=X.w) (A:=X.A.in1) (I.ok.hd hc) it a hai its.toArray
  refine wpAny_pyNext_enum_itemD D he ⟨hit,show s.heap.IsTuple a its.toArray from p⟩ hlt hei (by simp[hei,hae]) λx' h' tk hP ho hs' hT hsz hk=>⟨_,rfl,?_⟩
  have ex:x'=u:=by
   have hP':its[i]?=some x':=by simpa using hP
   rw[hu] at hP'
   exact(Ì hP').symm
  subst ex
  refine wpAny_letOwnedTupleGo_enum ho λh2 he2 hs2=>?_
  have hTn:H s.heap.objs.size=none:=I.hok.fresh (Æ _)
  have keep2:∀b o,b≠e->b≠it->s.heap.get? b=some o->h2.get? b=some o:=λb o hb1 hb2 q=>(hs2.2 b hb1).trans (hk b o hb1 hb2 q)
  have hTe:s.heap.objs.size≠e:=ĸ (Å he)
  have hTup:h2.get? s.heap.objs.size=some { cls:=.type "tuple",data:=.seq #[.int i tk,x'] }:=(hs2.2 _ hTe).trans hT
  have J:Inv X pins σ (upd H s.heap.objs.size (.tup [.int i,x])) { s with heap:=h2,toks:=tk+1 }:=by
   refine I.step (g':=s.gens) (d':=s.drawn) (t':=tk+1) (ch:=[e,it]) (λb hb=>?_) (λb o _ _ hcb q _=>keep2 b o (λz=>hcb (by simp[z])) (λz=>hcb (by simp[z])) q)
    (λb o _ _ hcb q _=>⟨o.slots,keep2 b o (λz=>hcb (by simp[z])) (λz=>hcb (by simp[z])) q⟩) (λb o _ q n=>by rw[aj (Ö (Å q))];exact n)
    (λb o hcb q=>⟨o,keep2 b o (λz=>hcb (by simp[z])) (λz=>hcb (by simp[z])) q⟩) (λb ys q=>by rw[aj (ak q hTn)];exact q) (λb o y q=>by rw[aj (ak q hTn)];exact q)
    (λb ps q=>⟨#[],by rw[aj (ak q hTn),q];simp⟩) (λm hm=>?_) ?_ I.bare
   ·rcases Ï.mp hb with rfl|hb
    ·exact⟨e3,e1,e4,e5⟩
    ·have z:b=it:=by simpa using hb
     subst z
     exact⟨f3,f1,f4,f5⟩
   ·obtain⟨o,es,ep,ho',r⟩:=hm
    exact⟨o,es,ep,keep2 _ o (è e1) (è f1) ho',r⟩
   ·intro b u' q
    have nT:∀{c y},H c=some y->c≠e/\c≠it:=λ{c y} z=>⟨λv=>(by rw[v,e0] at z;exact nomatch z),λv=>(by rw[v,f0] at z;exact nomatch z)⟩
    by_cases hb:b=s.heap.objs.size
    ·subst hb
     rw[ao] at q
     cases q
     exact⟨(by show 2<=sizeLine;decide),[.int i tk,x'],.cons ⟨_,rfl⟩ (.cons ru .nil),_,hTup,rfl,_,rfl⟩
    ·rw[aj hb] at q
     refine(I.hok b u' q).stay (λc v hcv y=>keep2 c v ?_ ?_ y) (λc y=>by rw[aj (ak y hTn)];exact y) λc ys y=>by rw[aj (ak y hTn)];exact y
     ·rcases hcv with rfl|z
      ·exact(nT q).1
      ·exact(nT z).1
     ·rcases hcv with rfl|z
      ·exact(nT q).2
      ·exact(nT z).2
  refine⟨.ref s.heap.objs.size,_,J,rfl,⟨_,x,rfl,hTn,rfl,λys hy=>by rw[I.fu hy hq];exact hx⟩,⟨⟨x',?_⟩,?_⟩,λb hb=>?_⟩
  ·have he3:IsEnum h2 e it ((i:Int)+1) x':=by simpa using he2
   have ec:((i+1:Nat):Int)=(i:Int)+1:=by omega
   rw[ec]
   exact he3
  ·obtain⟨o,ho2,r⟩:=hs'.1
   exact⟨o,(hs2.2 it (è hei)).trans ho2,r⟩
  ·rw[aj]
   ·exact(hf b hb).1
   ·rcases Ï.mp hb with rfl|hb
    ·exact è hTe
    ·have z:b=it:=by simpa using hb
     subst z
     obtain⟨o,ho2,_⟩:=hit
     exact Ö (Å ho2)
 done:=by
  intro X hP hw hK hc i pins s σ H E I hf st hg
  subst hP hw hK
  obtain⟨xs,hq,hx⟩:=hg
  obtain⟨its,rv,p,hz⟩:=I.tuple hq
  obtain⟨⟨old,he⟩,hit⟩:=st
  obtain⟨f0,f1,f2,f3,f4,f5⟩:=hf it (by simp)
  have hl:=rv.length
  have hT:s.TypeIs (.ref e) "enumerate":=⟨_,he,rfl⟩
  unfold pyNext
  refine Á (wpAny_attempt (ĉ (name:=ğ "__next__") hT Ą
   (Ĉ Ą hT PySem.F.entry_enumerate_next ?_ (PySem.F.args_enumerate_next_1 _))))
  show wpAny _ _ (field (.ref e) 2 >>= _) _ _ _
  refine Á (ù he rfl (x:=.ref it) rfl ?_)
  refine Á (bA (I.ok.hd hc) hit (show s.heap.IsTuple a its.toArray from p) (by simp;omega) λh' x he' hx'=>?_)
  obtain⟨o,ho,hc'⟩:=hx'
  refine Á (wpAny_isInstance (T:="StopIteration") (b:=true) ⟨o,ho,hc'⟩ isSubtype_stop ?_)
  exact Ç ⟨rfl,I.turned (t':=s.toks) (λb o hb e=>he' b o hb e) f0 f1 f3 f4 f5⟩
 self:=λA i s Q E st h=>by
  obtain⟨⟨old,he⟩,_⟩:=st
  have hT:s.TypeIs (.ref e) "enumerate":=⟨_,he,rfl⟩
  refine wpAny_pyIter_slot hT Ĺ (Ĉ Ĺ hT PySem.F.entry_enumerate_iter ?_ (PySem.F.args_enumerate_iter_1 _))
  show wpAny _ _ (ret (.ref e)) _ _ s
  exact Ç ⟨_,rfl,"enumerate",_,hT,Ą.lookup,h⟩
def boot_enumerate:bootBuiltins "enumerate"=some (.type "enumerate"):=by decide +kernel
section
variable {κ:Type} [DecidableEq κ]
def dJ(kvs:List (κ×V))(k:κ):Option V:=(kvs.find? λkv=>decide (kv.1=k)).map (·.2)
def putK(kvs:List (κ×V))(k:κ)(v:V):List (κ×V) :=
 if (kvs.any λkv=>decide (kv.1=k))=true then kvs.map (λkv=>if kv.1=k then (kv.1,v) else kv) else kvs++[(k,v)]
def jP{p:κ×V}{r:List (κ×V)}{k:κ}(e:p.1=k):dJ (p::r) k=some p.2:=by simp[dJ,ħ,e]
def jQ{p:κ×V}{r:List (κ×V)}{k:κ}(e:¬p.1=k):dJ (p::r) k=dJ r k:=by simp[dJ,ħ,e]
def gC(k:κ):∀kvs:List (κ×V),(kvs.any λkv=>decide (kv.1=k))=(dJ kvs k).isSome
 |[]=>rfl
 |p::r=>by
  rw[List.any_cons]
  by_cases e:p.1=k
  ·simp only[jP e,decide_eq_true e,Bool.true_or,Option.isSome_some]
  ·rw[jQ e,decide_eq_false e,Bool.false_or];exact gC k r
def d9(kvs:List (κ×V))(k:κ)(v:V):(putK kvs k v).length<=kvs.length+1:=by
 unfold putK
 split
 ·rw[Ã];omega
 ·rw[Ü,Ó,List.length_nil];omega
def lR.vp{o:Option V}{u:Option Value}(r:lR o u):o.isSome=u.isSome:=by
 cases o with
 |none=>cases u with
  |none=>rfl
  |some _=>exact(show False from r).elim
 |some _=>cases u with
  |none=>exact(show False from r).elim
  |some _=>rfl
def KV.val{kvs:List (κ×V)}{vs:List (κ×Value)}(r:KV kvs vs)(k:κ):lR (dJ kvs k) (valueAt vs k):=by
 unfold KV at r
 induction r with
 |nil=>exact Ċ
 |@cons p q ps qs h t ih =>
  obtain⟨h1,h2⟩:=h
  by_cases e:p.1=k
  ·have e':q.1=k:=h1.symm.trans e
   have b:valueAt (q::qs) k=some q.2:=by simp[valueAt,ħ,e']
   rw[jP e,b];exact h2
  ·have e':¬q.1=k:=λz=>e (h1.trans z)
   have b:valueAt (q::qs) k=valueAt qs k:=by simp[valueAt,ħ,e']
   rw[jQ e,b];exact ih
def KV.any{kvs:List (κ×V)}{vs:List (κ×Value)}(r:KV kvs vs)(k:κ):(kvs.any λkv=>decide (kv.1=k))=vs.any λkv=>decide (kv.1=k):=by
 unfold KV at r
 induction r with
 |nil=>rfl
 |cons h t ih=>rw[List.any_cons,List.any_cons,ih,h.1]
def KV.repl{kvs:List (κ×V)}{vs:List (κ×Value)}(r:KV kvs vs)(k:κ){y:V}{u:Value}(ry:RelV y u) :
  KV (kvs.map λkv=>if kv.1=k then (kv.1,y) else kv) (vs.map λkv=>if kv.1=k then (kv.1,u) else kv):=by
 unfold KV at r ⊢
 induction r with
 |nil=>exact .nil
 |@cons p q ps qs h t ih =>
  rw[ð,ð]
  refine .cons ?_ ih
  obtain⟨h1,h2⟩:=h
  by_cases e:p.1=k
  ·rw[if_pos e,if_pos (h1.symm.trans e)];exact⟨h1,ry⟩
  ·rw[if_neg e,if_neg (λz=>e (h1.trans z))];exact⟨h1,h2⟩
def KV.put{kvs:List (κ×V)}{vs:List (κ×Value)}(r:KV kvs vs)(k:κ){y:V}{u:Value}(ry:RelV y u):KV (putK kvs k y) (stored vs k u):=by
 unfold putK stored
 rw[r.any k]
 by_cases e:(vs.any λkv=>decide (kv.1=k))=true
 ·rw[if_pos e,if_pos e];exact r.repl k ry
 ·rw[if_neg e,if_neg e];exact Paired.snoc r ⟨rfl,ry⟩
def KV.length{kvs:List (κ×V)}{vs:List (κ×Value)}(r:KV kvs vs):kvs.length=vs.length:=Paired.length r
end
def uo{P:Program}{w:World}{k:Key}{u:Value}(r:RelV (kV k) u):(aV P w).is k u=true:=by
 cases k with
 |inl i=>obtain⟨t,e⟩:=(show ∃t,u=Ğ i t from r);subst e;exact qC P w i t
 |inr x=>obtain⟨t,e⟩:=(show ∃t,u=Value.str x t from r);subst e;exact qz P w x t
def mY{P:Program}{w:World}:∀{ks:List Key}{us:List Value},Vals (ks.map kV) us->ItemsAre (aV P w) ks us
 |[],_,r=>by rw[List.map_nil] at r;cases r;exact .nil
 |k::ks,_,r=>by
  rw[ð] at r
  cases r with
  |cons h t=>exact .cons (uo h) (mY t)
abbrev KT(H:Hp):List (List Key×V)->List (List Key×Addr×Value)->Prop:=Paired λp q=>p.1=q.1/\H q.2.1=some (.tup (p.1.map kV))/\RelV p.2 q.2.2
def KT.val{H:Hp}{kvs:List (List Key×V)}{xs:List (List Key×Addr×Value)}(r:KT H kvs xs)(k:List Key):lR (dJ kvs k) ((atKey xs k).map (·.2)):=by
 induction r with
 |nil=>exact Ċ
 |@cons p q ps qs h t ih =>
  obtain⟨h1,_,h2⟩:=h
  by_cases e:p.1=k
  ·have e':q.1=k:=h1.symm.trans e
   have b:atKey (q::qs) k=some q.2:=by simp[atKey,ħ,e']
   rw[jP e,b];exact h2
  ·have e':¬q.1=k:=λz=>e (h1.trans z)
   have b:atKey (q::qs) k=atKey qs k:=by simp[atKey,ħ,e']
   rw[jQ e,b];exact ih
def KT.repl{H:Hp}{kvs:List (List Key×V)}{xs:List (List Key×Addr×Value)}(r:KT H kvs xs)(k:List Key){y:V}{u:Value}(ry:RelV y u) :
  KT H (kvs.map λkv=>if kv.1=k then (kv.1,y) else kv) (xs.map (putAt k u)):=by
 induction r with
 |nil=>exact .nil
 |@cons p q ps qs h t ih =>
  rw[ð,ð]
  refine .cons ?_ ih
  obtain⟨h1,h2,h3⟩:=h
  unfold putAt
  by_cases e:p.1=k
  ·rw[if_pos e,if_pos (h1.symm.trans e)];exact⟨h1,h2,ry⟩
  ·rw[if_neg e,if_neg (λz=>e (h1.trans z))];exact⟨h1,h2,h3⟩
def KT.put{H:Hp}{kvs:List (List Key×V)}{xs:List (List Key×Addr×Value)}(r:KT H kvs xs)(k:List Key){b:Addr}{y:V}{u:Value}(hb:H b=some (.tup (k.map kV)))(ry:RelV y u) :
  KT H (putK kvs k y) (storedH xs k b u):=by
 have e:(kvs.any λkv=>decide (kv.1=k))=(atKey xs k).isSome:=by
  rw[gC,(r.val k).vp,Option.isSome_map]
 unfold putK storedH
 rw[e]
 by_cases q:(atKey xs k).isSome=true
 ·rw[if_pos q,if_pos q];exact r.repl k ry
 ·rw[if_neg q,if_neg q];exact Paired.snoc r ⟨rfl,hb,ry⟩
def KT.keeps{H H':Hp}{kvs:List (List Key×V)}{xs:List (List Key×Addr×Value)}(r:KT H kvs xs)(ht:∀b ys,H b=some (.tup ys)->H' b=some (.tup ys)):KT H' kvs xs :=
 Paired.yF r λ_ _ z=>⟨z.1,ht _ _ z.2.1,z.2.2⟩
section
variable {P:Program}{w:World}{H:Hp}{h:Heap}{a:Addr}
def Cg{u:HO}(ok:HOk P w H h)(e:Rd H a u):aF P w H h a u:=e.ok ok
def zN{kvs:List (Key×V)}(ok:HOk P w H h)(e:Rd H a (.dK kvs)):kvs.length<=sizeLine/\(a == sysModules)=false/\∃vs,KV kvs vs/\h.DictOf (aV P w) a vs :=
 show aF P w H h a (.dK kvs) from Cg ok e
def CQ{kvs:List (Key×V)}(ok:HOk P w H h)(e:H a=some (.dK kvs)):kvs.length<=sizeLine/\(a == sysModules)=false/\∃vs,KV kvs vs/\h.DictOf (aV P w) a vs:=zN ok (.inl e)
def rY{ks:List Key}(ok:HOk P w H h)(e:H a=some (.tup (ks.map kV))):(tupleKind (aV P w)).is h ks a:=by
 obtain⟨_,its,r,o,h1,h2,n,h3⟩:=(show aF P w H h a (.tup (ks.map kV)) from ok a _ e)
 exact⟨o,its.toArray,n,h1,h2,h3,by simpa using mY r⟩
def zJ{kvs:List (List Key×V)}(ok:HOk P w H h)(e:Rd H a (.dT kvs)):kvs.length<=sizeLine/\(a == sysModules)=false /\
  ∃xs,KT H kvs xs/\h.DictOfH (tupleKind (aV P w)) a xs:=by
 obtain⟨z,y,xs,r,o,es,ep,h1,h2,h3,h4,h5⟩:=(show aF P w H h a (.dT kvs) from Cg ok e)
 refine⟨z,y,xs,r,o,es,ep,h1,h2,h3,h4,λx hx=>?_,h5⟩
 have all:∀{l:List (List Key×V)}{m:List (List Key×Addr×Value)},KT H l m->∀x∈m,(tupleKind (aV P w)).is h x.1 x.2.1:=by
  intro l m q
  induction q with
  |nil=>intro x hx;exact nomatch hx
  |@cons p q ps qs hq t ih =>
   intro x hx
   rcases Ï.mp hx with e|hx
   ·subst e
    exact rY ok (by rw[←hq.1];exact hq.2.1)
   ·exact ih x hx
 exact all r x hx
def HW{kvs:List (List Key×V)}(ok:HOk P w H h)(e:H a=some (.dT kvs)):kvs.length<=sizeLine/\(a == sysModules)=false /\
  ∃xs,KT H kvs xs/\h.DictOfH (tupleKind (aV P w)) a xs:=zJ ok (.inl e)
end
def lU(H:Hp)(a:Addr)(y:V)(r:Option V):Prop :=
 (∃kvs k,Rd H a (.dK kvs)/\y=kV k/\r=dJ kvs k)\/∃kvs k b,Rd H a (.dT kvs)/\y=.ref b/\H b=some (.tup (k.map kV))/\r=dJ kvs k
def qX(H:Hp)(a:Addr)(y v:V)(H':Hp):Prop :=
 (∃kvs k,H a=some (.dK kvs)/\y=kV k/\kvs.length<sizeLine/\H'=upd H a (.dK (putK kvs k v))) ∨
 ∃kvs k b,H a=some (.dT kvs)/\y=.ref b/\H b=some (.tup (k.map kV))/\kvs.length<sizeLine/\H'=upd H a (.dT (putK kvs k v))
def lU.k{H:Hp}{a:Addr}{kvs:List (Key×V)}{k:Key}(e:H a=some (.dK kvs)):lU H a (kV k) (dJ kvs k):=.inl ⟨kvs,k,.inl e,rfl,rfl⟩
def qX.k{H:Hp}{a:Addr}{kvs:List (Key×V)}{k:Key}{v:V}(e:H a=some (.dK kvs))(hl:kvs.length<sizeLine):qX H a (kV k) v (upd H a (.dK (putK kvs k v))):=.inl ⟨kvs,k,e,rfl,hl,rfl⟩
section
variable {X:Cx}{pins:List (Addr×Obj)}{σ:St}{H:Hp}{s:Shared}{a:Addr}{y v:V}{u r:Value}{o:Option V}{A:Around}{E:Value->Shared->Prop}
def Inv.big(I:Inv X pins σ H s):sysModules<s.heap.objs.size:=by
 have h:mainGlobals<s.heap.objs.size:=(I.mod.glob.keeps I.bk).lt
 exact Nat.lt_trans (by decide) h
def vI{Q:Value->Shared->Prop}(hu:A.units+1<cLine)(I:Inv X pins σ H s)(g:lU H a y (some v))(ry:RelV y u)(h:∀w' s',Inv X pins σ H s'->RelV v w'->Q w' s') :
  wpAny (model X.prog X.w) A (getItem (.ref a) u) Q E s:=by
 rcases g with ⟨kvs,k,e,ey,l⟩|⟨kvs,k,b,e,ey,eb,l⟩
 ·subst ey
  obtain⟨z,hd,vs,rel,dd⟩:=zN I.hok e
  obtain⟨w',hw,rw'⟩:=lR.some_of (v:=v) (o:=valueAt vs k) (by rw[l];exact rel.val k)
  exact wpAny_getItem_of (uo ry) dd.mapOf hw (h w' _ (I.tok _) rw')
 ·subst ey
  cases (show u=ò b from ry)
  obtain⟨z,hd,xs,rel,dd⟩:=zJ I.hok e
  obtain⟨w',hw,rw'⟩:=lR.some_of (v:=v) (o:=(atKey xs k).map (·.2)) (by rw[l];exact rel.val k)
  obtain⟨p,hp,hp2⟩:=ż.mp hw
  refine wpAny_getItem_heap (tupleKind_room_in1 hu) (rY I.hok eb) dd hp ?_
  rw[hp2]
  exact h w' _ (I.tok _) rw'
def pK{h':Heap}{t':Nat}{ob:HO}(I:Inv X pins σ H s)(mu:Mut (H a))(hs:Ů a s.heap h')(he:∃q,h'.get? a=some q)(new:aF X.prog X.w (upd H a ob) h' a ob) :
  Inv X pins σ (upd H a ob) { s with heap:=h',toks:=t' } :=
 I.write (x:=a) (e:=a) mu (.inl rfl) (λb q hb z=>(hs.2 b hb).trans z) he new
def zO{P:Program}{w:World}{H':Hp}{h':Heap}{kvs:List (Key×V)}{vs:List (Key×Value)}(z:kvs.length<=sizeLine)(hd:(a == sysModules)=false)(rel:KV kvs vs)(dd:h'.DictOf (aV P w) a vs) :
  aF P w H' h' a (.dK kvs):=⟨z,hd,vs,rel,dd⟩
def vH{H':Hp}{Q:Unit->Shared->Prop}(hu:A.units+1<cLine)(I:Inv X pins σ H s)(g:qX H a y v H')(ry:RelV y u)(rv:RelV v r)(h:∀s',Inv X pins σ H' s'->Q () s') :
  wpAny (model X.prog X.w) A (setItem (.ref a) u r) Q E s:=by
 rcases g with ⟨kvs,k,e,ey,l,eH⟩|⟨kvs,k,b,e,ey,eb,l,eH⟩
 ·subst ey eH
  obtain⟨z,hd,vs,rel,dd⟩:=CQ I.hok e
  have hz:vs.length<=sizeLine:=by rw[←rel.length];exact z
  have hl:(putK kvs k v).length<=sizeLine:=by have:=d9 kvs k v;omega
  refine wpAny_setItem_pairs (hsz:=hz) (uo ry) dd λh' dd' hs=>h _ ?_
  have he:∃q,h'.get? a=some q:=let ⟨q,_,_,hq,_⟩:=dd';⟨q,hq⟩
  exact pK I (by rw[e];exact Ċ) hs he (zO hl hd (rel.put k rv) dd')
 ·subst ey eH
  cases (show u=ò b from ry)
  obtain⟨z,hd,xs,rel,dd⟩:=HW I.hok e
  have hz:xs.length<=sizeLine:=by rw[←Paired.length rel];exact z
  have hl:(putK kvs k v).length<=sizeLine:=by have:=d9 kvs k v;omega
  refine wpAny_setItem_heap (hsz:=hz) (tupleKind_room_in1 hu) (rY I.hok eb) dd λh' dd' hs=>h _ ?_
  obtain⟨q,es,ep,hq,h2,h3,h4,_,h5⟩:=dd'
  refine pK I (by rw[e];exact Ċ) hs ⟨q,hq⟩ ⟨hl,hd,_,(rel.put k eb rv).keeps λc ys ec=>?_,q,es,ep,hq,h2,h3,h4,h5⟩
  rw[aj (Hl ec e (λz=>nomatch z))]
  exact ec
end
section
variable {X:Cx}{pins:List (Addr×Obj)}{σ:St}{H:Hp}{s:Shared}{a:Addr}{kvs:List (Key×V)}{k:Key}{u:Value}{A:Around}{E:Value->Shared->Prop}
end
def Ie(i:Expr):Prop:=∀ov iv,subscripted i false ov iv=operate [ov,iv] (getItem ov iv)
def Aj{prog:Program}{w:World}{A:Around}{E:Value->Shared->Prop}{s:Shared}{env:Env}{value slice:Expr}{pos:Pos}{T id:String}{Q:Value->Shared->Prop}(hl:typeLookup (.type T) "__getitem__"=pure (some (.builtin id)))(hs:Ie slice)(h:wpAny (model prog w) A (eval value env) (λo s₁=>wpAny (model prog w) A (eval slice env) (λi s₂=>s₂.TypeIs o T/\wpAny (model prog w) A (getItem o i) Q E s₂) E s₁) E s) :
  wpAny (model prog w) A (eval (.Subscript value slice pos) env) Q E s:=by
 refine Subscript_ (Ħ h (λo s₁ h₁=>Ħ h₁ (λi s₂ h₂=>?_) λ_ _ x=>x) λ_ _ x=>x)
 obtain⟨hT,h₂⟩:=h₂
 unfold subscriptTail
 refine Á ?_
 rw[getitemInPython_of_ne hT.not_modules]
 refine Á (wpAny_specialOf hT hl ?_)
 have fin:wpAny (model prog w) A (subscripted slice false o i) (λr s₃=>wpAny (model prog w) A (letTemporaryGo value o r >>= λ_=>pure r) Q E s₃) E s₂:=by
  rw[hs o i]
  exact wpAny_operating (Ħ h₂ (λr s₃ h₃=>Á (wpAny_letTemporaryGo (Ç h₃))) λ_ _ x=>x)
 first
  |exact Ç (Á fin)
  |exact Á (Ç (Á fin))
  |exact Á fin
def qN{X:Cx}{pins:List (Addr×Obj)}{σ:St}{H:Hp}{s:Shared}{a:Addr}{y:V}{o:Option V}(I:Inv X pins σ H s)(g:lU H a y o):s.TypeIs (.ref a) "dict":=by
 rcases g with ⟨kvs,k,e,_,_⟩|⟨kvs,k,b,e,_,_,_⟩
 ·obtain⟨_,_,vs,_,dd⟩:=zN I.hok e
  exact dd.typeIs
 ·obtain⟨_,_,xs,_,dd⟩:=zJ I.hok e
  exact dd.typeIs
def Gw(td ty:TE):TE:=λσ H Q=>td σ H λx H1=>ty σ H1 λy H2=>∃a v,x=.ref a/\lU H2 a y (some v)/\Q v H2
def GD(td ty tv:TE):TS:=λD σ H=>tv σ H λv H1=>td σ H1 λx H2=>ty σ H2 λy H3=>∃a H4,x=.ref a/\qX H3 a y v H4/\D.nx σ H4
section
variable {X:Cx}{o i e value:Expr}{pos pos' tpos:Pos}{td ty tv:TE}
def cC(hu:X.A.units+1<cLine)(ho:PE X o td)(hi:PE X i ty)(hs:Ie i):PE X (.Subscript o i pos) (Gw td ty):=by
 intro pins s σ H Q I h
 refine Aj PySem.F.slot_dict_getitem.lookup hs (thn (ho pins s σ H _ I h) λu s1 ⟨x,H1,I1,rx,q1⟩=>thn (hi pins s1 σ H1 _ I1 q1) λiv s2 ⟨y,H2,I2,ry,a,v,ex,g,q2⟩=>?_)
 subst ex
 obtain rfl:u=ò a:=rx
 exact⟨qN I2 g,vI hu I2 g ry λw' s3 I3 rw'=>⟨v,H2,I3,rw',q2⟩⟩
def nQ(hu:X.A.units+1<cLine)(ho:PE X o td)(hi:PE X i ty)(hv:PE X value tv)(hs:swapsWith value (some (.Subscript o i pos')) pos.line X.env=pure false) :
  PS X (.Assign [.Subscript o i pos'] value pos) (GD td ty tv):=by
 intro pins s σ H D I h
 refine wpAny_Assign_Subscript (thn (hv pins s σ H _ I h) λr s1 ⟨v,H1,I1,rv,q1⟩=>thn (ho pins s1 σ H1 _ I1 q1) λu s2 ⟨x,H2,I2,rx,q2⟩=>thn (hi pins s2 σ H2 _ I2 q2) λiv s3 ⟨y,H3,I3,ry,a,H4,ex,g,q3⟩=>?_) hs
 subst ex
 obtain rfl:u=ò a:=rx
 exact vH hu I3 g ry rv λs4 I4=>⟨σ,H4,I4,q3⟩
end
def zR{P:Program}{w:World}{H:Hp}(h:Heap)(hb:sysModules<h.objs.size):aF P w H (h.push { cls:=.type "dict",data:=.dict #[] }) h.objs.size (.dK []) :=
 ⟨Ģ _,beq_eq_false_iff_ne.mpr (è (Ö hb)),[],.nil,Heap.DictOf.new h⟩
section
variable {X:Cx}{pos:Pos}
end
def rz:List (TE×TE)->St->Hp->(List (V×V)->Hp->Prop)->Prop
 |[],_,H,Q=>Q [] H
 |(tk,tv)::r,σ,H,Q=>tk σ H λx H1=>tv σ H1 λy H2=>rz r σ H2 λps H3=>Q ((x,y)::ps) H3
abbrev VV:List (V×V)->List (Value×Value)->Prop:=Paired λp q=>RelV p.1 q.1/\RelV p.2 q.2
def PPs(X:Cx)(pos:Pos)(keys:List (Option Expr))(values:List Expr)(trs:List (TE×TE)):Prop :=
 ∀(pins:List (Addr×Obj)) (s:Shared) (σ:St) (H:Hp) (Q:List (V×V)->Hp->Prop),Inv X pins σ H s->rz trs σ H Q ->
  wpAny (model X.prog X.w) X.A (evalPairs (pairTrees keys values X.env pos)) (λvs s'=>∃ps H',Inv X pins σ H' s'/\VV ps vs/\Q ps H') X.xe s
def Av{X:Cx}{pos:Pos}:PPs X pos [] [] []:=λpins s σ H Q I h=>pairTrees_nil_walk ⟨[],H,I,.nil,h⟩
def jY{X:Cx}{pos:Pos}{k v:Expr}{ks:List (Option Expr)}{vs:List Expr}{tk tv:TE}{trs:List (TE×TE)}(hk:PE X k tk)(hv:PE X v tv)(hr:PPs X pos ks vs trs) :
  PPs X pos (some k::ks) (v::vs) ((tk,tv)::trs):=λpins s σ H Q I h =>
 pairTrees_cons_walk (thn (hk pins s σ H _ I h) λu s1 ⟨x,H1,I1,rx,q1⟩=>thn (hv pins s1 σ H1 _ I1 q1) λw2 s2 ⟨y,H2,I2,ry,q2⟩ =>
  thn (hr pins s2 σ H2 _ I2 q2) λws s3 ⟨ps,H3,I3,rel,q3⟩=>⟨(x,y)::ps,H3,I3,.cons ⟨rx,ry⟩ rel,q3⟩)
def gb(kvs more:List (Key×V)):List (Key×V):=more.foldl (λacc kv=>putK acc kv.1 kv.2) kvs
def KV.merge:∀{more:List (Key×V)}{rs:List (Key×Value)}{kvs:List (Key×V)}{vs:List (Key×Value)},KV more rs->KV kvs vs->KV (gb kvs more) (merged vs rs):=by
 intro more rs kvs vs r
 unfold KV at r
 induction r generalizing kvs vs with
 |nil=>intro q;exact q
 |@cons p q ps qs h t ih =>
  intro r0
  have e:KV (putK kvs p.1 p.2) (stored vs q.1 q.2):=by
   have:=r0.put p.1 h.2
   rw[←h.1];exact this
  exact ih e
def fW:∀(more kvs:List (Key×V)),(gb kvs more).length<=kvs.length+more.length
 |[],kvs=>by show kvs.length<=kvs.length+0;omega
 |p::r,kvs=>by
  have h1:=fW r (putK kvs p.1 p.2)
  have h2:=d9 kvs p.1 p.2
  show(gb (putK kvs p.1 p.2) r).length<=_
  rw[Ó];omega
def lO{P:Program}{w:World}:∀{kvs:List (Key×V)}{ws:List (Value×Value)},VV (kvs.map λkv=>(kV kv.1,kv.2)) ws->∃rs,Carries (aV P w) ws rs/\KV kvs rs
 |[],_,r=>by rw[List.map_nil] at r;cases r;exact⟨[],Ċ,.nil⟩
 |p::kvs,_,r=>by
  rw[ð] at r
  cases r with
  |@cons a b as bs h t =>
   obtain⟨rs,c,q⟩:=lO (P:=P) (w:=w) t
   obtain⟨b1,b2⟩:=b
   exact⟨(p.1,b2)::rs,⟨uo h.1,rfl,c⟩,.cons ⟨rfl,h.2⟩ q⟩
def Gv(trs:List (TE×TE)):TE:=λσ H Q=>∀p,H p=none->rz trs σ (upd H p (.dK [])) λps H2=>H2 p=some (.dK [])/\∃kvs:List (Key×V),ps=kvs.map (λkv=>(kV kv.1,kv.2))/\kvs.length<=15/\Q (.ref p) (upd H2 p (.dK (gb [] kvs)))
def Bb{X:Cx}{pos:Pos}{keys:List (Option Expr)}{values:List Expr}{trs:List (TE×TE)}(h:PPs X pos keys values trs)(hall:keys.all (·.isSome)=true)(hl:keys.length=values.length)(h0:keys≠[])(h15:keys.length<=15):PE X (.Dict keys values pos) (Gv trs):=by
 intro pins s σ H Q I q
 have hn:=I.hok.fresh (Æ s.heap.objs.size)
 have I1:=I.laid (a:=s.heap.objs.size) (o:=.dK []) (h':=s.heap.push { cls:=.type "dict",data:=.dict #[] }) (t':=s.toks) (λ_ _ q=>Ä _ q) (Æ _) (zR s.heap I.big)
 refine wpAny_Dict_walk (knd:=aV X.prog X.w) hall hl h0 h15 (thn (h pins _ σ _ _ I1 (q _ hn)) λws s2 ⟨ps,H2,I2,rel,e,kvs,ep,lk,q2⟩=>?_)
 subst ep
 obtain⟨rs,c,rk⟩:=lO (P:=X.prog) (w:=X.w) rel
 obtain⟨z,hd,vs0,r0,dd⟩:=CQ I2.hok e
 cases r0
 refine⟨rs,c,dd,λh' dd' hs=>⟨.ref s.heap.objs.size,_,?_,rfl,q2⟩⟩
 have hz:(gb [] kvs).length<=sizeLine:=by
  have h1:=fW kvs []
  rw[List.length_nil] at h1
  rw[ä];omega
 have he:∃q,h'.get? s.heap.objs.size=some q:=let ⟨q,_,_,hq,_⟩:=dd';⟨q,hq⟩
 exact pK I2 (by rw[e];exact Ċ) hs he (zO hz hd (rk.merge .nil) dd')
structure M1(X:Cx)(o:Expr)(m:Str)(apos:Pos)(e:Expr)(cpos:Pos):Prop where
 base:attributeBase o m X.env (eval o X.env)=eval o X.env
 few:((backTo cpos (starEach [e] X.env)).all (λx=>!x.1)&&(backToKw cpos (keywordEach [] X.env)).all (λx=>x.1.isSome)
 &&decide (([e]:List Expr).length+([]:List Keyword).length+(if ([]:List Keyword).isEmpty then 0 else 1)<30))=true
 line:(apos.endLine == cpos.line)=true
 trees:backTo cpos (starEach [e] X.env)=[(false,eval e X.env)]
structure M2(X:Cx)(o:Expr)(m:Str)(apos:Pos)(e f:Expr)(cpos:Pos):Prop where
 base:attributeBase o m X.env (eval o X.env)=eval o X.env
 few:((backTo cpos (starEach [e,f] X.env)).all (λx=>!x.1)&&(backToKw cpos (keywordEach [] X.env)).all (λx=>x.1.isSome)
 &&decide (([e,f]:List Expr).length+([]:List Keyword).length+(if ([]:List Keyword).isEmpty then 0 else 1)<30))=true
 line:(apos.endLine == cpos.line)=true
 trees:backTo cpos (starEach [e,f] X.env)=[(false,eval e X.env),(false,eval f X.env)]
section
variable {X:Cx}{pins:List (Addr×Obj)}{σ:St}{H:Hp}{s:Shared}{a:Addr}{y d:V}{u r:Value}{o:Option V}{A:Around}{E:Value->Shared->Prop}
end
section
variable {X:Cx}{o e f:Expr}{apos cpos:Pos}{td ty tx:TE}
end
section
variable {X:Cx}{pins:List (Addr×Obj)}{σ:St}{H:Hp}{s:Shared}{a:Addr}{kvs:List (Key×V)}{A:Around}{E:Value->Shared->Prop}
end
section
variable {X:Cx}{pins:List (Addr×Obj)}{σ:St}{H:Hp}{s:Shared}{a:Addr}{y:V}{u:Value}{A:Around}{E:Value->Shared->Prop}
end
section
variable {prog:Program}{w:World}{A:Around}{E:Value->Shared->Prop}{s:Shared}
end
section
variable {X:Cx}
end
section
variable {X:Cx}
def iD(l:List Int):PyData:=.list (l.map Þ)
def rW:∀l:List Int,ĥ (l.map Þ)=true
 |[]=>rfl
 |t::ts=>by
  show(PyData.canLay0 (Þ t)&&ĥ (ts.map Þ))=true
  rw[rW ts]
  rfl
def lH:∀l:List Int,ĳ (l.map Þ)=0
 |[]=>rfl
 |t::ts=>by
  show max (PyData.depth (Þ t)) (ĳ (ts.map Þ))=0
  rw[lH ts]
  rfl
def zH:∀ts us:List Int,PyData.eqvAll (ts.map Þ) (us.map Þ)=decide (ts=us)
 |[],[]=>rfl
 |[],_::_=>rfl
 |_::_,[]=>rfl
 |t::ts,u::us=>by
  show((t == u)&&PyData.eqvAll (ts.map Þ) (us.map Þ))=_
  rw[zH ts us,Ŕ]
  simp
def yK:∀ls:List (List Int),ĥ (ls.map iD)=true
 |[]=>rfl
 |t::ts=>by
  show(ĥ (t.map Þ)&&ĥ (ts.map iD))=true
  rw[yK ts,rW]
  rfl
def qO:∀ls:List (List Int),ĳ (ls.map iD)<=1
 |[]=>Ģ _
 |t::ts=>by
  show max (ĳ (t.map Þ)+1) (ĳ (ts.map iD))<=1
  have h1:=qO ts
  rw[lH]
  omega
def fX{h:Heap}:∀{l:List Int}{us:List Value},Vals (l.map V.int) us->∃as,ReadsAll h us (l.map Þ) as
 |[],_,r=>by cases r;exact⟨[],.nil⟩
 |x::l,_,r=>by
  cases r with
  |cons a b =>
   obtain⟨t,rfl⟩:=a
   obtain⟨as,q⟩:=fX b
   exact⟨_,.cons (.int _ _) q⟩
inductive DatL(K:Í)(H:Hp):V->PyData->Prop
 |flt {a:Addr}{l:List Int}:SqL K H a (l.map V.int)->DatL K H (.ref a) (iD l)
 |lists {a:Addr}{as:List Addr}{ls:List (List Int)}:SqL K H a (as.map V.ref)->Paired (λ(a:Addr) (l:List Int)=>SqL K H a (l.map V.int)) as ls->DatL K H (.ref a) (.list (ls.map iD))
def Inv.wZ{pins:List (Addr×Obj)}{σ:St}{H:Hp}{s:Shared}(I:Inv X pins σ H s):∀{as:List Addr}{ls:List (List Int)}{us:List Value},Paired (λ(a:Addr) (l:List Int)=>SqL X.K H a (l.map V.int)) as ls->Vals (as.map V.ref) us->∃bs,ReadsAll s.heap us (ls.map iD) bs
 |_,_,_,.nil,r=>by cases r;exact⟨[],.nil⟩
 |_,_,_,.cons p q,r=>by
  cases r with
  |cons a b =>
   cases a
   obtain⟨its,rv,pl,hz⟩:=I.list p
   obtain⟨as1,r1⟩:=fX (h:=s.heap) rv
   obtain⟨o,ho,hc,n,hd⟩:=pl.isList
   obtain⟨as2,r2⟩:=I.wZ q b
   exact⟨_,.cons (.list ho hc hd (by simpa using r1)) r2⟩
def DatL.reads{pins:List (Addr×Obj)}{σ:St}{H:Hp}{s:Shared}{x:V}{u:Value}{d:PyData}(I:Inv X pins σ H s)(h:DatL X.K H x d)(r:RelV x u):(∃as,Reads s.heap u d as)/\d.canLay0=true/\d.depth<=3:=by
 cases h with
 |@flt a l hs =>
  cases r
  obtain⟨its,rv,pl,hz⟩:=I.list hs
  obtain⟨as,ra⟩:=fX (h:=s.heap) rv
  obtain⟨o,ho,hc,n,hd⟩:=pl.isList
  refine⟨⟨_,.list ho hc hd (by simpa using ra)⟩,rW _,?_⟩
  show ĳ _+1<=3
  rw[lH]
  omega
 |@lists a as ls hs hp =>
  cases r
  obtain⟨its,rv,pl,hz⟩:=I.list hs
  obtain⟨bs,ra⟩:=I.wZ hp rv
  obtain⟨o,ho,hc,n,hd⟩:=pl.isList
  refine⟨⟨_,.list ho hc hd (by simpa using ra)⟩,yK _,?_⟩
  show ĳ _+1<=3
  have:=qO ls
  omega
def GJ(K:Í)(neg:Bool):R2:=λx y H Q=>∃d e b,DatL K H x d/\DatL K H y e/\ź d e=b/\Q (.bl (if neg then !b else b)) H
def Jc(hu:X.A.units+64<cLine):OpR X (compareOp .Eq) (GJ X.K false):=by
 intro pins s σ H x y v u Q I rx ry h
 obtain⟨d,e,b,hd,he,hb,q⟩:=h
 obtain⟨⟨as,ra⟩,la,da⟩:=hd.reads I rx
 obtain⟨⟨bs,rb⟩,lb,db⟩:=he.reads I ry
 exact SeqAt.compareEq_reads ra rb la lb (by omega) (hb ▸ ⟨.bl b,H,I,rfl,q⟩)
def Ei(hu:X.A.units+64<cLine):OpR X (compareOp .NotEq) (GJ X.K true):=by
 intro pins s σ H x y v u Q I rx ry h
 obtain⟨d,e,b,hd,he,hb,q⟩:=h
 obtain⟨⟨as,ra⟩,la,da⟩:=hd.reads I rx
 obtain⟨⟨bs,rb⟩,lb,db⟩:=he.reads I ry
 exact SeqAt.compareNe_reads ra rb la lb (by omega) (hb ▸ ⟨.bl (!b),H,I,rfl,q⟩)
def zG(ts us:List Int):ź (iD ts) (iD us)=decide (ts=us):=zH ts us
end
end L2
namespace PySem
open PyProof.Rows
def Js(h:Heap)(e:Addr):Prop:=∃oe vs,h.get? e=some oe/\oe.data=.fields vs/\vs[2]?=some .none
section
variable {M:Model}{A:Around}{E:Value->Shared->Prop}{s:Shared}{base:Heap}{env:Env}{outer:List Env}{L e:Addr}{Q:Unit->Shared->Prop}
end
end PySem
namespace L2
open PySem PySem.Spec PyProof.Rows
def Jt(base:Heap)(l:List Env)(e:Addr)(cls a0:Value)(h:Heap):Prop:=base.StaysIn h/\base.get? e=none/\h.FunFrames base l/\h.TracedW base e cls a0/\Js h e
def CX1(P:Program)(w:World):CXT:=λouter H s E e s'=>∃(a:Addr) (cls a0:Value) (H1:Hp) (hb:Heap),e=.ref a/\s'.os=s.os/\AllBare s'.gens/\Un (frs outer) [] H H1 s.heap s'.heap/\HOk P w H1 hb/\Jt hb outer a cls a0 s'.heap /\
 (∀b o,s.heap.get? b=some o->H b=none->b∉frs outer->hb.get? b=some o)/\(∀b o,s.heap.get? b=some o->b∉frs outer->∃o',hb.get? b=some o')/\E cls none H1
structure Lets(X:Cx)(E:XK):Prop where
 xe:∀e s',wpAny (model X.prog X.w) X.A (leaving X.env e) (λ_ s''=>CX1 X.prog X.w X.outer X.H₀ X.s₀ E e s'') (λe' s''=>CX1 X.prog X.w X.outer X.H₀ X.s₀ E e' s'') s'->X.xe e s'
 stk:X.stack=X.env::X.outer
 fr:X.env.frame=some X.env.locals
 ex:X.ex=[]
section
variable {X:Cx}{pins:List (Addr×Obj)}{σ:St}{H H1:Hp}{s:Shared}{E:XK}
end
structure ExcCls(K:Í)(C:Addr)(newId:String)(bmB:List Value):Prop where
 ex:∃(nm q:Str) (N:Addr) (bs bm:List Value) (hdct:Bool) (sn:List Str) (sub:List Value) (ab:Bool) (col:Option Bool) (dd:Option Addr) (k0 k1 k2 k3 k5:Option Value),
  K.lookup C=some (excClassObj nm q C N bs bm hdct sn sub ab col dd k0 k1 k2 k3 k5 newId)/\W.tailIn K bmB bm=true/\W.nsOkIn K N=true/\W.nsIn K N "__init__"=some none/\bm.contains (.type "BaseException")=true
section
variable {X:Cx}{E:XK}{x:Str}{C:Addr}{newId Bn initId:String}{bmB:List Value}{e:Expr}{es:List Expr}{t:TA}{np cpos pos:Pos}
end
section
variable {X:Cx}{pins:List (Addr×Obj)}{σ:St}{H:Hp}{s:Shared}{ev:Value}
end
section
variable {X:Cx}{k:Nat}{f CF:Addr}{fd:FuncData}{ps:List Str}{sp:Sp}{E:XK}{x hx n:Str}{p np cpos epos hpos pos:Pos}{e:Expr}{es:List Expr}{t:TA}{b₀:Stmt}{suite:List Stmt}{ts:TS}{j:Nat}
end
end L2
namespace L2
open PySem PySem.W PySem.Spec PyProof.Rows
structure ExcK(K:Í)(C:Addr):Prop where
 ex:∃(nm q:Str) (N AF:Addr) (bs bmB:List Value) (hdct:Bool) (sn:List Str) (sub:List Value) (ab:Bool) (col:Option Bool) (dd ddF:Option Addr) (k0 k1 k2 k3 k5:Option Value) (newId B:String) (c0:Value) (cd:ClassData) (slF:Array (Option Value)),
  K.lookup C=some (excClassObj nm q C N bs (.ref AF::bmB) hdct sn sub ab col dd k0 k1 k2 k3 k5 newId)/\K.lookup AF=some ⟨c0,ddF,.cls cd,slF⟩/\nsOkIn K cd.ns=true/\(∀n∈quietNames,nsIn K cd.ns n=some none)/\ExcAttrBase B bmB
 ga:findIn K (.ref C) "__getattribute__"=some (some (.builtin "BaseException.__getattribute__"))
 hook:findIn K (.ref C) "__getattr__"=some none
 cls:findIn K (.ref C) "__class__"=some (some (.builtin "object.__class__"))
 mro:mroIn K C (.type "object")=some true
section
variable {prog:Program}{w:World}{K:Í}{a C:Addr}{A:Around}{E:Value->Shared->Prop}{s:Shared}
end
section
variable {X:Cx}
def Ci:R2:=λx y H Q=>∃a b xs ys,x=.ref a/\y=.ref b/\H a=some (.tup xs)/\H b=some (.tup ys)/\xs.length+ys.length<=sizeLine/\∀c H',(∀d u,H d=some u->H' d=some u)->H' c=some (.tup (xs++ys))->Q (.ref c) H'
def Bh:OpR X (binaryOp .Add) Ci:=by
 intro pins s σ H x y v u Q I rx ry h
 obtain⟨a,b,xs,ys,rfl,rfl,ha,hb,hz,q⟩:=h
 cases rx
 cases ry
 obtain⟨its,r1,p1,_⟩:=I.tuple (SqT.of ha)
 obtain⟨its2,r2,p2,_⟩:=I.tuple (SqT.of hb)
 by_cases hx:xs=[]
 ·subst hx
  cases r1
  obtain⟨m,F⟩:=I.fr
  refine add_tuples (vs:=[]) F yC p1 p2 (λ_=>⟨.ref b,H,I,rfl,q b H (λ_ _ z=>z) (by simpa using hb)⟩) (λz=>absurd rfl z) (λz=>absurd rfl z) (by rw[←r2.length];simpa using hz)
 ·refine Bg pins s σ H (.ref a) (.ref b) (.ref a) (.ref b) Q I rfl rfl ⟨a,b,xs,ys,rfl,rfl,SqT.of ha,SqT.of hb,hx,hz,λe=>?_,λ_ p hp=>?_⟩
  ·subst e
   exact q a H (λ_ _ z=>z) (by rw[List.append_nil];exact ha)
  ·exact q p _ (λd u z=>by rw[aj (ak z hp)];exact z) ao
end
section
variable {K:Í}{C c:Addr}{dd:Option Addr}{cd:ClassData}{sl:Array (Option Value)}
end
end L2
namespace Dl
open PySem L2 PyProof.Rows
abbrev D:=PyData
def kD:Key->D
 |.inl i=>.int i
 |.inr x=>.str x
mutual
inductive Rp(ok:Addr->Prop)(H:Hp):V->D->Prop
 |non:Rp ok H .non .none
 |bl (b:Bool):Rp ok H (.bl b) (.bool b)
 |int (i:Int):Rp ok H (.int i) (.int i)
 |str (x:Str):Rp ok H (.str x) (.str x)
 |lst {a:Addr}{vs:List V}{ds:List D} (o:ok a) (h:H a=some (.lst vs)) (r:Rps ok H vs ds):Rp ok H (.ref a) (.list ds)
 |tup {a:Addr}{vs:List V}{ds:List D} (h:H a=some (.tup vs)) (r:Rps ok H vs ds):Rp ok H (.ref a) (.tuple ds)
 |dct {a:Addr}{kvs:List (Key×V)}{ds:List (D×D)} (o:ok a) (h:H a=some (.dK kvs)) (r:Rkv ok H kvs ds):Rp ok H (.ref a) (.dict ds)
inductive Rps(ok:Addr->Prop)(H:Hp):List V->List D->Prop
 |nil:Rps ok H [] []
 |cons {v:V}{d:D}{vs:List V}{ds:List D} (h:Rp ok H v d) (t:Rps ok H vs ds):Rps ok H (v::vs) (d::ds)
inductive Rkv(ok:Addr->Prop)(H:Hp):List (Key×V)->List (D×D)->Prop
 |nil:Rkv ok H [] []
 |cons {k:Key}{v:V}{d:D}{vs:List (Key×V)}{ds:List (D×D)} (h:Rp ok H v d) (t:Rkv ok H vs ds):Rkv ok H ((k,v)::vs) ((kD k,d)::ds)
end
section
variable {ok ok':Addr->Prop}{H H':Hp}
mutual
def Rp.mono(f:∀a,ok a->ok' a)(g:∀a o,ok a->H a=some o->H' a=some o)(t:∀a xs,H a=some (.tup xs)->H' a=some (.tup xs)):∀{v:V}{d:D},Rp ok H v d->Rp ok' H' v d
 |_,_,.non=>.non
 |_,_,.bl b=>.bl b
 |_,_,.int i=>.int i
 |_,_,.str x=>.str x
 |_,_,.lst o h r=>.lst (f _ o) (g _ _ o h) (Rps.mono f g t r)
 |_,_,.tup h r=>.tup (t _ _ h) (Rps.mono f g t r)
 |_,_,.dct o h r=>.dct (f _ o) (g _ _ o h) (Rkv.mono f g t r)
def Rps.mono(f:∀a,ok a->ok' a)(g:∀a o,ok a->H a=some o->H' a=some o)(t:∀a xs,H a=some (.tup xs)->H' a=some (.tup xs)):∀{v:List V}{d:List D},Rps ok H v d->Rps ok' H' v d
 |_,_,.nil=>.nil
 |_,_,.cons h r=>.cons (Rp.mono f g t h) (Rps.mono f g t r)
def Rkv.mono(f:∀a,ok a->ok' a)(g:∀a o,ok a->H a=some o->H' a=some o)(t:∀a xs,H a=some (.tup xs)->H' a=some (.tup xs)):∀{v:List (Key×V)}{d:List (D×D)},Rkv ok H v d->Rkv ok' H' v d
 |_,_,.nil=>.nil
 |_,_,.cons h r=>.cons (Rp.mono f g t h) (Rkv.mono f g t r)
end
def Rps.length:∀{vs:List V}{ds:List D},Rps ok H vs ds->vs.length=ds.length
 |_,_,.nil=>rfl
 |_,_,.cons _ t=>by rw[Ó,Ó,Rps.length t]
def Rps.getD:∀{vs:List V}{ds:List D}{i:Nat}{d:D},Rps ok H vs ds->ds[i]?=some d->∃v,vs[i]?=some v/\Rp ok H v d
 |_,_,i,v,.nil,e=>by simp at e
 |_,_,0,v,.cons h t,e=>by simp at e;subst e;exact⟨_,rfl,h⟩
 |_,_,i+1,v,.cons h t,e=>by
  obtain⟨d,a,b⟩:=Rps.getD (i:=i) (d:=v) t (by simpa using e)
  exact⟨d,by simpa using a,b⟩
def Rps.app:∀{vs ws:List V}{ds es:List D},Rps ok H vs ds->Rps ok H ws es->Rps ok H (vs++ws) (ds++es)
 |_,_,_,_,.nil,s=>s
 |_,_,_,_,.cons h t,s=>.cons h (Rps.app t s)
def Rps.snoc{vs:List V}{ds:List D}{v:V}{d:D}(h:Rps ok H vs ds)(r:Rp ok H v d):Rps ok H (vs++[v]) (ds++[d]):=h.app (.cons r .nil)
def Rps.take:∀{vs:List V}{ds:List D} (n:Nat),Rps ok H vs ds->Rps ok H (vs.take n) (ds.take n)
 |_,_,0,_=>by simp;exact .nil
 |_,_,_+1,.nil=>by simp;exact .nil
 |_,_,n+1,.cons r t=>.cons r (Rps.take n t)
def Rps.drop:∀{vs:List V}{ds:List D} (n:Nat),Rps ok H vs ds->Rps ok H (vs.drop n) (ds.drop n)
 |_,_,0,r=>r
 |_,_,_+1,.nil=>by simp;exact .nil
 |_,_,n+1,.cons _ t=>Rps.drop n t
def Rp.int'{v:V}{i:Int}(r:Rp ok H v (.int i)):v=.int i:=by cases r;rfl
def Rp.bl'{v:V}{i:Bool}(r:Rp ok H v (.bool i)):v=.bl i:=by cases r;rfl
def Rp.str'{v:V}{i:Str}(r:Rp ok H v (.str i)):v=.str i:=by cases r;rfl
def Rp.bB{v:V}{ds:List D}(r:Rp ok H v (.list ds)):∃a vs,v=.ref a/\ok a/\H a=some (.lst vs)/\Rps ok H vs ds:=by
 cases r with
 |lst o h r=>exact⟨_,_,rfl,o,h,r⟩
def Rp.bK{v:V}{ds:List D}(r:Rp ok H v (.tuple ds)):∃a vs,v=.ref a/\H a=some (.tup vs)/\Rps ok H vs ds:=by
 cases r with
 |tup h r=>exact⟨_,_,rfl,h,r⟩
def Rps.ints:∀{vs:List V}{ns:List Int},Rps ok H vs (ns.map Þ)->vs=ns.map V.int
 |[],[],_=>rfl
 |_,n::ns,.cons h t=>by
  have e:=h.int'
  subst e
  rw[Rps.ints t]
  rfl
def Rps.two{vs:List V}{d e:D}(r:Rps ok H vs [d,e]):∃v w,vs=[v,w]/\Rp ok H v d/\Rp ok H w e:=by
 cases r with
 |cons h t =>
  cases t with
  |cons h2 t2 =>
   cases t2
   exact⟨_,_,rfl,h,h2⟩
end
mutual
def eG:D->Bool
 |.none=>true
 |.bool _=>true
 |.int _=>true
 |.str _=>true
 |.list _=>false
 |.tuple ds=>cB ds
 |.dict _=>false
def cB:List D->Bool
 |[]=>true
 |d::ds=>eG d&&cB ds
end
section
variable {ok:Addr->Prop}{H:Hp}
mutual
def Rp.imm:∀{v:V}{d:D},Rp ok H v d->eG d=true->Rp (λ_=>False) H v d
 |_,_,.non,_=>.non
 |_,_,.bl b,_=>.bl b
 |_,_,.int i,_=>.int i
 |_,_,.str x,_=>.str x
 |_,_,.tup h r,e=>.tup h (Rps.imm r e)
def Rps.imm:∀{v:List V}{d:List D},Rps ok H v d->cB d=true->Rps (λ_=>False) H v d
 |_,_,.nil,_=>.nil
 |_,_,.cons h r,e=>.cons (Rp.imm h (by simp only[cB,â] at e;exact e.1)) (Rps.imm r (by simp only[cB,â] at e;exact e.2))
end
end
def Fxd(o:HO):Prop:=∃x φ,o=.frz x (.ext φ)
structure Pn where
 fp:Addr->Prop
 PI:Hp->Prop
 pv:V
 mono:∀H H',PI H->(∀b o,(fp b\/Fxd o)->H b=some o->H' b=some o)->PI H'
 is:∀H b,PI H->fp b->∃o,H b=some o/\(∀xs,o≠.tup xs)/\¬Fxd o
class Gr where
 G:Pn->Hp->Prop
instance (priority:=low) grT:Gr:=⟨λ_ _=>True⟩
def jg:Pn:=⟨λ_=>False,λ_=>True,.non,λ_ _ _ _=>trivial,λ_ _ _ h=>h.elim⟩
def Kp(p:Pn)(H H':Hp):Prop:=∀b o,H b=some o->¬p.fp b->H' b=some o
def Kp.refl{p:Pn}{H:Hp}:Kp p H H:=λ_ _ h _=>h
def Kp.trans{p:Pn}{H H1 H2:Hp}(a:Kp p H H1)(b:Kp p H1 H2):Kp p H H2:=λc o h n=>b c o (a c o h n) n
def Kp.of{p:Pn}{H H':Hp}(s:Same H H'):Kp p H H':=λb o h _=>s b o h
inductive Sl where
 |any
 |im (d:D)
 |sh (d:D)
 |sn (d:D)
 |dw (r:Nat) (d:D)
 |pen (C:Pn->Prop)
 |rw (r:Nat) (L:List (List D))
 |tw (r:Nat) (L:List (List D))
 |scr (v:V) (b:Bool)
 |sp (r:Nat) (b:Bool) (ds:List D)
inductive Kd where
 |imm|new|reg (r:Nat)|n0|snw|shr|wk
 deriving DecidableEq
def Kd.le:Kd->Kd->Bool
 |.imm,_=>true
 |.new,.new=>true
 |.new,.n0=>true
 |.new,.snw=>true
 |.new,.shr=>true
 |.new,.wk=>true
 |.reg r,.reg q=>r == q
 |.reg _,.n0=>true
 |.reg _,.wk=>true
 |.snw,.snw=>true
 |.snw,.n0=>true
 |.snw,.shr=>true
 |.snw,.wk=>true
 |.n0,.n0=>true
 |.n0,.wk=>true
 |.shr,.shr=>true
 |.shr,.wk=>true
 |.wk,.wk=>true
 |_,_=>false
def Kd.join(a b:Kd):Kd:=if a.le b then b else if b.le a then a else if a.le .n0&&b.le .n0 then .n0 else if a.le .shr&&b.le .shr then .shr else .wk
def norm(k:Kd)(d:D):Kd:=match k with
 |.imm=>.imm
 |k=>if eG d then .imm else k
def bD{k:Kd}{d:D}(h:eG d=true):norm k d=.imm:=by
 cases k <;> first
  |rfl
  |exact if_pos h
def kI{k:Kd}{d:D}(h:¬eG d=true):norm k d=k:=by
 cases k <;> first
  |rfl
  |exact if_neg h
def okK(p:Pn)(H0:Hp)(own:Addr->Option Nat)(Hb:Hp):Kd->Addr->Prop
 |.imm=>λ_=>False
 |.new=>λa=>Hb a=none
 |.reg r=>λa=>own a=some r
 |.n0=>λa=>H0 a=none/\¬p.fp a
 |.snw=>λa=>H0 a=none/\¬p.fp a/\own a=none
 |.shr=>λa=>¬p.fp a/\own a=none
 |.wk=>λa=>¬p.fp a
structure At(p:Pn)(H0:Hp)(own:Addr->Option Nat)(Hb H:Hp):Prop where
 k0:∀b o,H0 b=some o->¬p.fp b->Hb b=some o
 kp:Kp p Hb H
 penb:p.PI Hb
 pen:p.PI H
 ow:∀a r,own a=some r->H0 a=none/\¬p.fp a/\Hb a≠none
section
variable {p:Pn}{H0 Hb H H':Hp}{own:Addr->Option Nat}
def At.nfp(A:At p H0 own Hb H){a:Addr}(h:H a=none):¬p.fp a:=λz=>by
 obtain⟨o,e,_⟩:=p.is H a A.pen z
 rw[h] at e
 cases e
def At.free(A:At p H0 own Hb H){a:Addr}(h:H a=none):Hb a=none:=by
 have hn:=A.nfp h
 cases e:Hb a with
 |none=>rfl
 |some o=>rw[A.kp a o e hn] at h;cases h
def At.nfb(A:At p H0 own Hb H){a:Addr}(h:Hb a=none):¬p.fp a:=λz=>by
 obtain⟨o,e,_⟩:=p.is Hb a A.penb z
 rw[h] at e
 cases e
def At.Ec(A:At p H0 own Hb H){a:Addr}(h:Hb a=none):own a=none:=by
 cases e:own a with
 |none=>rfl
 |some r=>exact absurd h (A.ow a r e).2.2
def At.h0(A:At p H0 own Hb H){a:Addr}(h:Hb a=none):H0 a=none:=by
 cases e:H0 a with
 |none=>rfl
 |some o=>rw[A.k0 a o e (A.nfb h)] at h;cases h
def bN(A:At p H0 own Hb H){j k:Kd}(h:j.le k=true){a:Addr}(o:okK p H0 own Hb j a):okK p H0 own Hb k a:=by
 cases j with
 |imm=>exact Ĳ o
 |new =>
  cases k with
  |imm=>cases h
  |new=>exact o
  |reg r=>cases h
  |n0=>exact⟨A.h0 o,A.nfb o⟩
  |snw=>exact⟨A.h0 o,A.nfb o,A.Ec o⟩
  |shr=>exact⟨A.nfb o,A.Ec o⟩
  |wk=>exact A.nfb o
 |reg r =>
  cases k with
  |reg q =>
   have e:r=q:=by simpa[Kd.le] using h
   subst e
   exact o
  |n0=>exact⟨(A.ow a r o).1,(A.ow a r o).2.1⟩
  |wk=>exact(A.ow a r o).2.1
  |_=>cases h
 |n0 =>
  cases k with
  |n0=>exact o
  |wk=>exact o.2
  |_=>cases h
 |snw =>
  cases k with
  |snw=>exact o
  |n0=>exact⟨o.1,o.2.1⟩
  |shr=>exact o.2
  |wk=>exact o.2.1
  |_=>cases h
 |shr =>
  cases k with
  |shr=>exact o
  |wk=>exact o.1
  |_=>cases h
 |wk =>
  cases k with
  |wk=>exact o
  |_=>cases h
def jJ(A:At p H0 own Hb H){k:Kd}{a:Addr}(o:okK p H0 own Hb k a):¬p.fp a:=by
 have:k.le .wk=true:=by cases k <;> rfl
 exact bN A this o
def dN(A:At p H0 own Hb H){j k:Kd}(h:j.le k=true){v:V}{d:D}{H2:Hp}(r:Rp (okK p H0 own Hb j) H2 v d):Rp (okK p H0 own Hb k) H2 v d :=
 r.mono (λa o=>bN A h o) (λ_ _ _ e=>e) λ_ _ e=>e
def bL(a b:Kd):a.le (a.join b)=true/\b.le (a.join b)=true:=by
 unfold Kd.join
 by_cases h:a.le b=true
 ·rw[if_pos h];exact⟨h,by cases b <;> simp[Kd.le]⟩
 ·rw[if_neg h]
  by_cases h2:b.le a=true
  ·rw[if_pos h2];exact⟨by cases a <;> simp[Kd.le],h2⟩
  ·rw[if_neg h2]
   by_cases h3:(a.le .n0&&b.le .n0)=true
   ·rw[if_pos h3];exact â _ _ ▸ h3
   ·rw[if_neg h3]
    by_cases h4:(a.le .shr&&b.le .shr)=true
    ·rw[if_pos h4];exact â _ _ ▸ h4
    ·rw[if_neg h4];exact⟨by cases a <;> rfl,by cases b <;> rfl⟩
def aL{k:Kd}{v:V}{d:D}{H2:Hp}(r:Rp (okK p H0 own Hb k) H2 v d):Rp (okK p H0 own Hb (norm k d)) H2 v d:=by
 by_cases h:eG d=true
 ·rw[bD h];exact r.imm h
 ·rw[kI h];exact r
def gn(A:At p H0 own Hb H)(k:Kp p H H'):∀a xs,H a=some (.tup xs)->H' a=some (.tup xs):=λa xs h=>k a _ h λz=>by
 obtain⟨o,e,n⟩:=p.is H a A.pen z
 rw[h] at e
 exact n.1 xs (Ì e).symm
def jf(A:At p H0 own Hb H)(k:Kp p H H'){j:Kd}{v:V}{d:D}(r:Rp (okK p H0 own Hb j) H v d):Rp (okK p H0 own Hb j) H' v d :=
 r.mono (λ_ o=>o) (λa o h e=>k a o e (jJ A h)) (gn A k)
def bF(A:At p H0 own Hb H)(k:Kp p H H'){j:Kd}{v:List V}{d:List D}(r:Rps (okK p H0 own Hb j) H v d):Rps (okK p H0 own Hb j) H' v d :=
 r.mono (λ_ o=>o) (λa o h e=>k a o e (jJ A h)) (gn A k)
def At.go(A:At p H0 own Hb H)(k:Kp p H H')(i:p.PI H'):At p H0 own Hb H':=⟨A.k0,A.kp.trans k,A.penb,i,A.ow⟩
def At.base{H1:Hp}(A:At p H0 own Hb H)(B:At p H0 own H H1):At p H0 own Hb H1:=⟨A.k0,A.kp.trans B.kp,A.penb,B.pen,A.ow⟩
def yw(A:At p H0 own Hb H){k:Kd}{a:Addr}(o:okK p H0 own H k a):okK p H0 own Hb k a:=by
 cases k <;> first
  |exact o
  |exact A.free o
def fC(A:At p H0 own Hb H){k:Kd}{v:V}{d:D}{H2:Hp}(r:Rp (okK p H0 own H k) H2 v d):Rp (okK p H0 own Hb k) H2 v d :=
 r.mono (λa o=>yw A o) (λ_ _ _ e=>e) λ_ _ e=>e
def At.new(A:At p H0 own Hb H){a:Addr}(h:H a=none)(o:HO):Kp p H (upd H a o)/\p.PI (upd H a o)/\okK p H0 own Hb .new a :=
 have s:Same H (upd H a o):=λb u q=>by rw[aj (ak q h)];exact q
 ⟨Kp.of s,p.mono H _ A.pen λb u _ q=>s b u q,A.free h⟩
end
structure RowsH(own:Addr->Option Nat)(r:Nat)(H:Hp)(st:Addr)(as:List Addr)(L:List (List D)):Prop where
 top:H st=some (.lst (as.map V.ref))
 nd:(st::as).Nodup
 ow:∀a∈st::as,own a=some r
 len:as.length=L.length
 row:∀(j:Nat) (a:Addr) (ds:List D),as[j]?=some a->L[j]?=some ds->∃vs,H a=some (.lst vs)/\Rps (λ_=>False) H vs ds
def RowsH.mono{own own':Addr->Option Nat}{r:Nat}{H H':Hp}{st:Addr}{as:List Addr}{L:List (List D)}(h:RowsH own r H st as L)(g:∀a o,own a=some r->H a=some o->own' a=some r/\H' a=some o)(t:∀a xs,H a=some (.tup xs)->H' a=some (.tup xs)):RowsH own' r H' st as L:=by
 have live:∀a∈st::as,∃o,H a=some o:=λa ha=>by
  rcases Ï.mp ha with rfl|ha
  ·exact⟨_,h.top⟩
  ·obtain⟨j,hj⟩:=List.getElem?_of_mem ha
   have hl:=(Ñ.mp hj).1
   obtain⟨vs,e,_⟩:=h.row j a _ hj (Ý (by rw[←h.len];exact hl))
   exact⟨_,e⟩
 refine⟨(g st _ (h.ow st Ô) h.top).2,h.nd,λa ha=>?_,h.len,λj a ds e1 e2=>?_⟩
 ·obtain⟨o,e⟩:=live a ha
  exact(g a o (h.ow a ha) e).1
 ·obtain⟨vs,e,r'⟩:=h.row j a ds e1 e2
  exact⟨vs,(g a _ (h.ow a (Ð _ (Ù e1))) e).2,r'.mono (λ_ o=>o) (λ_ _ o=>o.elim) t⟩
def iH{ok:Addr->Prop}{H:Hp}:∀(as:List Addr) (L:List (List D)),as.length=L.length->(∀a∈as,ok a)->(∀(j:Nat) (a:Addr) (ds:List D),as[j]?=some a->L[j]?=some ds->∃vs,H a=some (.lst vs)/\Rps (λ_=>False) H vs ds)->Rps ok H (as.map V.ref) (L.map Ĥ)
 |[],[],_,_,_=>.nil
 |a::as,d::L,hl,h,r=>by
  obtain⟨vs,e,rs⟩:=r 0 a d rfl rfl
  exact .cons (.lst (h a Ô) e (rs.mono (λ_ o=>o.elim) (λ_ _ o=>o.elim) λ_ _ e=>e)) (iH as L (by simpa using hl) (λb hb=>h b (Ð _ hb)) λj b ds e1 e2=>r (j+1) b ds e1 e2)
 |[],_::_,hl,_,_=>by cases hl
 |_::_,[],hl,_,_=>by cases hl
def RowsH.rp{own:Addr->Option Nat}{r:Nat}{H:Hp}{st:Addr}{as:List Addr}{L:List (List D)}(h:RowsH own r H st as L):Rp (λa=>own a=some r) H (.ref st) (.list (L.map Ĥ)) :=
 .lst (h.ow st Ô) h.top (iH as L h.len (λa ha=>h.ow a (Ð _ ha)) h.row)
structure RowsT(own:Addr->Option Nat)(r:Nat)(H:Hp)(st:Addr)(as:List Addr)(L:List (List D)):Prop where
 top:H st=some (.tup (as.map V.ref))
 nd:as.Nodup
 ow:∀a∈as,own a=some r
 len:as.length=L.length
 row:∀(j:Nat) (a:Addr) (ds:List D),as[j]?=some a->L[j]?=some ds->∃vs,H a=some (.lst vs)/\Rps (λ_=>False) H vs ds
def RowsT.mono{own own':Addr->Option Nat}{r:Nat}{H H':Hp}{st:Addr}{as:List Addr}{L:List (List D)}(h:RowsT own r H st as L)(g:∀a o,own a=some r->H a=some o->own' a=some r/\H' a=some o)(t:∀a xs,H a=some (.tup xs)->H' a=some (.tup xs)):RowsT own' r H' st as L:=by
 refine⟨t st _ h.top,h.nd,λa ha=>?_,h.len,λj a ds e1 e2=>?_⟩
 ·obtain⟨j,hj⟩:=List.getElem?_of_mem ha
  have hl:=(Ñ.mp hj).1
  obtain⟨vs,e,_⟩:=h.row j a _ hj (Ý (by rw[←h.len];exact hl))
  exact(g a _ (h.ow a ha) e).1
 ·obtain⟨vs,e,r'⟩:=h.row j a ds e1 e2
  exact⟨vs,(g a _ (h.ow a (Ù e1)) e).2,r'.mono (λ_ o=>o) (λ_ _ o=>o.elim) t⟩
def RowsT.rp{own:Addr->Option Nat}{r:Nat}{H:Hp}{st:Addr}{as:List Addr}{L:List (List D)}(h:RowsT own r H st as L):Rp (λa=>own a=some r) H (.ref st) (.tuple (L.map Ĥ)) :=
 .tup h.top (iH as L h.len h.ow h.row)
def okS(p:Pn)(H0:Hp)(own:Addr->Option Nat)(b:Bool)(a:Addr):Prop:=(b=true->H0 a=none)/\¬p.fp a/\own a=none
def eY(p:Pn)(H0:Hp)(own:Addr->Option Nat)(σ:L2.St)(H:Hp)(i:Nat):Sl->Prop
 |.any=>True
 |.im d=>∃v,σ[i]?=some (some v)/\Rp (λ_=>False) H v d
 |.sh d=>∃v,σ[i]?=some (some v)/\Rp (λa=>¬p.fp a/\own a=none) H v d
 |.sn d=>∃v,σ[i]?=some (some v)/\Rp (λa=>H0 a=none/\¬p.fp a/\own a=none) H v d
 |.dw r d=>∃v,σ[i]?=some (some v)/\Rp (λa=>own a=some r) H v d
 |.pen C=>σ[i]?=some (some p.pv)/\C p
 |.rw r L=>∃st as,σ[i]?=some (some (.ref st))/\RowsH own r H st as L
 |.tw r L=>∃st as,σ[i]?=some (some (.ref st))/\RowsT own r H st as L
 |.scr v b=>σ[i]?=some (some v)/\(b=true->p=jg)
 |.sp r b ds=>∃l vs,σ[i]?=some (some (.ref l))/\own l=some r/\H l=some (.lst vs)/\Rps (okS p H0 own b) H vs ds
structure EnvD[Gr](p:Pn)(H0:Hp)(own:Addr->Option Nat)(σ:L2.St)(H:Hp)(ρ:List Sl):Prop where
 k0:∀b o,H0 b=some o->¬p.fp b->H b=some o
 pen:p.PI H
 ow:∀a r,own a=some r->H0 a=none/\¬p.fp a/\H a≠none
 slot:∀i s,ρ[i]?=some s->eY p H0 own σ H i s
 len:ρ.length=σ.length
 gr:Gr.G p H0
variable [Gr]
section
variable {p:Pn}{H0 H H':Hp}{own:Addr->Option Nat}{σ:L2.St}{ρ:List Sl}
def EnvD.at(E:EnvD p H0 own σ H ρ):At p H0 own H H:=⟨E.k0,Kp.refl,E.pen,E.pen,E.ow⟩
def EnvD.go(E:EnvD p H0 own σ H ρ)(k:Kp p H H')(i:p.PI H'):EnvD p H0 own σ H' ρ:=by
 have A:=E.at
 have tp:=gn A k
 refine⟨λb o e n=>k b o (E.k0 b o e n) n,i,λa r e=>?_,λj s e=>?_,E.len,E.gr⟩
 ·obtain⟨h1,h2,h3⟩:=E.ow a r e
  refine⟨h1,h2,λz=>?_⟩
  cases q:H a with
  |none=>exact h3 q
  |some o=>rw[k a o q h2] at z;cases z
 ·have q:=E.slot j s e
  cases s with
  |any=>trivial
  |im d=>exact let ⟨v,a,b⟩:=q;⟨v,a,b.mono (λ_ o=>o) (λ_ _ o=>o.elim) tp⟩
  |sh d=>exact let ⟨v,a,b⟩:=q;⟨v,a,b.mono (λ_ o=>o) (λc u o e=>k c u e o.1) tp⟩
  |sn d=>exact let ⟨v,a,b⟩:=q;⟨v,a,b.mono (λ_ o=>o) (λc u o e=>k c u e o.2.1) tp⟩
  |dw r d=>exact let ⟨v,a,b⟩:=q;⟨v,a,b.mono (λ_ o=>o) (λc u o e=>k c u e (E.ow c r o).2.1) tp⟩
  |pen C=>exact q
  |rw r L=>exact let ⟨st,as,a,b⟩:=q;⟨st,as,a,b.mono (λc u o e=>⟨o,k c u e (E.ow c r o).2.1⟩) tp⟩
  |tw r L=>exact let ⟨st,as,a,b⟩:=q;⟨st,as,a,b.mono (λc u o e=>⟨o,k c u e (E.ow c r o).2.1⟩) tp⟩
  |scr v b=>exact q
  |sp r b ds=>exact let ⟨l,vs,a,o,h,z⟩:=q;⟨l,vs,a,o,k l _ h (E.ow l r o).2.1,z.mono (λ_ o=>o) (λc u o e=>k c u e o.2.1) tp⟩
end
abbrev DK:=Kd->D->Prop
abbrev DE:=List Sl->DK->Prop
def aZ(t:DE):TE:=λσ H Q=>∃p H0 own ρ P,EnvD p H0 own σ H ρ/\t ρ P/\∀k d v H',P k d->At p H0 own H H'->Rp (okK p H0 own H k) H' v d->Q v H'
abbrev PD(X:Cx)(e:Expr)(t:DE):Prop:=PE X e (aZ t)
abbrev DA:=List Sl->(List (Kd×D)->Prop)->Prop
inductive RpK(p:Pn)(H0:Hp)(own:Addr->Option Nat)(Hb H:Hp):List V->List (Kd×D)->Prop
 |nil:RpK p H0 own Hb H [] []
 |cons {v:V}{kd:Kd×D}{vs:List V}{ks:List (Kd×D)} (h:Rp (okK p H0 own Hb kd.1) H v kd.2) (t:RpK p H0 own Hb H vs ks):RpK p H0 own Hb H (v::vs) (kd::ks)
def jh(t:DA):TA:=λσ H Q=>∃p H0 own ρ P,EnvD p H0 own σ H ρ/\t ρ P/\∀ks vs H',P ks->At p H0 own H H'->RpK p H0 own H H' vs ks->Q vs H'
abbrev PDA(X:Cx)(es:List Expr)(t:DA):Prop:=PA X es (jh t)
abbrev DT:=List Sl->(Bool->Prop)->Prop
def liftT(t:DT):TT:=λσ H Q=>∃p H0 own ρ P,EnvD p H0 own σ H ρ/\t ρ P/\∀b H',P b->At p H0 own H H'->Q b H'
abbrev PDT(X:Cx)(e:Expr)(t:DT):Prop:=PT X e (liftT t)
def PE.wk{X:Cx}{e:Expr}{t t':TE}(h:PE X e t)(w:∀σ H Q,t' σ H Q->t σ H Q):PE X e t':=λpins s σ H Q I q=>h pins s σ H Q I (w σ H Q q)
def PT.wk{X:Cx}{e:Expr}{t t':TT}(h:PT X e t)(w:∀σ H Q,t' σ H Q->t σ H Q):PT X e t':=λpins s σ H Q I q=>h pins s σ H Q I (w σ H Q q)
def PA.wk{X:Cx}{e:List Expr}{t t':TA}(h:PA X e t)(w:∀σ H Q,t' σ H Q->t σ H Q):PA X e t':=λpos pins s σ H Q I q=>h pos pins s σ H Q I (w σ H Q q)
section
variable {X:Cx}{pos:Pos}{a b:Expr}{ta tb:DE}
def RpK.go{p:Pn}{H0 Hb H H':Hp}{own:Addr->Option Nat}(A:At p H0 own Hb H)(k:Kp p H H'):∀{vs:List V}{ks:List (Kd×D)},RpK p H0 own Hb H vs ks->RpK p H0 own Hb H' vs ks
 |_,_,.nil=>.nil
 |_,_,.cons h t=>.cons (jf A k h) (RpK.go A k t)
def RpK.base{p:Pn}{H0 Hb H H':Hp}{own:Addr->Option Nat}(A:At p H0 own Hb H):∀{vs:List V}{ks:List (Kd×D)},RpK p H0 own H H' vs ks->RpK p H0 own Hb H' vs ks
 |_,_,.nil=>.nil
 |_,_,.cons h t=>.cons (fC A h) (RpK.base A t)
def tV(i:Nat):DE:=λρ P=>match ρ[i]? with
 |some (.im d)=>P .imm d
 |some (.sh d)=>P .shr d
 |some (.sn d)=>P .snw d
 |some (.dw r d)=>P (.reg r) d
 |some (.rw r L)=>P (.reg r) (.list (L.map Ĥ))
 |some (.tw r L)=>P (.reg r) (.tuple (L.map Ĥ))
 |some (.sp r b ds)=>P (if b=true then .n0 else .wk) (.list ds)
 |_=>False
def DX{i:Nat}{x:Str}{ps:Pos}(h:PE X (.Name x ps) (lV i)):PD X (.Name x ps) (tV i):=PE.wk h (by
 rintro σ H Q ⟨p,H0,own,ρ,P,E,t,q⟩
 unfold tV at t
 split at t
 ·rename_i d e;obtain⟨v,e1,r⟩:=E.slot i _ e;exact⟨v,e1,q _ _ _ _ t E.at r⟩
 ·rename_i d e;obtain⟨v,e1,r⟩:=E.slot i _ e;exact⟨v,e1,q _ _ _ _ t E.at r⟩
 ·rename_i d e;obtain⟨v,e1,r⟩:=E.slot i _ e;exact⟨v,e1,q _ _ _ _ t E.at r⟩
 ·rename_i d e;obtain⟨v,e1,r⟩:=E.slot i _ e;exact⟨v,e1,q _ _ _ _ t E.at r⟩
 ·rename_i r L e;obtain⟨st,as,e1,h⟩:=E.slot i _ e;exact⟨_,e1,q _ _ _ _ t E.at h.rp⟩
 ·rename_i r L e;obtain⟨st,as,e1,h⟩:=E.slot i _ e;exact⟨_,e1,q _ _ _ _ t E.at h.rp⟩
 ·rename_i r b ds e
  obtain⟨l,vs,e1,o,h,z⟩:=E.slot i _ e
  refine⟨_,e1,q _ _ _ _ t E.at ?_⟩
  cases b with
  |true=>exact .lst ⟨(E.ow l r o).1,(E.ow l r o).2.1⟩ h (z.mono (λc n=>⟨n.1 rfl,n.2.1⟩) (λ_ _ _ e=>e) λ_ _ e=>e)
  |false=>exact .lst (E.ow l r o).2.1 h (z.mono (λc n=>n.2.1) (λ_ _ _ e=>e) λ_ _ e=>e)
 ·exact t.elim)
def tK(d:D):DE:=λ_ P=>P .imm d
def cM{e:Expr}{v:V}{d:D}(h:PE X e (tC v))(r:∀H,Rp (λ_=>False) H v d):PD X e (tK d):=PE.wk h (by
 rintro σ H Q ⟨p,H0,own,ρ,P,E,t,q⟩
 exact q _ _ _ _ t E.at (r H))
def j7{i:Int}{j:Nat}:PD X (.Constant (.int i) j pos) (tK (.int i)):=cM xT λ_=>.int i
def yc{i:Bool}{j:Nat}:PD X (.Constant (.bool i) j pos) (tK (.bool i)):=cM G5 λ_=>.bl i
def fY{j:Nat}:PD X (.Constant .none j pos) (tK .none):=cM DP λ_=>.non
def rJ{x:Str}{j:Nat}:PD X (.Constant (.str x) j pos) (tK (.str x)):=cM rF λ_=>.str x
abbrev G2:=Kd->D->Kd->D->DK->Prop
def t2(g:G2)(ta tb:DE):DE:=λρ P=>ta ρ λk1 d1=>tb ρ λk2 d2=>g k1 d1 k2 d2 P
def Ok2(g:G2)(r:R2):Prop:=∀p H0 own Hb H x y k1 d1 k2 d2 P Q,At p H0 own Hb H->Rp (okK p H0 own Hb k1) H x d1->Rp (okK p H0 own Hb k2) H y d2->g k1 d1 k2 d2 P ->
 (∀k d v H',P k d->Kp p H H'->p.PI H'->Rp (okK p H0 own Hb k) H' v d->Q v H')->r x y H Q
def qF{g:G2}{r:R2}(ok:Ok2 g r):∀σ H Q,aZ (t2 g ta tb) σ H Q->tOp r (aZ ta) (aZ tb) σ H Q:=by
 rintro σ H Q ⟨p,H0,own,ρ,P,E,t,q⟩
 refine⟨p,H0,own,ρ,_,E,t,λk1 d1 v1 H1 t1 A1 r1=>?_⟩
 have E1:=E.go A1.kp A1.pen
 refine⟨p,H0,own,ρ,_,E1,t1,λk2 d2 v2 H2 t2 A2 r2=>?_⟩
 have A:At p H0 own H H2:=A1.base A2
 exact ok p H0 own H H2 v1 v2 k1 d1 k2 d2 P Q A (jf A1 A2.kp r1) (fC A1 r2) t2 λk d v H' h k3 i3 r3=>q k d v H' h (A.go k3 i3) r3
def mO{op:Operator}{r:R2}{g:G2}(ho:OpR X (binaryOp op) r)(ok:Ok2 g r)(ha:PD X a ta)(hb:PD X b tb):PD X (.BinOp a op b pos) (t2 g ta tb):=PE.wk (bw ho ha hb) (qF ok)
def kh{op:CmpOp}{r:R2}{g:G2}(ho:OpR X (compareOp op) r)(ok:Ok2 g r)(ha:PD X a ta)(hb:PD X b tb)(hm:behindInMarks op b=false):PD X (.Compare a [op] [b] pos) (t2 g ta tb):=PE.wk (Bc ho ha hb hm) (qF ok)
def jl(t:DE):DT:=λρ P=>t ρ λ_ d=>match d with
 |.bool b=>P b
 |_=>False
def kY{t:DE}:∀σ H Q,liftT (jl t) σ H Q->(aZ t) σ H (λx H'=>∃k,x=.bl k/\Q k H'):=by
 rintro σ H Q ⟨p,H0,own,ρ,P,E,t,q⟩
 refine⟨p,H0,own,ρ,_,E,t,λk d v H' h A r=>?_⟩
 cases d with
 |bool b=>exact⟨b,r.bl',q b H' h A⟩
 |_=>exact h.elim
def n6{op:CmpOp}{r:R2}{g:G2}(ho:OpR X (compareOp op) r)(ok:Ok2 g r)(ha:PD X a ta)(hb:PD X b tb)(hm:behindInMarks op b=false):PDT X (.Compare a [op] [b] pos) (jl (t2 g ta tb)) :=
 PT.wk (gM ho ha hb hm) λσ H Q h=>qF ok σ H _ (kY σ H Q h)
def nW{e:Expr}{t:DE}(h:PD X e t)(he:∀whole,isTrue e X.env whole=(do let v ←whole;standAt e.pos;holding [v] (truthy v)):=by intro _;rfl):PDT X e (jl t) :=
 PT.wk (Dq h he) λσ H Q q=>kY σ H Q q
def HY(t:DT):DT:=λρ P=>t ρ λb=>P (!b)
def nY{t:DT}(ha:PDT X a t):PDT X (.UnaryOp .Not a pos) (HY t):=PT.wk (Dr ha) (by
 rintro σ H Q ⟨p,H0,own,ρ,P,E,t,q⟩
 exact⟨p,H0,own,ρ,_,E,t,λb H' h A=>q _ H' h A⟩)
abbrev PDW(X:Cx)(e:Expr)(t:DT):Prop:=PW X e (liftT t)
def PW.wk{X:Cx}{e:Expr}{t t':TT}(h:PW X e t)(w:∀σ H Q,t' σ H Q->t σ H Q):PW X e t':=λwh pins s σ H Q I q=>h wh pins s σ H Q I (w σ H Q q)
def dOr(t u:DT):DT:=λρ P=>t ρ λb=>if b=true then P true else u ρ P
section
variable {rest:List Expr}{t u:DT}
def nU(ha:PDT X a t):PDW X (.BoolOp .Or [a] pos) t:=Dm ha
def Br:∀σ H Q,liftT (dOr t u) σ H Q->tOr (liftT t) (liftT u) σ H Q:=by
 rintro σ H Q ⟨p,H0,own,ρ,P,E,t,q⟩
 refine⟨p,H0,own,ρ,_,E,t,λb H' h A=>?_⟩
 cases b with
 |true=>exact aU (q true H' (by simpa using h) A)
 |false=>exact aC ⟨p,H0,own,ρ,P,E.go A.kp A.pen,by simpa using h,λc H2 h2 A2=>q c H2 h2 (A.base A2)⟩
def rG(ha:PDT X a t)(hb:PDW X (.BoolOp .Or (b::rest) pos) u):PDW X (.BoolOp .Or (a::b::rest) pos) (dOr t u):=PW.wk (GQ ha hb) Br
def PDW.pt{e:Expr}{t:DT}(h:PDW X e t):PDT X e t:=PW.pt h
end
end
variable [Gr]
section
variable {X:Cx}{pos:Pos}{a b e:Expr}{es:List Expr}{ta tb te:DE}{t:DA}
def mq:DA:=λ_ P=>P []
def dH(te:DE)(t:DA):DA:=λρ P=>te ρ λk d=>t ρ λks=>P ((k,d)::ks)
def cD:PDA X [] mq:=PA.wk bZ (by
 rintro σ H Q ⟨p,H0,own,ρ,P,E,t,q⟩
 exact q [] [] H t E.at .nil)
def bR(ha:PD X e te)(hr:PDA X es t)(hs:zS X e es:=by rfl):PDA X (e::es) (dH te t):=PA.wk (aX ha hr hs) (by
 rintro σ H Q ⟨p,H0,own,ρ,P,E,t,q⟩
 refine⟨p,H0,own,ρ,_,E,t,λk d v H1 h A r=>?_⟩
 refine⟨p,H0,own,ρ,_,E.go A.kp A.pen,h,λks vs H2 h2 A2 r2=>?_⟩
 exact q _ _ H2 h2 (A.base A2) (.cons (jf A A2.kp r) (RpK.base A r2)))
def joins:List (Kd×D)->Kd
 |[]=>.imm
 |kd::ks=>kd.1.join (joins ks)
def RpK.all{p:Pn}{H0 Hb H H2:Hp}{own:Addr->Option Nat}(A:At p H0 own Hb H):∀{vs:List V}{ks:List (Kd×D)}{k:Kd},(joins ks).le k=true->RpK p H0 own Hb H2 vs ks->Rps (okK p H0 own Hb (joins ks)) H2 vs (ks.map (·.2))
 |_,_,_,_,.nil=>.nil
 |_,kd::ks,k,e,.cons h t=>by
  have j:=bL kd.1 (joins ks)
  exact .cons (dN A j.1 h) ((RpK.all A (k:=joins ks) (by cases joins ks <;> simp[Kd.le]) t).mono (λa o=>bN A j.2 o) (λ_ _ _ e=>e) λ_ _ e=>e)
def Kd.le_refl(k:Kd):k.le k=true:=by cases k <;> simp[Kd.le]
def RpK.length{p:Pn}{H0 Hb H2:Hp}{own:Addr->Option Nat}:∀{vs:List V}{ks:List (Kd×D)},RpK p H0 own Hb H2 vs ks->vs.length=ks.length
 |_,_,.nil=>rfl
 |_,_,.cons _ t=>by rw[Ó,Ó,RpK.length t]
def Cd(t:DA):DE:=λρ P=>t ρ λks=>ks.length<=1000/\P ((joins ks).join .new) (.list (ks.map (·.2)))
def wI(t:DA):DE:=λρ P=>t ρ λks=>ks.length<=1000/\P (norm (joins ks) (.tuple (ks.map (·.2)))) (.tuple (ks.map (·.2)))
def jE(h:PDA X es t):PD X (.List es pos) (Cd t):=PE.wk (xQ h) (by
 rintro σ H Q ⟨p,H0,own,ρ,P,E,t,q⟩
 refine⟨p,H0,own,ρ,_,E,t,λks vs H1 h A r=>?_⟩
 have h24:=ä
 have hl:=r.length
 refine⟨by have:=h.1;omega,λl hl=>?_⟩
 obtain⟨k2,i2,nw⟩:=A.new hl (.lst vs)
 have j:=bL (joins ks) .new
 refine q _ _ _ _ h.2 (A.go k2 i2) (.lst (bN A j.2 nw) ao ?_)
 exact(bF A k2 (RpK.all A (Kd.le_refl _) r)).mono (λa o=>bN A j.1 o) (λ_ _ _ e=>e) λ_ _ e=>e)
def j4{x1}(h:PDA X es t):PD X (.Tuple es x1 pos) (wI t):=PE.wk (xP h) (by
 rintro σ H Q ⟨p,H0,own,ρ,P,E,t,q⟩
 refine⟨p,H0,own,ρ,_,E,t,λks vs H1 h A r=>?_⟩
 have h24:=ä
 have hl:=r.length
 refine⟨by have:=h.1;omega,λl hl=>?_⟩
 obtain⟨k2,i2,nw⟩:=A.new hl (.tup vs)
 exact q _ _ _ _ h.2 (A.go k2 i2) (aL (.tup ao (bF A k2 (RpK.all A (Kd.le_refl _) r)))))
abbrev GC:=List (Kd×D)->DK->Prop
def tCl(g:GC)(t:DA):DE:=λρ P=>t ρ λks=>g ks P
def OkC(g:GC)(r:List V->Hp->VK->Prop):Prop:=∀p H0 own Hb H vs ks P Q,At p H0 own Hb H->RpK p H0 own Hb H vs ks->g ks P ->
 (∀k d v H',P k d->Kp p H H'->p.PI H'->Rp (okK p H0 own Hb k) H' v d->Q v H')->r vs H Q
def CJ{g:GC}{r:List V->Hp->VK->Prop}(ok:OkC g r):∀σ H Q,aZ (tCl g t) σ H Q->tCB r (jh t) σ H Q:=by
 rintro σ H Q ⟨p,H0,own,ρ,P,E,t,q⟩
 refine⟨p,H0,own,ρ,_,E,t,λks vs H1 h A r=>?_⟩
 exact ok p H0 own H H1 vs ks P Q A r h λk d v H' h2 k2 i2 r2=>q k d v H' h2 (A.go k2 i2) r2
def bT{r:List V->Hp->VK->Prop}{id:String}{x:Str}{ps:Pos}{g:GC}(hc:aK X (.builtin id) r)(ok:OkC g r)(hg:Gl X x)(hm:X.mg x=none)(hv:bootBuiltins x=some (.builtin id))(ha:PDA X (e::es) t)(hn:x≠"__name__":=by decide)(hdb:zB x:=by decide)(he:zS X e es:=by rfl)(hpl:zP X pos es:=by rfl):PD X (.Call (.Name x ps) (e::es) [] pos) (tCl g t):=PE.wk (bQ hc hg hm hv ha hn hdb he hpl) (CJ ok)
def gR{r:List V->Hp->VK->Prop}{id:String}{x:Str}{ps:Pos}{g:GC}(hc:aK X (.type id) r)(ok:OkC g r)(hg:Gl X x)(hm:X.mg x=none)(hv:bootBuiltins x=some (.type id))(ha:PDA X (e::es) t)(hn:x≠"__name__":=by decide)(hdb:zB x:=by decide)(he:zS X e es:=by rfl)(hpl:zP X pos es:=by rfl):PD X (.Call (.Name x ps) (e::es) [] pos) (tCl g t):=PE.wk (uV hc hg hm hv ha hn hdb he hpl) (CJ ok)
def spD(t:List D->(D->Prop)->Prop):Sp:=λvs H Q _=>∃ds P,Rps (λ_=>True) H vs ds/\t ds P/\∀d v H',P d->Same H H'->Rp (λa=>H a=none) H' v d->Q v H'
def spP(C:Pn->Prop)(t:List D->(D->Prop)->Prop):Sp:=λvs H Q _=>∃p vs' ds P,C p/\vs=p.pv::vs'/\p.PI H/\Rps (λa=>¬p.fp a) H vs' ds/\t ds P/\∀d v H',P d->Kp p H H'->p.PI H'->Rp (λa=>H a=none) H' v d->Q v H'
def tFn(f:List D->(D->Prop)->Prop)(t:DA):DE:=λρ P=>t ρ λks=>f (ks.map (·.2)) λd=>P (norm .new d) d
def RpK.rps{p:Pn}{H0 Hb H H2:Hp}{own:Addr->Option Nat}(A:At p H0 own Hb H):∀{vs:List V}{ks:List (Kd×D)},RpK p H0 own Hb H2 vs ks->Rps (λa=>¬p.fp a) H2 vs (ks.map (·.2))
 |_,_,.nil=>.nil
 |_,_,.cons h t=>.cons (h.mono (λa o=>jJ A o) (λ_ _ _ e=>e) λ_ _ e=>e) (RpK.rps A t)
def Bt{f:List D->(D->Prop)->Prop}:∀σ H Q,aZ (tFn f t) σ H Q->pY (spD f) [] E0 (jh t) σ H Q:=by
 rintro σ H Q ⟨p,H0,own,ρ,P,E,t,q⟩
 refine⟨p,H0,own,ρ,_,E,t,λks vs H1 h A r=>?_⟩
 show spD f (vs++[]) H1 Q E0
 rw[List.append_nil]
 refine⟨ks.map (·.2),_,(RpK.rps A r).mono (λ_ _=>trivial) (λ_ _ _ e=>e) λ_ _ e=>e,h,λd v H' h2 s r2=>?_⟩
 have k2:Kp p H1 H':=Kp.of s
 refine q _ d v H' h2 (A.go k2 (p.mono H1 H' A.pen λb o _ e=>s b o e)) (aL ?_)
 exact r2.mono (λa o=>A.free o) (λ_ _ _ e=>e) λ_ _ e=>e
def Dd(C:Pn->Prop)(f:List D->(D->Prop)->Prop)(i:Nat)(t:DA):DE:=λρ P=>ρ[i]?=some (.pen C)/\tFn f t ρ P
def yI{C:Pn->Prop}{f:List D->(D->Prop)->Prop}{i:Nat}:∀σ H Q,aZ (Dd C f i t) σ H Q->pY (spP C f) [] E0 (wM (lV i) (jh t)) σ H Q:=by
 rintro σ H Q ⟨p,H0,own,ρ,P,E,⟨hp,t⟩,q⟩
 obtain⟨hs,c⟩:=E.slot i _ hp
 refine⟨p.pv,hs,p,H0,own,ρ,_,E,t,λks vs H1 h A r=>?_⟩
 show spP C f ((p.pv::vs)++[]) H1 Q E0
 rw[List.append_nil]
 refine⟨p,vs,ks.map (·.2),_,c,rfl,A.pen,RpK.rps A r,h,λd v H' h2 k2 i2 r2=>?_⟩
 exact q _ d v H' h2 (A.go k2 i2) (aL (r2.mono (λa o=>A.free o) (λ_ _ _ e=>e) λ_ _ e=>e))
def gI(C:Int->Int->Prop)(f:Int->Int->D):G2:=λ_ d1 _ d2 P=>match d1,d2 with
 |.int i,.int j=>C i j/\P .imm (f i j)
 |_,_=>False
def gI0(f:Int->Int->D):G2:=λ_ d1 _ d2 P=>match d1,d2 with
 |.int i,.int j=>P .imm (f i j)
 |_,_=>False
def okI{C:Int->Int->Prop}{f:Int->Int->D}{g:Int->Int->V}(h:∀i j H,Rp (λ_=>False) H (g i j) (f i j)):Ok2 (gI C f) (rI C g):=by
 intro p H0 own Hb H x y k1 d1 k2 d2 P Q A r1 r2 t q
 unfold gI at t
 split at t
 ·rename_i i j
  exact⟨i,j,r1.int',r2.int',t.1,q _ _ _ _ t.2 Kp.refl A.pen (h i j H)⟩
 ·exact t.elim
def Bl{f:Int->Int->D}{g:Int->Int->V}(h:∀i j H,Rp (λ_=>False) H (g i j) (f i j)):Ok2 (gI0 f) (rI0 g):=by
 intro p H0 own Hb H x y k1 d1 k2 d2 P Q A r1 r2 t q
 unfold gI0 at t
 split at t
 ·rename_i i j
  exact⟨i,j,r1.int',r2.int',q _ _ _ _ t Kp.refl A.pen (h i j H)⟩
 ·exact t.elim
def Ea(ha:PD X a ta)(hb:PD X b tb):PD X (.BinOp a .Add b pos) (t2 (gI0 λi j=>.int (i+j)) ta tb):=mO dY (Bl λi j _=>.int _) ha hb
def rH(ha:PD X a ta)(hb:PD X b tb):PD X (.BinOp a .Sub b pos) (t2 (gI0 λi j=>.int (i - j)) ta tb):=mO Ed (Bl λi j _=>.int _) ha hb
def rK(ha:PD X a ta)(hb:PD X b tb):PD X (.BinOp a .Mod b pos) (t2 (gI (λ_ j=>0<j) λi j=>.int (i % j)) ta tb):=mO dX (okI λi j _=>.int _) ha hb
def xZ(ha:PD X a ta)(hb:PD X b tb):PD X (.Compare a [.Gt] [b] pos) (t2 (gI0 λi j=>.bool (decide (j<i))) ta tb):=kh yj (Bl λi j _=>.bl _) ha hb (cg _)
def nZ(ha:PD X a ta)(hb:PD X b tb):PDT X (.Compare a [.Gt] [b] pos) (jl (t2 (gI0 λi j=>.bool (decide (j<i))) ta tb)):=n6 yj (Bl λi j _=>.bl _) ha hb (cg _)
def scD:D->D->Option Bool
 |.int i,.int j=>some (decide (i=j))
 |.bool i,.bool j=>some (decide (i=j))
 |.str i,.str j=>some (decide (i=j))
 |_,_=>none
def gEq(neg:Bool):G2:=λ_ d1 _ d2 P=>match scD d1 d2 with
 |some b=>P .imm (.bool (if neg then !b else b))
 |none=>False
def Je:Ok2 (gEq false) rEq:=by
 intro p H0 own Hb H x y k1 d1 k2 d2 P Q A r1 r2 t q
 unfold gEq scD at t
 split at t
 ·rename_i b e
  split at e <;> first|cases e|skip
  ·rw[r1.int',r2.int']
   refine⟨rfl,?_⟩
   have e2:∀i j:Int,decide (V.int i=V.int j)=decide (i=j):=λi j=>by simp
   rw[e2];exact q _ _ _ _ t Kp.refl A.pen (.bl _)
  ·rw[r1.bl',r2.bl']
   refine⟨rfl,?_⟩
   have e2:∀i j:Bool,decide (V.bl i=V.bl j)=decide (i=j):=λi j=>by simp
   rw[e2];exact q _ _ _ _ t Kp.refl A.pen (.bl _)
  ·rw[r1.str',r2.str']
   refine⟨rfl,?_⟩
   have e2:∀i j:Str,decide (V.str i=V.str j)=decide (i=j):=λi j=>by simp
   rw[e2];exact q _ _ _ _ t Kp.refl A.pen (.bl _)
 ·exact t.elim
def Jd:Ok2 (gEq true) rNe:=by
 intro p H0 own Hb H x y k1 d1 k2 d2 P Q A r1 r2 t q
 unfold gEq scD at t
 split at t
 ·rename_i b e
  split at e <;> first|cases e|skip
  ·rw[r1.int',r2.int']
   refine⟨rfl,?_⟩
   have e2:∀i j:Int,decide (V.int i=V.int j)=decide (i=j):=λi j=>by simp
   rw[e2];exact q _ _ _ _ t Kp.refl A.pen (.bl _)
  ·rw[r1.bl',r2.bl']
   refine⟨rfl,?_⟩
   have e2:∀i j:Bool,decide (V.bl i=V.bl j)=decide (i=j):=λi j=>by simp
   rw[e2];exact q _ _ _ _ t Kp.refl A.pen (.bl _)
  ·rw[r1.str',r2.str']
   refine⟨rfl,?_⟩
   have e2:∀i j:Str,decide (V.str i=V.str j)=decide (i=j):=λi j=>by simp
   rw[e2];exact q _ _ _ _ t Kp.refl A.pen (.bl _)
 ·exact t.elim
def gIx:G2:=λk1 d1 _ d2 P=>match d1,d2 with
 |.list ds,.int i=>∃d,atI ds i=some d/\P (norm k1 d) d
 |.tuple ds,.int i=>∃d,atI ds i=some d/\P (norm k1 d) d
 |_,_=>False
def Rps.atI{ok:Addr->Prop}{H:Hp}{vs:List V}{ds:List D}{i:Int}{d:D}(r:Rps ok H vs ds)(h:L2.atI ds i=some d):∃v,L2.atI vs i=some v/\Rp ok H v d:=by
 unfold L2.atI at h ⊢
 rw[r.length]
 cases e:ixN ds.length i with
 |none=>rw[e] at h;cases h
 |some j =>
  rw[e] at h
  obtain⟨v,h1,h2⟩:=r.getD (i:=j) (d:=d) h
  exact⟨v,h1,h2⟩
def bY{p:Pn}{H0 Hb H:Hp}{own:Addr->Option Nat}{vs:List V}{kd:Kd×D}(r:RpK p H0 own Hb H vs [kd]):∃v,vs=[v]/\Rp (okK p H0 own Hb kd.1) H v kd.2:=by
 cases r with
 |cons h t=>cases t;exact⟨_,rfl,h⟩
def wX{p:Pn}{H0 Hb H:Hp}{own:Addr->Option Nat}{vs:List V}{kd ke:Kd×D}(r:RpK p H0 own Hb H vs [kd,ke]):∃v w,vs=[v,w]/\Rp (okK p H0 own Hb kd.1) H v kd.2/\Rp (okK p H0 own Hb ke.1) H w ke.2:=by
 cases r with
 |cons h t =>
  cases t with
  |cons h2 t2=>cases t2;exact⟨_,_,rfl,h,h2⟩
def Bx:GC:=λks P=>match ks with
 |[(_,.list ds)]=>P .imm (.int ds.length)
 |[(_,.tuple ds)]=>P .imm (.int ds.length)
 |_=>False
def Hg{K:Í}:OkC Bx (λxs H Q=>∃p ys,xs=[.ref p]/\(SqL K H p ys\/SqT K H p ys)/\Q (.int ys.length) H):=by
 intro p H0 own Hb H vs ks P Q A r t q
 unfold Bx at t
 split at t
 ·obtain⟨v,rfl,r'⟩:=bY r
  obtain⟨c,vs,rfl,o,hc,rs⟩:=r'.bB
  exact⟨c,vs,rfl,.inl (SqL.of hc),by rw[rs.length];exact q _ _ _ _ t Kp.refl A.pen (.int _)⟩
 ·obtain⟨v,rfl,r'⟩:=bY r
  obtain⟨c,vs,rfl,hc,rs⟩:=r'.bK
  exact⟨c,vs,rfl,.inr (SqT.of hc),by rw[rs.length];exact q _ _ _ _ t Kp.refl A.pen (.int _)⟩
 ·exact t.elim
def dR{ps:Pos}(hm:X.mg "len"=none)(ha:PDA X [a] t)(hg:Gl X "len":=by rfl)(he:zS X a []:=by rfl)(hpl:zP X pos []:=by rfl):PD X (.Call (.Name "len" ps) [a] [] pos) (tCl Bx t) :=
 bT dB Hg hg hm PySem.boot_len ha (by decide) (by decide) he hpl
def Fl:GC:=λks P=>match ks with
 |[(_,.int i)]=>P .imm (.int i)
 |[(_,.bool b)]=>P .imm (.int (if b then 1 else 0))
 |_=>False
def jG{ps:Pos}(hm:X.mg "int"=none)(hv:bootBuiltins "int"=some (.type "int"))(ha:PDA X [a] t)(hg:Gl X "int":=by rfl)(he:zS X a []:=by rfl)(hpl:zP X pos []:=by rfl):PD X (.Call (.Name "int" ps) [a] [] pos) (tCl Fl t) :=
 gR nu (by
  intro p H0 own Hb H vs ks P Q A r t q
  unfold Fl at t
  split at t
  ·rename_i k i
   obtain⟨v,rfl,r'⟩:=bY r
   rw[r'.int']
   exact .inl ⟨i,rfl,q _ _ _ _ t Kp.refl A.pen (.int _)⟩
  ·rename_i k i
   obtain⟨v,rfl,r'⟩:=bY r
   rw[r'.bl']
   exact .inr ⟨i,rfl,q _ _ _ _ t Kp.refl A.pen (.int _)⟩
  ·exact t.elim) hg hm hv ha (by decide) (by decide) he hpl
end
variable [Gr]
section
variable {ok ok':Addr->Prop}{H H':Hp}
mutual
def Rp.aW(f:∀a o,ok a->H a=some o->ok' a/\H' a=some o)(t:∀a xs,H a=some (.tup xs)->H' a=some (.tup xs)):∀{v:V}{d:D},Rp ok H v d->Rp ok' H' v d
 |_,_,.non=>.non
 |_,_,.bl b=>.bl b
 |_,_,.int i=>.int i
 |_,_,.str x=>.str x
 |_,_,.lst o h r=>.lst (f _ _ o h).1 (f _ _ o h).2 (Rps.aW f t r)
 |_,_,.tup h r=>.tup (t _ _ h) (Rps.aW f t r)
 |_,_,.dct o h r=>.dct (f _ _ o h).1 (f _ _ o h).2 (Rkv.aW f t r)
def Rps.aW(f:∀a o,ok a->H a=some o->ok' a/\H' a=some o)(t:∀a xs,H a=some (.tup xs)->H' a=some (.tup xs)):∀{v:List V}{d:List D},Rps ok H v d->Rps ok' H' v d
 |_,_,.nil=>.nil
 |_,_,.cons h r=>.cons (Rp.aW f t h) (Rps.aW f t r)
def Rkv.aW(f:∀a o,ok a->H a=some o->ok' a/\H' a=some o)(t:∀a xs,H a=some (.tup xs)->H' a=some (.tup xs)):∀{v:List (Key×V)}{d:List (D×D)},Rkv ok H v d->Rkv ok' H' v d
 |_,_,.nil=>.nil
 |_,_,.cons h r=>.cons (Rp.aW f t h) (Rkv.aW f t r)
end
end
structure DEnds where
 nx:List Sl->Prop
 rt:D->Prop
 bk:List Sl->Prop:=λ_=>False
 ct:List Sl->Prop:=λ_=>False
abbrev DS:=DEnds->List Sl->Prop
structure FrS(p:Pn)(own:Addr->Option Nat)(H:Hp)(own':Addr->Option Nat)(H':Hp):Prop where
 keep:∀b o,H b=some o->¬p.fp b->own b=none->H' b=some o/\own' b=none
 tup:∀a xs,H a=some (.tup xs)->H' a=some (.tup xs)
def FrS.trans{p:Pn}{o1 o2 o3:Addr->Option Nat}{H1 H2 H3:Hp}(a:FrS p o1 H1 o2 H2)(b:FrS p o2 H2 o3 H3):FrS p o1 H1 o3 H3:=⟨λc o h n e=>let ⟨x,y⟩:=a.keep c o h n e;b.keep c o x n y,λc xs e=>b.tup c xs (a.tup c xs e)⟩
def FrS.refl{p:Pn}{o1:Addr->Option Nat}{H1:Hp}:FrS p o1 H1 o1 H1:=⟨λ_ _ h _ e=>⟨h,e⟩,λ_ _ e=>e⟩
def At.tups{p:Pn}{H0 H H':Hp}{own:Addr->Option Nat}(A:At p H0 own H H'):∀a xs,H a=some (.tup xs)->H' a=some (.tup xs):=gn (⟨A.k0,Kp.refl,A.penb,A.penb,A.ow⟩:At p H0 own H H) A.kp
structure RPost(p:Pn)(H0 H':Hp)(v:V)(d:D):Prop where
 k0:∀b o,H0 b=some o->¬p.fp b->H' b=some o
 pen:p.PI H'
 rp:Rp (λa=>H0 a=none/\¬p.fp a) H' v d
structure Wish(p:Pn)(H0:Hp)(own:Addr->Option Nat)(H:Hp)(P:DEnds)(Q:Ends):Prop where
 nx:∀own' σ' H' ρ',EnvD p H0 own' σ' H' ρ'->FrS p own H own' H'->P.nx ρ'->Q.nx σ' H'
 rt:∀d v H',P.rt d->RPost p H0 H' v d->Q.rt v H'
 bk:∀own' σ' H' ρ',EnvD p H0 own' σ' H' ρ'->FrS p own H own' H'->P.bk ρ'->Q.bk σ' H'
 ct:∀own' σ' H' ρ',EnvD p H0 own' σ' H' ρ'->FrS p own H own' H'->P.ct ρ'->Q.ct σ' H'
def Wish.go{p:Pn}{H0 H H':Hp}{own own':Addr->Option Nat}{P:DEnds}{Q:Ends}(w:Wish p H0 own H P Q)(f:FrS p own H own' H'):Wish p H0 own' H' P Q :=
 ⟨λo s h r e g n=>w.nx o s h r e (f.trans g) n,w.rt,λo s h r e g n=>w.bk o s h r e (f.trans g) n,λo s h r e g n=>w.ct o s h r e (f.trans g) n⟩
def g8(t:DS):TS:=λQ σ H=>∃p H0 own ρ P,EnvD p H0 own σ H ρ/\t P ρ/\Wish p H0 own H P Q
abbrev PDS(X:Cx)(st:Stmt)(t:DS):Prop:=PS X st (g8 t)
abbrev jx(X:Cx)(st:List Stmt)(t:DS):Prop:=PSs X st (g8 t)
def PSs.wk'{X:Cx}{ss:List Stmt}{t t':TS}(h:PSs X ss t)(w:∀D σ H,t' D σ H->t D σ H):PSs X ss t':=λpins s σ H D I q=>h pins s σ H D I (w D σ H q)
def PS.wk'{X:Cx}{ss:Stmt}{t t':TS}(h:PS X ss t)(w:∀D σ H,t' D σ H->t D σ H):PS X ss t':=λpins s σ H D I q=>h pins s σ H D I (w D σ H q)
def At.frs{p:Pn}{H0 H H':Hp}{own:Addr->Option Nat}(A:At p H0 own H H'):FrS p own H own H':=⟨λb o h n e=>⟨A.kp b o h n,e⟩,A.tups⟩
section
variable {X:Cx}{pos:Pos}{st:Stmt}{rest:List Stmt}{e:Expr}{te:DE}{t u:DS}
def CT:DS:=λP ρ=>P.nx ρ
def lJ(t u:DS):DS:=λP ρ=>t { P with nx:=u P } ρ
def sI:jx X [] CT:=PSs.wk' jB (by
 rintro Q σ H ⟨p,H0,own,ρ,P,E,t,w⟩
 exact w.nx own σ H ρ E FrS.refl t)
def iz(h1:PDS X st t)(h2:jx X rest u):jx X (st::rest) (lJ t u):=PSs.wk' (qe h1 h2) (by
 rintro Q σ H ⟨p,H0,own,ρ,P,E,t,w⟩
 exact⟨p,H0,own,ρ,_,E,t,⟨λo s h r e g n=>⟨p,H0,o,r,P,e,n,w.go g⟩,w.rt,w.bk,w.ct⟩⟩)
def gq(h1:PDS X st t):jx X [st] t:=fG h1
def eN:PDS X st (λ_ _=>False):=PS.wk' xH (by
 rintro Q σ H ⟨p,H0,own,ρ,P,E,t,w⟩
 exact t)
def zV(te:DE):DS:=λP ρ=>te ρ λk d=>k.le .n0=true/\P.rt d
def iV(he:PD X e te):PDS X (.Return (some e) pos) (zV te):=PS.wk' (jX he) (by
 rintro Q σ H ⟨p,H0,own,ρ,P,E,t,w⟩
 refine⟨p,H0,own,ρ,_,E,t,λk d v H' h A r=>w.rt d v H' h.2 ⟨λb o e n=>A.kp b o (A.k0 b o e n) n,A.pen,?_⟩⟩
 exact dN A h.1 r)
def dIf(c:DT)(t u:DS):DS:=λP ρ=>c ρ λb=>if b=true then t P ρ else u P ρ
def zM{c:Expr}{a b:List Stmt}{tc:DT}(hc:PDT X c tc)(ha:jx X a t)(hb:jx X b u):PDS X (.If c a b pos) (dIf tc t u):=PS.wk' (tU hc ha hb) (by
 rintro Q σ H ⟨p,H0,own,ρ,P,E,t,w⟩
 refine⟨p,H0,own,ρ,_,E,t,λb H' h A=>?_⟩
 cases b with
 |true=>exact aU ⟨p,H0,own,ρ,P,E.go A.kp A.pen,by simpa using h,w.go A.frs⟩
 |false=>exact aC ⟨p,H0,own,ρ,P,E.go A.kp A.pen,by simpa using h,w.go A.frs⟩)
def CV(te:DE):DS:=λP ρ=>te ρ λ_ _=>P.nx ρ
def jN(he:PD X e te)(hs:swapsWith e none pos.line X.env=pure false:=by rfl):PDS X (.Expr e pos) (CV te):=PS.wk' (nP he hs) (by
 rintro Q σ H ⟨p,H0,own,ρ,P,E,t,w⟩
 exact⟨p,H0,own,ρ,_,E,t,λk d v H' h A r=>w.nx own σ H' ρ (E.go A.kp A.pen) A.frs h⟩)
def Sl.region:Sl->Option Nat
 |.dw r _=>some r
 |.rw r _=>some r
 |.tw r _=>some r
 |.sp r _ _=>some r
 |_=>none
def mZ(r:Nat)(ρ:List Sl)(i:Nat):Bool:=(ρ.set i .any).all λs=>s.region != some r
def stK(rg:Option Nat)(ρ:List Sl)(i:Nat)(k:Kd)(d:D):Option Sl:=match k with
 |.imm=>some (.im d)
 |.new=>match rg with
  |some r=>if mZ r ρ i=true then some (.dw r d) else none
  |none=>some (.sn d)
 |.reg r=>some (.dw r d)
 |.snw=>some (.sn d)
 |.shr=>some (.sh d)
 |_=>none
def vJ(i:Nat)(rg:Option Nat)(te:DE):DS:=λP ρ=>te ρ λk d=>match stK rg ρ i (norm k d) d with
 |some s=>P.nx (ρ.set i s)
 |none=>False
section
variable {p:Pn}{H0 H H1:Hp}{own:Addr->Option Nat}{σ:L2.St}{ρ:List Sl}{i:Nat}
def EnvD.set{v:V}{s:Sl}(E:EnvD p H0 own σ H ρ)(hs:i<σ.length->eY p H0 own (σ.set i (some v)) H i s):EnvD p H0 own (σ.set i (some v)) H (ρ.set i s):=by
 refine⟨E.k0,E.pen,E.ow,λj s' e=>?_,by simpa using E.len,E.gr⟩
 by_cases hj:j=i
 ·subst hj
  have hl:j<ρ.length:=by
   have:=(Ñ.mp e).1
   simpa using this
  rw[ö hl] at e
  cases e
  exact hs (by rw[←E.len];exact hl)
 ·rw[ĩ (è hj)] at e
  have q:=E.slot j s' e
  have eq:(σ.set i (some v))[j]?=σ[j]?:=ĩ (è hj)
  cases s' <;> simp only[eY,eq] at q ⊢ <;> exact q
def bG(r:Nat)(H H1:Hp)(own:Addr->Option Nat):Addr->Option Nat:=λa=>match H a,H1 a with
 |none,some _=>some r
 |_,_=>own a
def aQ{r:Nat}{a:Addr}{o:HO}(h:H a=some o):bG r H H1 own a=own a:=by unfold bG;rw[h]
def nG{r:Nat}{a:Addr}{o:HO}(h:H a=none)(h1:H1 a=some o):bG r H H1 own a=some r:=by unfold bG;rw[h,h1]
def EnvD.adopt(r:Nat)(E:EnvD p H0 own σ H ρ)(A:At p H0 own H H1):EnvD p H0 (bG r H H1 own) σ H1 ρ:=by
 have tp:=gn E.at A.kp
 refine⟨λb o e n=>A.kp b o (E.k0 b o e n) n,A.pen,λa q e=>?_,λj s e=>?_,E.len,E.gr⟩
 ·cases h:H a with
  |some o =>
   rw[aQ h] at e
   obtain⟨x,y,z⟩:=E.ow a q e
   refine⟨x,y,by rw[A.kp a o h y];exact λz=>nomatch z⟩
  |none =>
   cases h1:H1 a with
   |none =>
    have e':own a=some q:=by rw[←e];unfold bG;rw[h,h1]
    exact absurd h (E.ow a q e').2.2
   |some o=>exact⟨E.at.h0 h,E.at.nfb h,λz=>nomatch z⟩
 ·have q:=E.slot j s e
  cases s with
  |any=>trivial
  |im d=>exact let ⟨v,a,b⟩:=q;⟨v,a,b.mono (λ_ o=>o) (λ_ _ o=>o.elim) tp⟩
  |sh d=>exact let ⟨v,a,b⟩:=q;⟨v,a,b.aW (λc o n h=>⟨⟨n.1,by rw[aQ h];exact n.2⟩,A.kp c o h n.1⟩) tp⟩
  |sn d=>exact let ⟨v,a,b⟩:=q;⟨v,a,b.aW (λc o n h=>⟨⟨n.1,n.2.1,by rw[aQ h];exact n.2.2⟩,A.kp c o h n.2.1⟩) tp⟩
  |dw r' d=>exact let ⟨v,a,b⟩:=q;⟨v,a,b.aW (λc o n h=>⟨by rw[aQ h];exact n,A.kp c o h (E.ow c r' n).2.1⟩) tp⟩
  |pen C=>exact q
  |rw r' L=>exact let ⟨st,as,a,b⟩:=q;⟨st,as,a,b.mono (λc o n h=>⟨by rw[aQ h];exact n,A.kp c o h (E.ow c r' n).2.1⟩) tp⟩
  |tw r' L=>exact let ⟨st,as,a,b⟩:=q;⟨st,as,a,b.mono (λc o n h=>⟨by rw[aQ h];exact n,A.kp c o h (E.ow c r' n).2.1⟩) tp⟩
  |scr v b=>exact q
  |sp r' b ds=>exact let ⟨l,vs,a,o,h,z⟩:=q;⟨l,vs,a,by rw[aQ h];exact o,A.kp l _ h (E.ow l r' o).2.1,z.aW (λc u n e=>⟨⟨n.1,n.2.1,by rw[aQ e];exact n.2.2⟩,A.kp c u e n.2.1⟩) tp⟩
def Ae{r:Nat}{k:Kd}{v:V}{d:D}(h:k.le .new=true)(A:At p H0 own H H1)(x:Rp (okK p H0 own H k) H1 v d):Rp (λa=>bG r H H1 own a=some r) H1 v d :=
 (dN A h x).aW (λa o n e=>⟨nG n e,e⟩) λ_ _ e=>e
def nH{r:Nat}(A:At p H0 own H H1):FrS p own H (bG r H H1 own) H1:=⟨λb o h n e=>⟨A.kp b o h n,by rw[aQ h];exact e⟩,A.tups⟩
def EnvD.drop(E:EnvD p H0 own σ H ρ):EnvD p H0 own σ H (ρ.set i .any):=by
 refine⟨E.k0,E.pen,E.ow,λj s' e=>?_,by simpa using E.len,E.gr⟩
 by_cases hj:j=i
 ·subst hj
  have hl:j<ρ.length:=by
   have:=(Ñ.mp e).1
   simpa using this
  rw[ö hl] at e
  cases e
  trivial
 ·rw[ĩ (è hj)] at e
  exact E.slot j s' e
def aG(r:Nat)(own:Addr->Option Nat):Addr->Option Nat:=λa=>if own a=some r then none else own a
def EnvD.clear{r:Nat}(E:EnvD p H0 own σ H ρ)(h:ρ.all (λs=>s.region != some r)=true):EnvD p H0 (aG r own) σ H ρ:=by
 refine⟨E.k0,E.pen,λa q e=>?_,λj s e=>?_,E.len,E.gr⟩
 ·unfold aG at e
  split at e
  ·cases e
  ·exact E.ow a q e
 ·have q:=E.slot j s e
  have z:=List.all_eq_true.mp h s (Ù e)
  have c0:∀a,own a=none->aG r own a=none:=λa n=>by unfold aG;rw[n];simp
  cases s with
  |any=>trivial
  |im d=>exact q
  |sh d=>exact let ⟨v,a,b⟩:=q;⟨v,a,b.mono (λc n=>⟨n.1,c0 c n.2⟩) (λ_ _ _ e=>e) λ_ _ e=>e⟩
  |sn d=>exact let ⟨v,a,b⟩:=q;⟨v,a,b.mono (λc n=>⟨n.1,n.2.1,c0 c n.2.2⟩) (λ_ _ _ e=>e) λ_ _ e=>e⟩
  |dw r' d =>
   have hne:r'≠r:=by simpa[Sl.region] using z
   exact let ⟨v,a,b⟩:=q;⟨v,a,b.mono (λc n=>by unfold aG;rw[n,if_neg (by simpa using hne)]) (λ_ _ _ e=>e) λ_ _ e=>e⟩
  |pen C=>exact q
  |rw r' L =>
   have hne:r'≠r:=by simpa[Sl.region] using z
   exact let ⟨st,as,a,b⟩:=q;⟨st,as,a,b.mono (λc o n e=>⟨by unfold aG;rw[n,if_neg (by simpa using hne)],e⟩) λ_ _ e=>e⟩
  |tw r' L =>
   have hne:r'≠r:=by simpa[Sl.region] using z
   exact let ⟨st,as,a,b⟩:=q;⟨st,as,a,b.mono (λc o n e=>⟨by unfold aG;rw[n,if_neg (by simpa using hne)],e⟩) λ_ _ e=>e⟩
  |scr v b=>exact q
  |sp r' b ds =>
   have hne:r'≠r:=by simpa[Sl.region] using z
   exact let ⟨l,vs,a,o,h,y⟩:=q;⟨l,vs,a,by unfold aG;rw[o,if_neg (by simpa using hne)],h,y.mono (λc n=>⟨n.1,n.2.1,c0 c n.2.2⟩) (λ_ _ _ e=>e) λ_ _ e=>e⟩
def fM{r:Nat}:FrS p own H (aG r own) H:=⟨λb o h n e=>⟨h,by unfold aG;rw[e];simp⟩,λ_ _ e=>e⟩
end
def pH{i:Nat}(rg:Option Nat)(h:PS X st (Df (aZ te) (qJ i))):PDS X st (vJ i rg te):=PS.wk' h (by
 rintro Q σ H ⟨p,H0,own,ρ,P,E,t,w⟩
 refine⟨p,H0,own,ρ,_,E,t,λk d v H1 h A r=>?_⟩
 have r:=aL r
 generalize norm k d=k' at h r
 show Q.nx (σ.set i (some v)) H1
 have E1:=E.go A.kp A.pen
 have fin:∀s,eY p H0 own (σ.set i (some v)) H1 i s\/¬i<σ.length->P.nx (ρ.set i s)->Q.nx (σ.set i (some v)) H1:=λs hs hn =>
  w.nx own _ H1 _ (E1.set λhl=>hs.elim id λz=>absurd hl z) A.frs hn
 have here:i<σ.length->(σ.set i (some v))[i]?=some (some v):=λhl=>ö hl
 by_cases hl:i<σ.length
 ·cases k' with
  |imm=>exact fin (.im d) (.inl ⟨v,here hl,r⟩) h
  |new =>
   cases rg with
   |none=>exact fin (.sn d) (.inl ⟨v,here hl,dN A (k:=.snw) rfl r⟩) h
   |some q =>
    simp only[stK] at h
    by_cases hf:mZ q ρ i=true
    ·rw[if_pos hf] at h
     have E2:EnvD p H0 (aG q own) σ H (ρ.set i .any):=(E.drop (i:=i)).clear hf
     have A2:At p H0 (aG q own) H H1:=⟨A.k0,A.kp,A.penb,A.pen,E2.ow⟩
     have E3:=E2.adopt q A2
     have r2:Rp (okK p H0 (aG q own) H .new) H1 v d:=r
     have E4:EnvD p H0 (bG q H H1 (aG q own)) (σ.set i (some v)) H1 ((ρ.set i .any).set i (.dw q d)):=E3.set λ_=>⟨v,here hl,Ae (k:=.new) rfl A2 r2⟩
     rw[List.set_set] at E4
     exact w.nx _ _ H1 _ E4 (fM.trans (nH A2)) h
    ·rw[if_neg hf] at h
     exact h.elim
  |reg q=>exact fin (.dw q d) (.inl ⟨v,here hl,r⟩) h
  |n0=>exact h.elim
  |snw=>exact fin (.sn d) (.inl ⟨v,here hl,r⟩) h
  |shr=>exact fin (.sh d) (.inl ⟨v,here hl,r⟩) h
  |wk=>exact h.elim
 ·cases hs:stK rg ρ i k' d with
  |none=>rw[hs] at h;exact h.elim
  |some s=>rw[hs] at h;exact fin s (.inr hl) h)
end
variable [Gr]
section
variable {ok ok':Addr->Prop}{H:Hp}
mutual
def Rp.inj:∀{v:V}{d d':D},Rp ok H v d->Rp ok' H v d'->d=d'
 |_,_,_,.non,.non=>rfl
 |_,_,_,.bl b,.bl _=>rfl
 |_,_,_,.int i,.int _=>rfl
 |_,_,_,.str x,.str _=>rfl
 |_,_,_,.lst o h r,.lst o' h' r'=>by
  rw[h] at h';cases h'
  rw[Rps.inj r r']
 |_,_,_,.lst o h r,.tup h' r'=>by rw[h] at h';cases h'
 |_,_,_,.lst o h r,.dct o' h' r'=>by rw[h] at h';cases h'
 |_,_,_,.tup h r,.lst o' h' r'=>by rw[h] at h';cases h'
 |_,_,_,.tup h r,.tup h' r'=>by
  rw[h] at h';cases h'
  rw[Rps.inj r r']
 |_,_,_,.tup h r,.dct o' h' r'=>by rw[h] at h';cases h'
 |_,_,_,.dct o h r,.lst o' h' r'=>by rw[h] at h';cases h'
 |_,_,_,.dct o h r,.tup h' r'=>by rw[h] at h';cases h'
 |_,_,_,.dct o h r,.dct o' h' r'=>by
  rw[h] at h';cases h'
  rw[Rkv.inj r r']
def Rps.inj:∀{v:List V}{d d':List D},Rps ok H v d->Rps ok' H v d'->d=d'
 |_,_,_,.nil,.nil=>rfl
 |_,_,_,.cons h t,.cons h' t'=>by rw[Rp.inj h h',Rps.inj t t']
def Rkv.inj:∀{v:List (Key×V)}{d d':List (D×D)},Rkv ok H v d->Rkv ok' H v d'->d=d'
 |_,_,_,.nil,.nil=>rfl
 |_,_,_,.cons h t,.cons h' t'=>by rw[Rp.inj h h',Rkv.inj t t']
end
variable {l:Addr}{T:D}
mutual
def Rp.avoid(h0:Rp ok' H (.ref l) T):∀{v:V}{d:D},Rp ok H v d->sizeOf d<sizeOf T->Rp (λa=>ok a/\a≠l) H v d
 |_,_,.non,_=>.non
 |_,_,.bl b,_=>.bl b
 |_,_,.int i,_=>.int i
 |_,_,.str x,_=>.str x
 |_,_,.lst (ds:=ds) o h r,s=>.lst ⟨o,λz=>by
   subst z
   have e:=Rp.inj (Rp.lst o h r) h0
   rw[e] at s
   exact absurd s (ñ _)⟩ h (Rps.avoid h0 r (by simp only[PyData.list.sizeOf_spec] at s;omega))
 |_,_,.tup (ds:=ds) h r,s=>.tup h (Rps.avoid h0 r (by simp only[PyData.tuple.sizeOf_spec] at s;omega))
 |_,_,.dct (ds:=ds) o h r,s=>.dct ⟨o,λz=>by
   subst z
   have e:=Rp.inj (Rp.dct o h r) h0
   rw[e] at s
   exact absurd s (ñ _)⟩ h (Rkv.avoid h0 r (by simp only[PyData.dict.sizeOf_spec] at s;omega))
def Rps.avoid(h0:Rp ok' H (.ref l) T):∀{v:List V}{d:List D},Rps ok H v d->sizeOf d<sizeOf T->Rps (λa=>ok a/\a≠l) H v d
 |_,_,.nil,_=>.nil
 |_,_,.cons h t,s=>.cons (Rp.avoid h0 h (by simp only[ř] at s;omega)) (Rps.avoid h0 t (by simp only[ř] at s;omega))
def Rkv.avoid(h0:Rp ok' H (.ref l) T):∀{v:List (Key×V)}{d:List (D×D)},Rkv ok H v d->sizeOf d<sizeOf T->Rkv (λa=>ok a/\a≠l) H v d
 |_,_,.nil,_=>.nil
 |_,_,.cons h t,s=>.cons (Rp.avoid h0 h (by simp only[ř,Prod.mk.sizeOf_spec] at s;omega)) (Rkv.avoid h0 t (by simp only[ř] at s;omega))
end
end
def forget(r:Nat)(ρ:List Sl):List Sl:=ρ.map λs=>if s.region=some r then .any else s
section
variable {p:Pn}{H0 H H1:Hp}{own:Addr->Option Nat}{σ:L2.St}{ρ:List Sl}{i:Nat}
def EnvD.write{r:Nat}{l:Addr}{u o':HO}(E:EnvD p H0 own σ H ρ)(hl:own l=some r)(ho:H l=some u)(hu:∀xs,u≠.tup xs)(hc:¬Fxd u:=by rintro⟨_,_,z⟩;cases z):EnvD p H0 own σ (upd H l o') (forget r ρ):=by
 have h0:=E.ow l r hl
 have tp:∀a xs,H a=some (.tup xs)->upd H l o' a=some (.tup xs):=λa xs e=>by
  rw[aj];exact e
  intro z;subst z;rw[ho] at e;exact hu xs (Ì e)
 refine⟨λb o e n=>?_,p.mono H _ E.pen λb o f e=>?_,λa q e=>?_,λj s e=>?_,by unfold forget;rw[Ã];exact E.len,E.gr⟩
 ·rw[aj];exact E.k0 b o e n
  intro z;subst z;rw[h0.1] at e;cases e
 ·rw[aj];exact e
  intro z;subst z;exact f.elim h0.2.1 λc=>hc (by rw[ho] at e;cases e;exact c)
 ·obtain⟨x,y,z⟩:=E.ow a q e
  refine⟨x,y,?_⟩
  by_cases hh:a=l
  ·subst hh;rw[ao];exact λz=>nomatch z
  ·rw[aj hh];exact z
 ·unfold forget at e
  rw[Ú] at e
  cases hr:ρ[j]? with
  |none=>rw[hr] at e;cases e
  |some s0 =>
   rw[hr] at e
   have e:=Ì e
   have q:=E.slot j s0 hr
   have ne:∀c,own c≠some r->c≠l:=λc n z=>by subst z;exact n hl
   cases s0 with
   |any=>simp only[Sl.region] at e;subst e;trivial
   |im d =>
    have e:Sl.im d=s:=e
    subst e
    exact let ⟨v,a,b⟩:=q;⟨v,a,b.mono (λ_ o=>o) (λ_ _ o=>o.elim) tp⟩
   |sh d =>
    have e:Sl.sh d=s:=e
    subst e
    exact let ⟨v,a,b⟩:=q;⟨v,a,b.mono (λ_ o=>o) (λc o n e=>by rw[aj (ne c (by rw[n.2];exact λz=>nomatch z))];exact e) tp⟩
   |sn d =>
    have e:Sl.sn d=s:=e
    subst e
    exact let ⟨v,a,b⟩:=q;⟨v,a,b.mono (λ_ o=>o) (λc o n e=>by rw[aj (ne c (by rw[n.2.2];exact λz=>nomatch z))];exact e) tp⟩
   |dw r' d =>
    by_cases hrr:r'=r
    ·subst hrr
     have e:(if (some r':Option Nat)=some r' then Sl.any else Sl.dw r' d)=s:=e
     rw[if_pos rfl] at e
     subst e
     trivial
    ·have e:(if (some r':Option Nat)=some r then Sl.any else Sl.dw r' d)=s:=e
     rw[if_neg (by simpa using hrr)] at e
     subst e
     exact let ⟨v,a,b⟩:=q;⟨v,a,b.mono (λ_ o=>o) (λc o n e=>by rw[aj (ne c (by rw[n];simpa using hrr))];exact e) tp⟩
   |pen C =>
    have e:Sl.pen C=s:=e
    subst e
    exact q
   |scr v b =>
    have e:Sl.scr v b=s:=e
    subst e
    exact q
   |sp r' b ds =>
    by_cases hrr:r'=r
    ·subst hrr
     have e:(if (some r':Option Nat)=some r' then Sl.any else Sl.sp r' b ds)=s:=e
     rw[if_pos rfl] at e
     subst e
     trivial
    ·have e:(if (some r':Option Nat)=some r then Sl.any else Sl.sp r' b ds)=s:=e
     rw[if_neg (by simpa using hrr)] at e
     subst e
     exact let ⟨l',vs,a,o,h,y⟩:=q;⟨l',vs,a,o,by rw[aj (ne l' (by rw[o];simpa using hrr))];exact h,y.mono (λ_ o=>o) (λc o n e=>by rw[aj (ne c (by rw[n.2.2];exact λz=>nomatch z))];exact e) tp⟩
   |rw r' L =>
    by_cases hrr:r'=r
    ·subst hrr
     have e:(if (some r':Option Nat)=some r' then Sl.any else Sl.rw r' L)=s:=e
     rw[if_pos rfl] at e
     subst e
     trivial
    ·have e:(if (some r':Option Nat)=some r then Sl.any else Sl.rw r' L)=s:=e
     rw[if_neg (by simpa using hrr)] at e
     subst e
     exact let ⟨st,as,a,b⟩:=q;⟨st,as,a,b.mono (λc o n e=>⟨n,by rw[aj (ne c (by rw[n];simpa using hrr))];exact e⟩) tp⟩
   |tw r' L =>
    by_cases hrr:r'=r
    ·subst hrr
     have e:(if (some r':Option Nat)=some r' then Sl.any else Sl.tw r' L)=s:=e
     rw[if_pos rfl] at e
     subst e
     trivial
    ·have e:(if (some r':Option Nat)=some r then Sl.any else Sl.tw r' L)=s:=e
     rw[if_neg (by simpa using hrr)] at e
     subst e
     exact let ⟨st,as,a,b⟩:=q;⟨st,as,a,b.mono (λc o n e=>⟨n,by rw[aj (ne c (by rw[n];simpa using hrr))];exact e⟩) tp⟩
def uG{r:Nat}{l:Addr}{u o':HO}(hl:own l=some r)(ho:H l=some u)(hu:∀xs,u≠.tup xs):FrS p own H own (upd H l o'):=by
 refine⟨λb o h n e=>⟨?_,e⟩,λa xs e=>?_⟩
 ·rw[aj];exact h
  intro z;subst z;rw[hl] at e;cases e
 ·rw[aj];exact e
  intro z;subst z;rw[ho] at e;exact hu xs (Ì e)
def EnvD.put{v:V}{s:Sl}(E:EnvD p H0 own σ H ρ)(hs:eY p H0 own σ H i s):EnvD p H0 own σ H (ρ.set i s):=by
 refine⟨E.k0,E.pen,E.ow,λj s' e=>?_,by simpa using E.len,E.gr⟩
 by_cases hj:j=i
 ·subst hj
  have hl:j<ρ.length:=by
   have:=(Ñ.mp e).1
   simpa using this
  rw[ö hl] at e
  cases e
  exact hs
 ·rw[ĩ (è hj)] at e
  exact E.slot j s' e
def EnvD.wY{r:Nat}{l:Addr}{vs vs':List V}{ds ds':List D}(E:EnvD p H0 own σ H ρ)(A:At p H0 own H H1)(hv:σ[i]?=some (some (.ref l)))(hl:own l=some r)(ho:H l=some (.lst vs))(rs:Rps (λa=>own a=some r) H vs ds)(hs:∀H2,(∀{w:V}{d:D},Rp (λa=>own a=some r) H w d->sizeOf d<sizeOf (Ĥ ds)->Rp (λa=>bG r H H1 own a=some r) H2 w d)->(∀{w:V}{d:D},Rp (okK p H0 own H .new) H1 w d->Rp (λa=>bG r H H1 own a=some r) H2 w d)->Rps (λa=>bG r H H1 own a=some r) H2 vs' ds') :
  EnvD p H0 (bG r H H1 own) σ (upd H1 l (.lst vs')) ((forget r ρ).set i (.dw r (.list ds')))/\FrS p own H (bG r H H1 own) (upd H1 l (.lst vs')):=by
 have h1:H1 l=some (.lst vs):=A.kp l _ ho (E.ow l r hl).2.1
 have hl':bG r H H1 own l=some r:=by rw[aQ ho];exact hl
 have E1:=(E.adopt r A).write (o':=.lst vs') hl' h1 (λxs z=>nomatch z)
 have tp:∀a xs,H1 a=some (.tup xs)->upd H1 l (.lst vs') a=some (.tup xs):=λa xs e=>by
  rw[aj];exact e
  intro z;subst z;rw[h1] at e;cases e
 refine⟨E1.put (v:=.ref l) ⟨.ref l,hv,.lst hl' ao (hs _ ?_ ?_)⟩,(nH A).trans (uG hl' h1 λxs z=>nomatch z)⟩
 ·intro w d x sz
  have x1:=Rp.avoid (Rp.lst (ok:=λa=>own a=some r) hl ho rs) x sz
  exact x1.aW (λa o n e=>⟨by rw[aQ e];exact n.1,by rw[aj n.2];exact A.kp a o e (E.ow a r n.1).2.1⟩) λa xs e=>tp a xs (gn E.at A.kp a xs e)
 ·intro w d x
  exact x.aW (λa o n e=>⟨nG n e,by rw[aj (λz=>by subst z;rw[ho] at n;cases n)];exact e⟩) tp
end
section
variable {X:Cx}{pos:Pos}{st:Stmt}{e:Expr}{te:DE}{i:Nat}{ta:DA}
def mH{d:D}{ds:List D}(h:d∈ds):sizeOf d<sizeOf (Ĥ ds):=by
 have:=List.sizeOf_lt_of_mem h
 simp only[PyData.list.sizeOf_spec]
 omega
def nO{ok ok':Addr->Prop}{H H2:Hp}{T:D}(f:∀{w:V}{d:D},Rp ok H w d->sizeOf d<sizeOf T->Rp ok' H2 w d):∀{vs:List V}{ds:List D},Rps ok H vs ds->(∀d∈ds,sizeOf d<sizeOf T)->Rps ok' H2 vs ds
 |_,_,.nil,_=>.nil
 |_,_,.cons h t,s=>.cons (f h (s _ Ô)) (nO f t λd hd=>s d (Ð _ hd))
def FJ(i:Nat)(te:DE):DS:=λP ρ=>match ρ[i]? with
 |some (.dw r (.list ds))=>te ρ λk d=>(norm k d).le .new=true/\ds.length<1000/\P.nx ((forget r ρ).set i (.dw r (.list (ds++[d]))))
 |_=>False
def bU(h:PS X st (wL (tBM X.K "list" tR (lV i) (jh (dH te mq))))):PDS X st (FJ i te):=PS.wk' h (by
 rintro Q σ H ⟨p,H0,own,ρ,P,E,t,w⟩
 unfold FJ at t
 split at t
 ·rename_i r ds hr
  obtain⟨v,hv,x⟩:=E.slot i _ hr
  obtain⟨l,vs,rfl,hl,ho,rs⟩:=x.bB
  refine⟨.ref l,hv,.inl ⟨rfl,vs,SqL.of ho⟩,p,H0,own,ρ,λks=>∃k d,ks=[(k,d)]/\(norm k d).le .new=true/\ds.length<1000/\P.nx ((forget r ρ).set i (.dw r (.list (ds++[d])))),E,?_,?_⟩
  ·show te ρ λk d=>∃k' d',[(k,d)]=[(k',d')]/\_
   have e:(λk d=>∃k' d',[((k,d):Kd×D)]=[(k',d')]/\(norm k' d').le .new=true/\ds.length<1000/\P.nx ((forget r ρ).set i (.dw r (.list (ds++[d'])))))=λk d=>(norm k d).le .new=true/\ds.length<1000/\P.nx ((forget r ρ).set i (.dw r (.list (ds++[d])))):=by
    funext k d
    apply propext
    constructor
    ·rintro⟨k',d',e,h⟩
     cases e
     exact h
    ·exact λh=>⟨k,d,rfl,h⟩
   rw[e]
   exact t
  ·rintro ks ws H1 ⟨k,d,rfl,hk,hlen,hn⟩ A rk
   obtain⟨y,rfl,ry⟩:=bY rk
   have ry:=dN A hk (aL ry)
   have h1:H1 l=some (.lst vs):=A.kp l _ ho (E.ow l r hl).2.1
   have h24:=ä
   have hln:=rs.length
   refine⟨l,vs,y,rfl,rfl,h1,by omega,?_⟩
   obtain⟨E2,F2⟩:=E.wY (vs':=vs++[y]) (ds':=ds++[d]) A hv hl ho rs λH2 f g=>(nO f rs λd hd=>mH hd).snoc (g ry)
   exact w.nx _ σ _ _ E2 F2 hn
 ·exact t.elim)
end
variable [Gr]
abbrev DG:=Kd->D->List Sl->(List Sl->Prop)->Prop
abbrev DGs:=Kd->List D->List Sl->(List Sl->Prop)->Prop
def p8(k:Kd)(d:D):Sl:=match k with
 |.imm=>.im d
 |.new=>.sn d
 |.reg r=>.dw r d
 |.snw=>.sn d
 |.shr=>.sh d
 |_=>.any
def okB(p:Pn)(H0:Hp)(own:Addr->Option Nat):Kd->Addr->Prop
 |.imm=>λ_=>False
 |.new=>λa=>H0 a=none/\¬p.fp a/\own a=none
 |.reg r=>λa=>own a=some r
 |.snw=>λa=>H0 a=none/\¬p.fp a/\own a=none
 |.shr=>λa=>¬p.fp a/\own a=none
 |.n0=>λ_=>True
 |.wk=>λ_=>True
def CG(g:DG):TG:=λv σ H Q=>∃p H0 own ρ k d P,EnvD p H0 own σ H ρ/\Rp (okB p H0 own k) H v d/\g k d ρ P/\∀σ' ρ',EnvD p H0 own σ' H ρ'->P ρ'->Q σ' H
def iM(g:DGs):TGs:=λvs σ H Q=>∃p H0 own ρ k ds P,EnvD p H0 own σ H ρ/\Rps (okB p H0 own k) H vs ds/\g k ds ρ P/\∀σ' ρ',EnvD p H0 own σ' H ρ'->P ρ'->Q σ' H
abbrev PDG(X:Cx)(e:Expr)(g:DG):Prop:=PG X e (CG g)
def PG.wk{X:Cx}{e:Expr}{t t':TG}(h:PG X e t)(w:∀v σ H Q,t' v σ H Q->t v σ H Q):PG X e t':=λpins s σ H v u Q I r q=>h pins s σ H v u Q I r (w v σ H Q q)
def PGs.wk{X:Cx}{e:List Expr}{t t':TGs}(h:PGs X e t)(w:∀v σ H Q,t' v σ H Q->t v σ H Q):PGs X e t':=λpins s σ H v u Q I r q=>h pins s σ H v u Q I r (w v σ H Q q)
def gK{p:Pn}{H0 H:Hp}{own:Addr->Option Nat}{k:Kd}{v:V}{d:D}(r:Rp (okB p H0 own k) H v d):Rp (okB p H0 own (norm k d)) H v d:=by
 by_cases h:eG d=true
 ·rw[bD h];exact r.imm h
 ·rw[kI h];exact r
section
variable {X:Cx}{pos:Pos}{e:Expr}{es:List Expr}
def gNm(i:Nat):DG:=λk d ρ P=>P (ρ.set i (p8 (norm k d) d))
def wR{p:Pn}{H0 H:Hp}{own:Addr->Option Nat}{σ:L2.St}{i:Nat}{k:Kd}{v:V}{d:D}(r:Rp (okB p H0 own k) H v d)(h:σ[i]?=some (some v)):eY p H0 own σ H i (p8 k d):=by
 cases k with
 |imm=>exact⟨v,h,r⟩
 |new=>exact⟨v,h,r⟩
 |reg q=>exact⟨v,h,r⟩
 |n0=>trivial
 |snw=>exact⟨v,h,r⟩
 |shr=>exact⟨v,h,r⟩
 |wk=>trivial
def jO{i:Nat}{x:Str}(h:PG X (.Name x pos) (qJ i)):PDG X (.Name x pos) (gNm i):=PG.wk h (by
 rintro v σ H Q ⟨p,H0,own,ρ,k,d,P,E,r,t,q⟩
 exact q _ _ (E.set λhl=>wR (gK r) (ö hl)) t)
def yP:DGs:=λ_ ds ρ P=>match ds with
 |[]=>P ρ
 |_=>False
def o9(g:DG)(gs:DGs):DGs:=λk ds ρ P=>match ds with
 |d::r=>g (norm k d) d ρ λρ'=>gs k r ρ' P
 |[]=>False
def cG:PGs X [] (iM yP):=PGs.wk Ba (by
 rintro v σ H Q ⟨p,H0,own,ρ,k,ds,P,E,r,t,q⟩
 cases ds with
 |nil=>cases r;exact⟨rfl,q _ _ E t⟩
 |cons d ds=>exact t.elim)
def lG{g:DG}{gs:DGs}(h1:PDG X e g)(h2:PGs X es (iM gs))(hs:(assignEach (e::es) X.env).map (·.2)=assign e X.env::(assignEach es X.env).map (·.2):=by rfl):PGs X (e::es) (iM (o9 g gs)):=PGs.wk (xO h1 h2 hs) (by
 rintro v σ H Q ⟨p,H0,own,ρ,k,ds,P,E,r,t,q⟩
 cases r with
 |nil=>exact t.elim
 |cons r rs =>
  exact⟨_,_,rfl,p,H0,own,ρ,_,_,_,E,gK r,t,λσ' ρ' E' t'=>⟨p,H0,own,ρ',k,_,P,E',rs,t',q⟩⟩)
def gTp(n:Nat)(gs:DGs):DG:=λk d ρ P=>match d with
 |.tuple ds=>ds.length=n/\gs k ds ρ P
 |_=>False
def gA{gs:DGs}{k n:Nat}(hc:X.calm=true)(h:PGs X es (iM gs))(hn:(assignEach es X.env).length=n:=by rfl)(hst:(assignEach es X.env).findIdx? (·.1)=none:=by rfl):PDG X (.Tuple es k pos) (gTp n gs):=PG.wk (Du hc h hn hst) (by
 rintro v σ H Q ⟨p,H0,own,ρ,k,d,P,E,r,t,q⟩
 cases d with
 |tuple ds =>
  obtain⟨a,vs,rfl,ha,rs⟩:=r.bK
  exact⟨a,vs,rfl,SqT.of ha,by rw[rs.length];exact t.1,p,H0,own,ρ,k,ds,P,E,rs,t.2,q⟩
 |_=>exact t.elim)
end
structure Wlk(Ok:Hp->Prop)(J:It)(ds:List D)(ok:Addr->Prop):Prop where
 go:∀i H,Ok H->i<ds.length->J.go i H
 stop:∀H,Ok H->J.stop ds.length H
 yld:∀i H x H',Ok H->J.yld i H x H'->Same H H'/\∀d,ds[i]?=some d->Rp ok H' x d
 stab:∀H H',Ok H->(∀b o,ok b->H b=some o->H' b=some o)->(∀a xs,H a=some (.tup xs)->H' a=some (.tup xs))->Ok H'
abbrev DI:=List Sl->(Kd->List D->Prop)->Prop
def okA(p:Pn)(H0:Hp)(own:Addr->Option Nat)(Hb:Hp)(k:Kd)(H:Hp)(a:Addr):Prop:=okK p H0 own Hb k a/\∃o,H a=some o
def Cz(t:DI):TI:=λσ H R=>∃p H0 own ρ P,EnvD p H0 own σ H ρ/\t ρ P/\∀k ds J H1 Ok,P k ds->At p H0 own H H1->Wlk Ok J ds (okA p H0 own H k H1)->Ok H1->R J H1
abbrev PDI(X:Cx)(tg e:Expr)(t:DI):Prop:=PI X tg e (Cz t)
def PI.wk{X:Cx}{tg e:Expr}{t t':TI}(h:PI X tg e t)(w:∀σ H R,t' σ H R->t σ H R):PI X tg e t':=λpins s σ H R I q=>h pins s σ H R I (w σ H R q)
section
variable {X:Cx}{tg l:Expr}{tl:DE}{pos:Pos}{ta:DA}
def wC{K:Í}{ok:Addr->Prop}{a:Addr}{ds:List D}:Wlk (λH=>Rp ok H (.ref a) (.list ds)) (Itl K a) ds ok where
 go:=λi H r hi=>by
  obtain⟨b,vs,e,o,h,rs⟩:=r.bB
  cases e
  have:i<vs.length:=by rw[rs.length];exact hi
  exact⟨vs,vs[i],SqL.of h,by simp[this]⟩
 stop:=λH r=>by
  obtain⟨b,vs,e,o,h,rs⟩:=r.bB
  cases e
  exact⟨vs,SqL.of h,by rw[rs.length];exact Æ _⟩
 yld:=λi H x H' r y=>by
  obtain⟨rfl,y⟩:=y
  obtain⟨b,vs,e,o,h,rs⟩:=r.bB
  cases e
  refine⟨Same.refl _,λd hd=>?_⟩
  obtain⟨v,hv,rv⟩:=rs.getD hd
  have:=y vs (SqL.of h)
  rw[hv] at this
  cases this
  exact rv
 stab:=λH H' r f t=>r.aW (λa o n e=>⟨n,f a o n e⟩) t
def wA{K:Í}{ok:Addr->Prop}{a:Addr}{ds:List D}:Wlk (λH=>Rp ok H (.ref a) (.tuple ds)) (Itt K a) ds ok where
 go:=λi H r hi=>by
  obtain⟨b,vs,e,h,rs⟩:=r.bK
  cases e
  have:i<vs.length:=by rw[rs.length];exact hi
  exact⟨vs,vs[i],SqT.of h,by simp[this]⟩
 stop:=λH r=>by
  obtain⟨b,vs,e,h,rs⟩:=r.bK
  cases e
  exact⟨vs,SqT.of h,by rw[rs.length];exact Æ _⟩
 yld:=λi H x H' r y=>by
  obtain⟨rfl,y⟩:=y
  obtain⟨b,vs,e,h,rs⟩:=r.bK
  cases e
  refine⟨Same.refl _,λd hd=>?_⟩
  obtain⟨v,hv,rv⟩:=rs.getD hd
  have:=y vs (SqT.of h)
  rw[hv] at this
  cases this
  exact rv
 stab:=λH H' r f t=>r.aW (λa o n e=>⟨n,f a o n e⟩) t
def wB{ok:Addr->Prop}{lo:Int}{n:Nat}:Wlk (λ_=>True) (Itr lo n) ((ã n).map λi=>Þ (lo+((i:Nat):Int))) ok where
 go:=λi H r hi=>by
  have h:i<n:=by simpa using hi
  exact h
 stop:=λH r=>by show n<=_;simp
 yld:=λi H x H' r y=>by
  obtain⟨rfl,rfl⟩:=y
  refine⟨Same.refl _,λd hd=>?_⟩
  rw[Ú] at hd
  cases h:(ã n)[i]? with
  |none=>rw[h] at hd;cases hd
  |some j =>
   rw[h] at hd
   have e:=Ì hd
   have hj:j=i:=by
    have:=Ñ.mp h
    obtain⟨h1,h2⟩:=this
    simpa using h2.symm
   subst e hj
   exact .int _
 stab:=λ_ _ _ _ _=>trivial
def rpA{p:Pn}{H0 Hb H:Hp}{own:Addr->Option Nat}{k:Kd}{v:V}{d:D}(r:Rp (okK p H0 own Hb k) H v d):Rp (okA p H0 own Hb k H) H v d:=r.aW (λa o n e=>⟨⟨n,o,e⟩,e⟩) λ_ _ e=>e
def iSq(tl:DE):DI:=λρ P=>tl ρ λk d=>match d with
 |.list ds=>P k ds
 |.tuple ds=>P k ds
 |_=>False
def sO(hl:PD X l tl):PDI X tg l (iSq tl):=PI.wk (Dt hl) (by
 rintro σ H R ⟨p,H0,own,ρ,P,E,t,q⟩
 refine⟨p,H0,own,ρ,_,E,t,λk d v H1 h A r=>?_⟩
 cases d with
 |list ds =>
  obtain⟨a,vs,rfl,o,ha,rs⟩:=r.bB
  exact⟨a,rfl,.inl ⟨⟨vs,SqL.of ha⟩,q k ds _ H1 _ h A wC (rpA r)⟩⟩
 |tuple ds =>
  obtain⟨a,vs,rfl,ha,rs⟩:=r.bK
  exact⟨a,rfl,.inr ⟨⟨vs,SqT.of ha⟩,q k ds _ H1 _ h A wA (rpA r)⟩⟩
 |_=>exact h.elim)
def qH(lo:Int)(n:Nat):List D:=(ã n).map λi=>Þ (lo+((i:Nat):Int))
def iR1(ta:DA):DI:=λρ P=>ta ρ λks=>match ks with
 |[(_,.int j)]=>(-(2 ^ 62)<=j/\j<2 ^ 62)/\P .imm (qH 0 j.toNat)
 |_=>False
def cO{a:Expr}{ps:Pos}(hm:X.mg "range"=none)(ha:PDA X [a] ta)(hg:Gl X "range":=by rfl)(hs:starEach [a] X.env=[(false,eval a X.env)]:=by rfl):PDI X tg (.Call (.Name "range" ps) [a] [] pos) (iR1 ta):=PI.wk (uU hg hm ha hs) (by
 rintro σ H R ⟨p,H0,own,ρ,P,E,t,q⟩
 refine⟨p,H0,own,ρ,_,E,t,λks vs H1 h A r=>?_⟩
 split at h
 ·rename_i k j
  obtain⟨v,rfl,r'⟩:=bY r
  exact⟨j,by rw[r'.int'],h.1.1,h.1.2,q _ _ _ H1 _ h.2 A wB trivial⟩
 ·exact h.elim)
def iy(ds:List D):List D:=ds.zipIdx.map λx=>ć [.int ((x.2:Nat):Int),x.1]
def iU{ds:List D}{i:Nat}:(iy ds)[i]?=(ds[i]?).map λd=>ć [.int ((i:Nat):Int),d]:=by
 unfold iy
 rw[Ú,List.getElem?_zipIdx]
 cases ds[i]? with
 |none=>rfl
 |some d=>simp
def fK{ds:List D}:(iy ds).length=ds.length:=by unfold iy;simp
def uJ{K:Í}{ok:Addr->Prop}{a:Addr}{ds:List D}:Wlk (λH=>Rp ok H (.ref a) (.tuple ds)) (Ite K a) (iy ds) ok where
 go:=λi H r hi=>by
  obtain⟨b,vs,e,h,rs⟩:=r.bK
  cases e
  have:i<vs.length:=by rw[rs.length];rw[fK] at hi;exact hi
  exact⟨vs,vs[i],SqT.of h,by simp[this]⟩
 stop:=λH r=>by
  obtain⟨b,vs,e,h,rs⟩:=r.bK
  cases e
  exact⟨vs,SqT.of h,by rw[rs.length,fK];exact Æ _⟩
 yld:=λi H x H' r y=>by
  obtain⟨t,v,rfl,ht,rfl,y⟩:=y
  have sm:Same H (upd H t (.tup [.int i,v])):=λb u q=>by rw[aj (ak q ht)];exact q
  refine⟨sm,λd hd=>?_⟩
  obtain⟨b,vs,e,h,rs⟩:=r.bK
  cases e
  rw[iU] at hd
  cases he:ds[i]? with
  |none=>rw[he] at hd;cases hd
  |some d0 =>
   rw[he] at hd
   have e:=Ì hd
   subst e
   obtain⟨v',hv,rv⟩:=rs.getD he
   have:=y vs (SqT.of h)
   rw[hv] at this
   cases this
   exact .tup ao (.cons (.int _) (.cons (rv.mono (λ_ o=>o) (λa o _ e=>sm a o e) λa xs e=>sm a _ e) .nil))
 stab:=λH H' r f t=>r.aW (λa o n e=>⟨n,f a o n e⟩) t
end
variable [Gr]
def elK:Kd->Kd
 |.new=>.snw
 |k=>k
section
variable {X:Cx}{tg iter:Expr}{pos:Pos}{body:List Stmt}{ti:DI}{g:DG}{tb:DS}
def Ia(ti:DI)(g:DG)(tb:DS):DS:=λP ρ=>ti ρ λk ds=>k.le .shr=true/\∃Iv:Nat->List Sl->Prop,Iv 0 ρ /\
 (∀i d ρ',ds[i]?=some d->Iv i ρ'->g (norm (elK k) d) d ρ' λρ2=>tb { nx:=Iv (i+1),ct:=Iv (i+1),bk:=P.nx,rt:=P.rt } ρ2)/\∀ρ',Iv ds.length ρ'->P.nx ρ'
def Hj{p:Pn}{H0 Hb H1 H':Hp}{own own':Addr->Option Nat}{k:Kd}(hk:k.le .shr=true)(A:At p H0 own Hb H1)(F:FrS p own H1 own' H'){v:V}{d:D}{H2:Hp}(r:Rp (okA p H0 own Hb k H1) H2 v d):Rp (okB p H0 own' (elK k)) H2 v d:=by
 refine r.mono (λa n=>?_) (λ_ _ _ e=>e) λ_ _ e=>e
 obtain⟨o,u,hu⟩:=n
 have o2:¬p.fp a/\own a=none:=bN A (k:=.shr) hk o
 have f:=(F.keep a u hu o2.1 o2.2).2
 cases k with
 |imm=>exact o
 |new=>exact⟨A.h0 o,o2.1,f⟩
 |reg q=>cases hk
 |n0=>cases hk
 |snw=>exact⟨o.1,o2.1,f⟩
 |shr=>exact⟨o2.1,f⟩
 |wk=>cases hk
def gw(hp:PassesOwn (model X.prog X.w) X.A X.env X.xe)(hc:X.calm=true)(hi:PDI X tg iter ti)(hg:PDG X tg g)(hb:jx X body tb)(hs:zF X iter:=by intro _;rfl):PDS X (.For tg iter body [] pos) (Ia ti g tb):=PS.wk' (Ds hp hc hi hg hb hs) (by
 rintro Q σ H ⟨p,H0,own,ρ,P,E,t,w⟩
 refine⟨p,H0,own,ρ,_,E,t,λk ds J H1 Ok h A W o1=>?_⟩
 obtain⟨hk,Iv,i0,step,done⟩:=h
 have w1:=w.go A.frs
 have okS:∀own' H',FrS p own H1 own' H'->Ok H':=λown' H' F=>W.stab H1 H' o1 (λb o n e=>by
  have o2:¬p.fp b/\own b=none:=bN A (k:=.shr) hk n.1
  exact(F.keep b o e o2.1 o2.2).1) F.tup
 refine⟨λi m σ' H'=>m=ds.length - i/\i<=ds.length/\∃own' ρ',EnvD p H0 own' σ' H' ρ'/\FrS p own H1 own' H'/\Iv i ρ',⟨_,rfl,Ģ _,own,ρ,E.go A.kp A.pen,FrS.refl,i0⟩,?_⟩
 rintro i m σ' H' ⟨rfl,hi,own',ρ',E',F',iv⟩
 have oH:=okS own' H' F'
 by_cases hlt:i<ds.length
 ·refine .inr ⟨W.go i H' oH hlt,λσ2 H2=>∃own' ρ',EnvD p H0 own' σ2 H2 ρ'/\FrS p own H1 own' H2/\Iv (i+1) ρ',λσ2 H2 h=>⟨_,by omega,rfl,hlt,h⟩,λx H2 y=>?_⟩
  obtain⟨sm,rx⟩:=W.yld i H' x H2 oH y
  have rx:=rx ds[i] (Ý hlt)
  have E2:EnvD p H0 own' σ' H2 ρ':=E'.go (Kp.of sm) (p.mono H' H2 E'.pen λb o _ e=>sm b o e)
  have F2:FrS p own H1 own' H2:=⟨λb o e n z=>let ⟨x,y⟩:=F'.keep b o e n z;⟨sm b o x,y⟩,λa xs e=>sm a _ (F'.tup a xs e)⟩
  refine⟨p,H0,own',ρ',_,_,_,E2,gK (Hj hk A F2 rx),step i ds[i] ρ' (Ý hlt) iv,λσ3 ρ3 E3 t3=>?_⟩
  have nxt:∀own4 σ4 H4 ρ4,EnvD p H0 own4 σ4 H4 ρ4->FrS p own' H2 own4 H4->Iv (i+1) ρ4->∃own' ρ',EnvD p H0 own' σ4 H4 ρ'/\FrS p own H1 own' H4/\Iv (i+1) ρ':=λown4 σ4 H4 ρ4 E4 F4 v4=>⟨own4,ρ4,E4,F2.trans F4,v4⟩
  exact⟨p,H0,own',ρ3,_,E3,t3,⟨nxt,w.rt,λo s h r e f n=>w1.nx o s h r e (F2.trans f) n,nxt⟩⟩
 ·have e:i=ds.length:=by omega
  subst e
  exact .inl ⟨W.stop H' oH,w1.nx own' σ' H' ρ' E' F' (done ρ' iv)⟩)
end
def EnvD.comp{p:Pn}{H0 H:Hp}{own:Addr->Option Nat}{σ:L2.St}{ρ:List Sl}(n:Nat)(E:EnvD p H0 own σ H ρ):EnvD p H0 own (È n none++σ) H (È n .any++ρ):=by
 refine⟨E.k0,E.pen,E.ow,λj s e=>?_,by simp[E.len],E.gr⟩
 by_cases hj:j<n
 ·rw[Đ (by simpa using hj)] at e
  have:s=.any:=by
   rw[į] at e
   rw[if_pos hj] at e
   exact(Ì e).symm
  subst this
  trivial
 ·have e1:(È n Sl.any++ρ)[j]?=ρ[j - n]?:=by rw[î (by simpa using hj)];simp
  have e2:(È n (none:Option V)++σ)[j]?=σ[j - n]?:=by rw[î (by simpa using hj)];simp
  rw[e1] at e
  have q:=E.slot _ s e
  cases s <;> simp only[eY,e2] at q ⊢ <;> exact q
abbrev FZ(X:Cx)(es:List Expr)(t:DT):Prop:=PTs X es (liftT t)
def pG{X:Cx}:FZ X [] (λ_ P=>P true):=λpins s σ H Q I h=>by
 obtain⟨p,H0,own,ρ,P,E,t,q⟩:=h
 exact Ar pins s σ H Q I (q true H t E.at)
def elC(k:Kd):Kd:=elK k
def dLC(n:Nat)(ti:DI)(g:DG)(tt:DT)(te:DE):DE:=λρ P=>ti ρ λk ds=>ds.length<=1000/\∃(ke:Kd) (Iv:Nat->List D->Prop),Iv 0 [] /\
 (∀i d ys,ds[i]?=some d->Iv i ys->g (norm (elC k) d) d (È n .any++ρ) λρ'=>tt ρ' λb=>if b=true then te ρ' λk' d'=>(norm k' d').le ke=true/\Iv (i+1) (ys++[d']) else Iv (i+1) ys) /\
 ∀ys,Iv ds.length ys->P (ke.join .new) (.list ys)
def Hi{p:Pn}{H0 Hb H1:Hp}{own:Addr->Option Nat}{k:Kd}(A:At p H0 own Hb H1){v:V}{d:D}{H2:Hp}(r:Rp (okA p H0 own Hb k H1) H2 v d):Rp (okB p H0 own (elC k)) H2 v d:=by
 refine r.mono (λa n=>?_) (λ_ _ _ e=>e) λ_ _ e=>e
 obtain⟨o,u,hu⟩:=n
 cases k with
 |imm=>exact o
 |new=>exact⟨A.h0 o,A.nfb o,A.Ec o⟩
 |reg q=>exact o
 |n0=>trivial
 |snw=>exact o
 |shr=>exact o
 |wk=>trivial
section
variable {X:Cx}{own:List Str}{scope:Scope}{tg iter elt:Expr}{ifs:List Expr}{pos:Pos}{ti:DI}{g:DG}{tt:DT}{te:DE}
def Bs{n:Nat}:∀σ H Q,aZ (dLC n ti g tt te) σ H Q->tLC n (Cz ti) (λ_=>CG g) (λ_=>liftT tt) (λ_=>aZ te) σ H Q:=by
 rintro σ H Q ⟨p,H0,own,ρ,P,E,t,q⟩
 refine⟨p,H0,own,ρ,_,E,t,λk ds J H1 Ok h A W o1=>?_⟩
 obtain⟨hlen,ke,Iv,i0,step,done⟩:=h
 have okS:∀H',Kp p H1 H'->p.PI H'->Ok H':=λH' K i=>W.stab H1 H' o1 (λb o n e=>K b o e (jJ A n.1)) (gn A K)
 refine⟨λi m ys H'=>m=ds.length - i/\i<=ds.length/\Kp p H1 H'/\p.PI H'/\∃es,Rps (okK p H0 own H ke) H' ys es/\es.length<=i/\Iv i es,⟨_,rfl,Ģ _,Kp.refl,A.pen,[],.nil,Æ _,i0⟩,?_⟩
 rintro c i m ys H' ⟨rfl,hi,K',I',es,rs,hl,iv⟩
 have oH:=okS H' K' I'
 have A':=A.go K' I'
 have h24:=ä
 by_cases hlt:i<ds.length
 ·refine .inr ⟨W.go i H' oH hlt,by have:=rs.length;omega,λys' H2=>Kp p H1 H2/\p.PI H2/\∃es,Rps (okK p H0 own H ke) H2 ys' es/\es.length<=i+1/\Iv (i+1) es,λys' H2 h=>⟨_,by omega,rfl,hlt,h⟩,λx H2 y=>?_⟩
  obtain⟨sm,rx⟩:=W.yld i H' x H2 oH y
  have rx:=rx ds[i] (Ý hlt)
  have I2:p.PI H2:=p.mono H' H2 I' λb o _ e=>sm b o e
  have K2:Kp p H1 H2:=K'.trans (Kp.of sm)
  have A2:=A.go K2 I2
  have E2:EnvD p H0 own σ H2 ρ:=E.go A2.kp A2.pen
  have rs2:=bF A' (Kp.of sm) rs
  refine⟨p,H0,own,_,_,_,_,E2.comp n,gK (Hi A rx),step i ds[i] es (Ý hlt) iv,λσ3 ρ3 E3 t3=>?_⟩
  refine⟨p,H0,own,ρ3,_,E3,t3,λb H4 h4 A4=>?_⟩
  have A5:At p H0 own H H4:=A2.base A4
  have rs4:=bF A2 A4.kp rs2
  cases b with
  |true =>
   refine aU ⟨p,H0,own,ρ3,_,E3.go A4.kp A4.pen,by simpa using h4,λk' d' v H6 h6 A6 r6=>?_⟩
   refine⟨(K2.trans A4.kp).trans A6.kp,A6.pen,es++[d'],(bF A5 A6.kp rs4).snoc (dN (A5.base A6) h6.1 (aL (fC A5 r6))),by simp;omega,h6.2⟩
  |false=>exact aC ⟨K2.trans A4.kp,A4.pen,es,rs4,by omega,by simpa using h4⟩
 ·have e:i=ds.length:=by omega
  subst e
  refine .inl ⟨W.stop H' oH,λl hl'=>?_⟩
  obtain⟨k7,i7,nw⟩:=A'.new hl' (.lst ys)
  have j:=bL ke .new
  refine q _ _ _ _ (done es iv) (A'.go k7 i7) (.lst (bN A' j.2 nw) ao ?_)
  exact(bF A' k7 rs).mono (λa o=>bN A' j.1 o) (λ_ _ _ e=>e) λ_ _ e=>e
def xX(own:List Str)(hc:X.calm=true)(hi:PDI X tg iter ti)(hg:∀c,PDG (X.comp own scope c) tg g)(ht:∀c,FZ (X.comp own scope c) ifs tt)(he:∀c,PD (X.comp own scope c) elt te)(hk:gB X.env scope X.N=true:=by rfl)(hs:zF X iter:=by intro _;rfl) :
  PD X (.ListComp elt [⟨tg,iter,ifs,0⟩] scope pos) (dLC own.length ti g tt te):=PE.wk (G3 own hc hi hg ht he hk hs) Bs
end
def cI(d:D):Sl:=if eG d then .im d else .sh d
def nj{p:Pn}{H:Hp}{N:List Str}{vs:List V}{ds:List D}(g:Gr.G p H)(hp:p.PI H)(r:Rps (λa=>¬p.fp a) H vs ds):EnvD p H (λ_=>none) (L2.start N vs) H (ds.map cI++È (N.length - vs.length) .any):=by
 refine⟨λ_ _ e _=>e,hp,(λ_ _ e=>nomatch e),λj s e=>?_,by unfold L2.start;simp[r.length],g⟩
 by_cases hj:j<ds.length
 ·rw[Đ (by simpa using hj),Ú] at e
  obtain⟨v,hv,rv⟩:=r.getD (Ý hj)
  rw[Ý hj] at e
  have e:=Ì e
  have hs:(L2.start N vs)[j]?=some (some v):=by
   unfold L2.start
   rw[Đ (by rw[Ã,r.length];exact hj),Ú,hv]
   rfl
  subst e
  unfold cI
  by_cases hi:eG ds[j]=true
  ·rw[if_pos hi];exact⟨v,hs,rv.imm hi⟩
  ·rw[if_neg hi];exact⟨v,hs,rv.mono (λ_ o=>⟨o,rfl⟩) (λ_ _ _ e=>e) λ_ _ e=>e⟩
 ·rw[î (by simpa using hj),į] at e
  split at e
  ·cases e;trivial
  ·cases e
def sH{f:List D->(D->Prop)->Prop}{T:DS}{N:List Str}{vs:List V}{H:Hp}{Q:VK}{E:XK}(h:spD f vs H Q E)(body:∀ds P,f ds P->T { nx:=λ_=>P .none,rt:=P } (ds.map cI++È (N.length - ds.length) .any))(g:Gr.G jg H:=by trivial):g8 T { nx:=λ_ H'=>Q .non H',rt:=Q } (L2.start N vs) H:=by
 obtain⟨ds,P,r,t,q⟩:=h
 have E:=nj (p:=jg) (N:=N) g trivial (r.mono (ok':=λa=>¬jg.fp a) (λ_ _ z=>z) (λ_ _ _ e=>e) λ_ _ e=>e)
 rw[r.length] at E
 have sm:∀H',(∀b o,H b=some o->¬jg.fp b->H' b=some o)->Same H H':=λH' k b o e=>k b o e λz=>z
 refine⟨jg,H,λ_=>none,_,_,E,body ds P t,⟨λo s h' r' e' _ n=>q _ _ h' n (sm h' e'.k0) .non,λd v h' n w=>q d v h' n (sm h' w.k0) (w.rp.mono (λ_ o=>o.1) (λ_ _ _ e=>e) λ_ _ e=>e),λ_ _ _ _ _ _ n=>n.elim,λ_ _ _ _ _ _ n=>n.elim⟩⟩
def Fx{C:Pn->Prop}{f:List D->(D->Prop)->Prop}{T:DS}{N:List Str}{vs:List V}{H:Hp}{Q:VK}{E:XK}(h:spP C f vs H Q E)(body:∀ds P,f ds P->T { nx:=λ_=>P .none,rt:=P } (.pen C::(ds.map cI++È (N.length - (ds.length+1)) .any)))(g:∀p,Gr.G p H:=by intro _;trivial):g8 T { nx:=λ_ H'=>Q .non H',rt:=Q } (L2.start N vs) H:=by
 obtain⟨p,vs',ds,P,c,rfl,pi,r,t,q⟩:=h
 have E0:=nj (p:=p) (N:=N.drop 1) (g p) pi r
 have E:EnvD p H (λ_=>none) (L2.start N (p.pv::vs')) H (.pen C::(ds.map cI++È (N.length - (ds.length+1)) .any)):=by
  refine⟨λ_ _ e _=>e,pi,(λ_ _ e=>nomatch e),λj s e=>?_,by unfold L2.start;simp[r.length],g p⟩
  cases j with
  |zero =>
   have e:=Ì e
   subst e
   exact⟨rfl,c⟩
  |succ j =>
   rw[Ę] at e
   have hl:N.length - (ds.length+1)=(N.drop 1).length - vs'.length:=by rw[r.length,Ţ];omega
   rw[hl] at e
   have q:=E0.slot j s e
   have es:(L2.start N (p.pv::vs'))[j+1]?=(L2.start (N.drop 1) vs')[j]?:=by
    unfold L2.start
    have:N.length - (p.pv::vs').length=(N.drop 1).length - vs'.length:=by rw[Ţ,Ó];omega
    rw[this]
    simp
   cases s <;> simp only[eY,es] at q ⊢ <;> exact q
 have nw:∀{H' v d},RPost p H H' v d->Rp (λa=>H a=none) H' v d:=λw=>w.rp.mono (λ_ o=>o.1) (λ_ _ _ e=>e) λ_ _ e=>e
 exact⟨p,H,λ_=>none,_,_,E,body ds P t,⟨λo s h' r' e' _ n=>q _ _ h' n e'.k0 e'.pen .non,λd v h' n w=>q d v h' n w.k0 w.pen (nw w),λ_ _ _ _ _ _ n=>n.elim,λ_ _ _ _ _ _ n=>n.elim⟩⟩
end Dl
namespace PySem
open PyProof.Rows
abbrev Gd(f0:Value)(q:Bool)(TI TO:Addr):Obj:={ cls:=.type "zip",data:=.fields #[f0,.bool q,.bool false,.ref TI,.ref TO] }
section
variable {prog:Program}{w:World}{A:Around}{E:Value->Shared->Prop}{s:Shared}
structure ZSt(z TI TO i1 i2 l1 l2:Addr)(xs ys:Array Value)(i:Nat)(h:Heap):Prop where
 zip:(i=0/\h.get? z=some (Gd .none false TI TO))\/∃(T:Addr) (q:Bool) (oT:Obj),h.get? z=some (Gd (rawInt T) q TI TO)/\h.get? T=some oT/\T≠z/\T≠i1/\T≠i2
 ti:h.get? TI=some { cls:=.type "tuple",data:=.seq #[.ref i1,.ref i2] }
 to:∃a b,h.get? TO=some { cls:=.type "tuple",data:=.seq #[a,b] }
 j1:h.IsListIter i1 l1 i
 j2:h.IsListIter i2 l2 i
 e1:h.IsList l1 xs
 e2:h.IsList l2 ys
variable {z TI TO i1 i2 l1 l2:Addr}{xs ys:Array Value}
end
section
variable {prog:Program}{w:World}{A:Around}{z TI TO i1 i2 l1 l2:Addr}{xs ys:Array Value}{R:Result->Shared->Prop}
end
end PySem
namespace L2
open PySem PySem.Spec PyProof.Rows
section
variable {X:Cx}{pins:List (Addr×Obj)}{σ:L2.St}{H:Hp}{s:Shared}
end
end L2
namespace Dl
open PySem L2 PyProof.Rows
variable [Gr]
section
variable {X:Cx}{pos:Pos}{a b c e:Expr}{es:List Expr}{ta tb tc te:DE}{t:DA}
def newP(k:Kd)(ds:List D)(P:Kd->Prop):Prop:=(cB ds=true/\P .new)\/P (k.join .new)
def jK{p:Pn}{H0 Hb H H2:Hp}{own:Addr->Option Nat}(A:At p H0 own Hb H){k:Kd}{vs:List V}{ds:List D}{P:Kd->Prop}{l:Addr}(r:Rps (okK p H0 own Hb k) H2 vs ds)(nw:okK p H0 own Hb .new l)(hl:H2 l=some (.lst vs))(h:newP k ds P):∃k',P k'/\Rp (okK p H0 own Hb k') H2 (.ref l) (.list ds):=by
 rcases h with ⟨i,h⟩|h
 ·exact⟨_,h,.lst nw hl ((Rps.imm r i).mono (λ_ o=>o.elim) (λ_ _ _ e=>e) λ_ _ e=>e)⟩
 ·exact⟨_,h,.lst (bN A (bL k .new).2 nw) hl (r.mono (λa o=>bN A (bL k .new).1 o) (λ_ _ _ e=>e) λ_ _ e=>e)⟩
def qI:∀l:List Int,cB (l.map Þ)=true
 |[]=>rfl
 |x::l=>by
  show(eG (.int x)&&cB (l.map Þ))=true
  rw[qI l]
  rfl
def cN:∀l:List Tie,cB (l.map pD)=true
 |[]=>rfl
 |x::l=>by
  show(eG (pD x)&&cB (l.map pD))=true
  rw[cN l]
  rfl
def prD(p:D×D):D:=.tuple [p.1,p.2]
def Jy:GC:=λks P=>match ks with
 |[(k1,.list ds),(k2,.list es)]=>ds.length<=1000/\newP (k1.join k2) ((ds.zip es).map prD) λk=>P k (.list ((ds.zip es).map prD))
 |_=>False
def tCh(f g:Int->Int->Bool)(ta tb tc:DE):DE:=λρ P=>ta ρ λ_ d1=>tb ρ λ_ d2=>match d1,d2 with
 |.int i,.int j=>if f i j=true then tc ρ λ_ d3=>(match d3 with
   |.int l=>P .imm (.bool (g j l))
   |_=>False) else P .imm (.bool false)
 |_,_=>False
def uf{f g:Int->Int->Bool}:∀σ H Q,aZ (tCh f g ta tb tc) σ H Q->jR (rI0 λi j=>.bl (f i j)) (rI0 λi j=>.bl (g i j)) (aZ ta) (aZ tb) (aZ tc) σ H Q:=by
 rintro σ H Q ⟨p,H0,own,ρ,P,E,t,q⟩
 refine⟨p,H0,own,ρ,_,E,t,λk1 d1 v1 H1 t1 A1 r1=>?_⟩
 refine⟨p,H0,own,ρ,_,E.go A1.kp A1.pen,t1,λk2 d2 v2 H2 t2 A2 r2=>?_⟩
 have A:=A1.base A2
 split at t2
 ·rename_i i j
  refine⟨i,j,r1.int',r2.int',_,rfl,?_⟩
  cases hf:f i j with
  |true =>
   rw[hf,if_pos rfl] at t2
   refine aU ⟨p,H0,own,ρ,_,(E.go A1.kp A1.pen).go A2.kp A2.pen,t2,λk3 d3 v3 H3 t3 A3 r3=>?_⟩
   cases d3 with
   |int l=>exact⟨j,l,r2.int',r3.int',q _ _ _ _ t3 (A.base A3) (.bl _)⟩
   |_=>exact t3.elim
  |false =>
   rw[hf,if_neg Ë] at t2
   exact aC (q _ _ _ _ t2 A (.bl _))
 ·exact t2.elim
def Bf(ha:PD X a ta)(hb:PD X b tb)(hc:PD X c tc)(hm:lastMarks [.LtE,.Lt] [b,c]=false:=by with_unfolding_all rfl):PD X (.Compare a [.LtE,.Lt] [b,c] pos) (tCh (λi j=>decide (i<=j)) (λi j=>decide (i<j)) ta tb tc):=PE.wk (xV qm Ck ha hb hc hm) uf
def fH{op op':CmpOp}{r r':R2}{g:DE}(h:PT X (.Compare a [op,op'] [b,c] pos) (wJ (jR r r' (aZ ta) (aZ tb) (aZ tc))))(w:∀σ H Q,aZ g σ H Q->jR r r' (aZ ta) (aZ tb) (aZ tc) σ H Q):PDT X (.Compare a [op,op'] [b,c] pos) (jl g) :=
 PT.wk h λσ H Q q=>w σ H _ (kY σ H Q q)
def Gn(ta:DE):DE:=λρ P=>ta ρ λ_ d=>match d with
 |.bool b=>P .imm (.bool (!b))
 |_=>False
def DY(ha:PD X a ta):PD X (.UnaryOp .Not a pos) (Gn ta):=PE.wk (DN ha) (by
 rintro σ H Q ⟨p,H0,own,ρ,P,E,t,q⟩
 refine⟨p,H0,own,ρ,_,E,t,λk d v H' h A r=>?_⟩
 cases d with
 |bool b=>exact⟨b,r.bl',q _ _ _ _ h A (.bl _)⟩
 |_=>exact h.elim)
def tD(ta tb:DE):DE:=λρ P=>ta ρ λ_ d=>match d with
 |.bool b=>if b=true then tb ρ P else P .imm (.bool false)
 |_=>False
def Gk(ta tb:DE):DE:=λρ P=>ta ρ λ_ d=>match d with
 |.bool b=>if b=true then P .imm (.bool true) else tb ρ P
 |_=>False
def cH{op}(h:PD X a ta):PD X (.BoolOp op [a] pos) ta:=Dz h
def kj{rest:List Expr}(ha:PD X a ta)(hb:PD X (.BoolOp .And (b::rest) pos) tb):PD X (.BoolOp .And (a::b::rest) pos) (tD ta tb):=PE.wk (DW ha hb) (by
 rintro σ H Q ⟨p,H0,own,ρ,P,E,t,q⟩
 refine⟨p,H0,own,ρ,_,E,t,λk d v H' h A r=>?_⟩
 cases d with
 |bool b =>
  refine⟨b,r.bl',?_⟩
  cases b with
  |true=>exact aU ⟨p,H0,own,ρ,P,E.go A.kp A.pen,by simpa using h,λk d v H2 h2 A2 r2=>q k d v H2 h2 (A.base A2) (fC A r2)⟩
  |false=>exact aC (q _ _ _ _ (by simpa using h) A (.bl _))
 |_=>exact h.elim)
def xW{rest:List Expr}(ha:PD X a ta)(hb:PD X (.BoolOp .Or (b::rest) pos) tb):PD X (.BoolOp .Or (a::b::rest) pos) (Gk ta tb):=PE.wk (GZ ha hb) (by
 rintro σ H Q ⟨p,H0,own,ρ,P,E,t,q⟩
 refine⟨p,H0,own,ρ,_,E,t,λk d v H' h A r=>?_⟩
 cases d with
 |bool b =>
  refine⟨b,r.bl',?_⟩
  cases b with
  |true=>exact aU (q _ _ _ _ (by simpa using h) A (.bl _))
  |false=>exact aC ⟨p,H0,own,ρ,P,E.go A.kp A.pen,by simpa using h,λk d v H2 h2 A2 r2=>q k d v H2 h2 (A.base A2) (fC A r2)⟩
 |_=>exact h.elim)
def Gu(tc:DT)(ta tb:DE):DE:=λρ P=>tc ρ λb=>if b=true then ta ρ P else tb ρ P
def j8{u:DT}(hc:PDT X c u)(ha:PD X a ta)(hb:PD X b tb):PD X (.IfExp c a b pos) (Gu u ta tb):=PE.wk (xU hc ha hb) (by
 rintro σ H Q ⟨p,H0,own,ρ,P,E,t,q⟩
 refine⟨p,H0,own,ρ,_,E,t,λb H' h A=>?_⟩
 have nx:∀k d v H2,P k d->At p H0 own H' H2->Rp (okK p H0 own H' k) H2 v d->Q v H2:=λk d v H2 h2 A2 r2=>q k d v H2 h2 (A.base A2) (fC A r2)
 cases b with
 |true=>exact aU ⟨p,H0,own,ρ,P,E.go A.kp A.pen,by simpa using h,nx⟩
 |false=>exact aC ⟨p,H0,own,ρ,P,E.go A.kp A.pen,by simpa using h,nx⟩)
def tyD:D->String
 |.none=>"NoneType"
 |.bool _=>"bool"
 |.int _=>"int"
 |.str _=>"str"
 |.list _=>"list"
 |.tuple _=>"tuple"
 |.dict _=>"dict"
def isT(c:String)(d:D):Bool:=tyD d == c || (c == "int"&&tyD d == "bool")
def tIs(c:String)(te:DE):DE:=λρ P=>te ρ λ_ d=>P .imm (.bool (isT c d))
def cL{T:String}{x:Str}{ps pt:Pos}(hk:∀t:Value,(t=.type "NoneType"\/t=.type "bool"\/t=.type "int"\/t=.type "str"\/t=.type "list"\/t=.type "tuple"\/t=.type "dict")->∃n,t=.type n/\ū X.K t (.type T)=some (n == T || (T == "int"&&n == "bool")))(hm:X.mg "isinstance"=none)(he:PD X e te)(hT:PE X (.Name x pt) (tC (.ty T)))(hg:Gl X "isinstance":=by rfl)(h1:starEach [e,.Name x pt] X.env=(false,eval e X.env)::starEach [.Name x pt] X.env:=by rfl)(h2:starEach [.Name x pt] X.env=(false,eval (.Name x pt) X.env)::starEach [] X.env:=by rfl)(hpl:(backTo pos (starEach [.Name x pt] X.env)).any (·.1)=false:=by rfl) :
  PD X (.Call (.Name "isinstance" ps) [e,.Name x pt] [] pos) (tIs T te):=PE.wk (bQ pQ hg hm boot_isinstance (aX he (aX hT bZ h2) h1) (by decide) (by decide) h1 hpl) (by
 rintro σ H Q ⟨p,H0,own,ρ,P,E,t,q⟩
 refine⟨p,H0,own,ρ,_,E,t,λk d v H' h A r=>?_⟩
 have fin:∀n,TyOf X.K H' v (.type n)->n=tyD d->∃x' c' t' b,[v,V.ty T]=[x',.ty c']/\TyOf X.K H' x' t'/\ū X.K t' (.type c')=some b/\Q (.bl b) H':=λn ty en=>by
  obtain⟨n',e,hk'⟩:=hk (.type n) (by rw[en];cases d <;> simp[tyD])
  cases e
  refine⟨v,T,.type n,_,rfl,ty,hk',?_⟩
  rw[en]
  exact q _ _ _ _ h A (.bl _)
 show ∃x' c' t' b,_/\_
 cases r with
 |non=>exact fin _ .non rfl
 |bl b=>exact fin _ (.bl b) rfl
 |int i=>exact fin _ (.int i) rfl
 |str x=>exact fin _ (.str x) rfl
 |lst o hh rr=>exact fin _ (.lst hh) rfl
 |tup hh rr=>exact fin _ (.tup hh) rfl
 |dct o hh rr=>exact fin _ (.dK hh) rfl)
def uh{K:Í}:∀t:Value,(t=.type "NoneType"\/t=.type "bool"\/t=.type "int"\/t=.type "str"\/t=.type "list"\/t=.type "tuple"\/t=.type "dict")->∃n,t=.type n/\ū K t (.type "int")=some (n == "int" || ("int" == "int"&&n == "bool")):=by
 rintro t (rfl|rfl|rfl|rfl|rfl|rfl|rfl) <;> exact⟨_,rfl,rfl⟩
def eE{K:Í}:∀t:Value,(t=.type "NoneType"\/t=.type "bool"\/t=.type "int"\/t=.type "str"\/t=.type "list"\/t=.type "tuple"\/t=.type "dict")->∃n,t=.type n/\ū K t (.type "bool")=some (n == "bool" || ("bool" == "int"&&n == "bool")):=by
 rintro t (rfl|rfl|rfl|rfl|rfl|rfl|rfl) <;> exact⟨_,rfl,rfl⟩
def qG{K:Í}:∀t:Value,(t=.type "NoneType"\/t=.type "bool"\/t=.type "int"\/t=.type "str"\/t=.type "list"\/t=.type "tuple"\/t=.type "dict")->∃n,t=.type n/\ū K t (.type "list")=some (n == "list" || ("list" == "int"&&n == "bool")):=by
 rintro t (rfl|rfl|rfl|rfl|rfl|rfl|rfl) <;> exact⟨_,rfl,rfl⟩
def kit_tuple{K:Í}:∀t:Value,(t=.type "NoneType"\/t=.type "bool"\/t=.type "int"\/t=.type "str"\/t=.type "list"\/t=.type "tuple"\/t=.type "dict")->∃n,t=.type n/\ū K t (.type "tuple")=some (n == "tuple" || ("tuple" == "int"&&n == "bool")):=by
 rintro t (rfl|rfl|rfl|rfl|rfl|rfl|rfl) <;> exact⟨_,rfl,rfl⟩
def oZ{K:Í}:∀t:Value,(t=.type "NoneType"\/t=.type "bool"\/t=.type "int"\/t=.type "str"\/t=.type "list"\/t=.type "tuple"\/t=.type "dict")->∃n,t=.type n/\ū K t (.type "str")=some (n == "str" || ("str" == "int"&&n == "bool")):=by
 rintro t (rfl|rfl|rfl|rfl|rfl|rfl|rfl) <;> exact⟨_,rfl,rfl⟩
def Fp:GC:=λks P=>match ks with
 |[(_,.list ds)]=>∃bs:List Bool,ds=bs.map PyData.bool/\P .imm (.bool (bs.all id))
 |_=>False
def Rps.bools{ok:Addr->Prop}{H:Hp}:∀{vs:List V}{bs:List Bool},Rps ok H vs (bs.map PyData.bool)->vs=bs.map V.bl
 |[],[],_=>rfl
 |_,b::bs,.cons h t=>by
  have e:=h.bl'
  subst e
  rw[Rps.bools t]
  rfl
def iJ{ps:Pos}(hc:X.calm=true)(hm:X.mg "all"=none)(hv:bootBuiltins "all"=some (.builtin "all"))(ha:PDA X [a] t)(hg:Gl X "all":=by rfl)(he:zS X a []:=by rfl)(hpl:zP X pos []:=by rfl):PD X (.Call (.Name "all" ps) [a] [] pos) (tCl Fp t) :=
 bT (v7 hc) (by
  intro p H0 own Hb H vs ks P Q A r t q
  unfold Fp at t
  split at t
  ·obtain⟨bs,rfl,t⟩:=t
   obtain⟨v,rfl,r'⟩:=bY r
   obtain⟨x,xs,e1,o1,h1,rs1⟩:=Rp.bB r'
   subst e1
   have e2:=Rps.bools rs1
   subst e2
   exact⟨x,bs,rfl,SqL.of h1,q _ _ _ _ t Kp.refl A.pen (.bl _)⟩
  ·exact t.elim) hg hm hv ha (by decide) (by decide) he hpl
def gMM(f:Int->Int->Int):GC:=λks P=>match ks with
 |[(_,.int i),(_,.int j)]=>P .imm (.int (f i j))
 |_=>False
def oG{ps:Pos}(hc:X.calm=true)(hm:X.mg "max"=none)(ha:PDA X [a,b] t)(hg:Gl X "max":=by rfl)(he:starEach [a,b] X.env=(false,eval a X.env)::starEach [b] X.env:=by rfl)(hpl:(backTo pos (starEach [b] X.env)).any (·.1)=false:=by rfl):PD X (.Call (.Name "max" ps) [a,b] [] pos) (tCl (gMM λi j=>if j > i then j else i) t) :=
 bT (vY hc) (by
  intro p H0 own Hb H vs ks P Q A r t q
  unfold gMM at t
  split at t
  ·rename_i k i k' j
   obtain⟨v,w,rfl,r1,r2⟩:=wX r
   rw[Rp.int' r1,Rp.int' r2]
   exact⟨i,j,rfl,q _ _ _ _ t Kp.refl A.pen (.int _)⟩
  ·exact t.elim) hg hm boot_max ha (by decide) (by decide) he hpl
def oE{ps:Pos}(hc:X.calm=true)(hm:X.mg "min"=none)(ha:PDA X [a,b] t)(hg:Gl X "min":=by rfl)(he:starEach [a,b] X.env=(false,eval a X.env)::starEach [b] X.env:=by rfl)(hpl:(backTo pos (starEach [b] X.env)).any (·.1)=false:=by rfl):PD X (.Call (.Name "min" ps) [a,b] [] pos) (tCl (gMM λi j=>if j<i then j else i) t) :=
 bT (vV hc) (by
  intro p H0 own Hb H vs ks P Q A r t q
  unfold gMM at t
  split at t
  ·rename_i k i k' j
   obtain⟨v,w,rfl,r1,r2⟩:=wX r
   rw[Rp.int' r1,Rp.int' r2]
   exact⟨i,j,rfl,q _ _ _ _ t Kp.refl A.pen (.int _)⟩
  ·exact t.elim) hg hm boot_min ha (by decide) (by decide) he hpl
def Jo:GC:=λks P=>match ks with
 |[(k,.list ds)]=>newP k ds λk'=>P k' (.list ds)
 |[(k,.tuple ds)]=>newP k ds λk'=>P k' (.list ds)
 |_=>False
def yR:GC:=λks P=>match ks with
 |[(k,.list ds)]=>P (norm k (.tuple ds)) (.tuple ds)
 |[(k,.tuple ds)]=>P (norm k (.tuple ds)) (.tuple ds)
 |_=>False
def cU{ps:Pos}(hm:X.mg "tuple"=none)(ha:PDA X [a] t)(hg:Gl X "tuple":=by rfl)(he:zS X a []:=by rfl)(hpl:zP X pos []:=by rfl):PD X (.Call (.Name "tuple" ps) [a] [] pos) (tCl yR t) :=
 gR mj (by
  intro p H0 own Hb H vs ks P Q A r t q
  unfold yR at t
  split at t
  ·rename_i k ds
   obtain⟨v,rfl,r'⟩:=bY r
   obtain⟨x,xs,e1,o1,h1,rs1⟩:=Rp.bB r'
   subst e1
   refine⟨x,xs,rfl,.inl ⟨SqL.of h1,λl hl=>?_⟩⟩
   obtain⟨k2,i2,nw⟩:=A.new hl (.tup xs)
   exact q _ _ _ _ t k2 i2 (aL (.tup ao (bF A k2 rs1)))
  ·rename_i k ds
   obtain⟨v,rfl,r'⟩:=bY r
   obtain⟨x,xs,e1,h1,rs1⟩:=Rp.bK r'
   subst e1
   exact⟨x,xs,rfl,.inr ⟨SqT.of h1,q _ _ _ _ t Kp.refl A.pen (aL r')⟩⟩
  ·exact t.elim) hg hm boot_tuple ha (by decide) (by decide) he hpl
def sE:GC:=λks P=>match ks with
 |[(_,d)]=>∃ts:List Tie,(d=.list (ts.map pD)\/d=.tuple (ts.map pD))/\ts.length<64/\(∀t∈ts,jy t)/\∀us:List Tie,us.Perm ts->us.Pairwise (λa b=>aA a<=aA b)->P .new (.list (us.map pD))
 |_=>False
def Rps.prs{ok:Addr->Prop}{H:Hp}:∀{vs:List V}{ts:List Tie},Rps ok H vs (ts.map pD)->Prs H vs ts
 |[],[],_=>.nil
 |_,t::ts,.cons h r=>by
  obtain⟨x,xs,e,hx,rs⟩:=Rp.bK h
  obtain⟨v1,v2,e2,q1,q2⟩:=Rps.two rs
  subst e e2
  rw[q1.int',q2.int'] at hx
  exact .cons ⟨x,rfl,hx⟩ (Rps.prs r)
def Prs.rps{ok:Addr->Prop}{H:Hp}:∀{vs:List V}{ts:List Tie},Prs H vs ts->Rps ok H vs (ts.map pD)
 |_,_,.nil=>.nil
 |_,_,.cons r t=>by
  obtain⟨x,e,hx⟩:=r
  subst e
  exact .cons (.tup hx (.cons (.int _) (.cons (.int _) .nil))) (Prs.rps t)
def cJ{ps:Pos}(hm:X.mg "sorted"=none)(ha:PDA X [a] t)(hg:Gl X "sorted":=by rfl)(he:zS X a []:=by rfl)(hpl:zP X pos []:=by rfl):PD X (.Call (.Name "sorted" ps) [a] [] pos) (tCl sE t) :=
 bT pN (by
  intro p H0 own Hb H vs ks P Q A r t q
  unfold sE at t
  split at t
  ·obtain⟨ts,hd,hl,hn,t⟩:=t
   obtain⟨v,rfl,r'⟩:=bY r
   have fin:∀l ws us,H l=none->Prs H ws us->us.Perm ts->us.Pairwise (λa b=>aA a<=aA b)->Q (.ref l) (upd H l (.lst ws)):=λl ws us hl' pr hp hs=>by
    obtain⟨k2,i2,nw⟩:=A.new hl' (.lst ws)
    exact q _ _ _ _ (t us hp hs) k2 i2 (.lst nw ao (bF A k2 (Prs.rps pr)))
   rcases hd with rfl|rfl
   ·obtain⟨x,xs,e1,o1,h1,rs1⟩:=Rp.bB r'
    subst e1
    exact⟨x,xs,ts,rfl,.inl (SqL.of h1),Rps.prs rs1,hn,.inl hl,fin⟩
   ·obtain⟨x,xs,e1,h1,rs1⟩:=Rp.bK r'
    subst e1
    exact⟨x,xs,ts,rfl,.inr (SqT.of h1),Rps.prs rs1,hn,.inl hl,fin⟩
  ·exact t.elim) hg hm boot_sorted ha (by decide) (by decide) he hpl
end
variable [Gr]
section
variable {X:Cx}{pins:List (Addr×Obj)}{σ:L2.St}{H:Hp}{s:Shared}{ok:Addr->Prop}
mutual
def Rp.reads(I:Inv X pins σ H s):∀{v:V}{d:D}{u:Value},Rp ok H v d->RelV v u->d.canLay0=true->∃as,Reads s.heap u d as
 |_,_,_,.non,r,_=>by cases r;exact⟨_,.none⟩
 |_,_,_,.bl b,r,_=>by cases r;exact⟨_,.bool b⟩
 |_,_,_,.int i,r,_=>by obtain⟨t,rfl⟩:=r;exact⟨_,.int i t⟩
 |_,_,_,.str x,r,_=>by obtain⟨t,rfl⟩:=r;exact⟨_,.str x t⟩
 |_,_,_,.lst o h rs,r,c=>by
  cases r
  obtain⟨its,rv,pl,_⟩:=I.list (SqL.of h)
  obtain⟨as,ra⟩:=Rps.reads I rs rv (by simpa[PyData.canLay0] using c)
  obtain⟨ob,ho,hc,n,hd⟩:=pl.isList
  exact⟨_,.list ho hc hd (by simpa using ra)⟩
 |_,_,_,.tup h rs,r,c=>by
  cases r
  obtain⟨its,rv,pl,_⟩:=I.tuple (SqT.of h)
  obtain⟨as,ra⟩:=Rps.reads I rs rv (by simpa[PyData.canLay0] using c)
  obtain⟨ob,ho,hc,n,hd⟩:=pl
  exact⟨_,.tuple ho hc hd (by simpa using ra)⟩
 |_,_,_,.dct o h rs,r,c=>by simp[PyData.canLay0] at c
def Rps.reads(I:Inv X pins σ H s):∀{v:List V}{d:List D}{u:List Value},Rps ok H v d->Vals v u->ĥ d=true->∃as,ReadsAll s.heap u d as
 |_,_,_,.nil,r,_=>by cases r;exact⟨[],.nil⟩
 |_,_,_,.cons h t,r,c=>by
  cases r with
  |cons a b =>
   simp only[ĥ,â] at c
   obtain⟨as,ra⟩:=Rp.reads I h a c.1
   obtain⟨bs,rb⟩:=Rps.reads I t b c.2
   exact⟨_,.cons ra rb⟩
end
end
def okD(d:D):Bool:=d.canLay0&&decide (d.depth<=60)
section
variable {X:Cx}{pos:Pos}{a b e:Expr}{ta tb te:DE}
def xu(K:Í)(neg:Bool):R2:=λx y H Q=>∃ok ok' d e,Rp ok H x d/\Rp ok' H y e/\okD d=true/\okD e=true/\Q (.bl (if neg then !(ź d e) else ź d e)) H
def Ej(hu:X.A.units+64<cLine):OpR X (compareOp .Eq) (xu X.K false):=by
 intro pins s σ H x y v u Q I rx ry h
 obtain⟨ok,ok',d,e,hd,he,cd,ce,q⟩:=h
 simp only[okD,â,decide_eq_true_eq] at cd ce
 obtain⟨as,ra⟩:=hd.reads I rx cd.1
 obtain⟨bs,rb⟩:=he.reads I ry ce.1
 exact SeqAt.compareEq_reads ra rb cd.1 ce.1 (by omega) ⟨.bl _,H,I,rfl,q⟩
def yg(hu:X.A.units+64<cLine):OpR X (compareOp .NotEq) (xu X.K true):=by
 intro pins s σ H x y v u Q I rx ry h
 obtain⟨ok,ok',d,e,hd,he,cd,ce,q⟩:=h
 simp only[okD,â,decide_eq_true_eq] at cd ce
 obtain⟨as,ra⟩:=hd.reads I rx cd.1
 obtain⟨bs,rb⟩:=he.reads I ry ce.1
 exact SeqAt.compareNe_reads ra rb cd.1 ce.1 (by omega) ⟨.bl _,H,I,rfl,q⟩
def Hy(neg:Bool):G2:=λ_ d1 _ d2 P=>okD d1=true/\okD d2=true/\P .imm (.bool (if neg then !(ź d1 d2) else ź d1 d2))
def Cr{K:Í}(neg:Bool):Ok2 (Hy neg) (xu K neg):=by
 intro p H0 own Hb H x y k1 d1 k2 d2 P Q A r1 r2 t q
 exact⟨_,_,d1,d2,r1,r2,t.1,t.2.1,q _ _ _ _ t.2.2 Kp.refl A.pen (.bl _)⟩
end
variable [Gr]
section
variable {X:Cx}{pos p2:Pos}{a b c e:Expr}{es:List Expr}{ta tb tc te:DE}{t:DA}{st:Stmt}
abbrev DO:=List Sl->(Option Int->Prop)->Prop
def kZ(t:DO):TO:=λσ H Q=>∃p H0 own ρ P,EnvD p H0 own σ H ρ/\t ρ P/\∀o H',P o->At p H0 own H H'->Q o H'
def PO.wk{e:Option Expr}{t t':TO}(h:PO X e t)(w:∀σ H Q,t' σ H Q->t σ H Q):PO X e t':=λpins s σ H Q I q=>h pins s σ H Q I (w σ H Q q)
def Cw:DO:=λ_ P=>P none
def Cv(te:DE):DO:=λρ P=>te ρ λ_ d=>match d with
 |.int i=>P (some i)
 |_=>False
def cY:PO X none (kZ Cw):=PO.wk Ax (by
 rintro σ H Q ⟨p,H0,own,ρ,P,E,t,q⟩
 exact q _ _ t E.at)
def cX(h:PD X e te):PO X (some e) (kZ (Cv te)):=PO.wk (Aw h) (by
 rintro σ H Q ⟨p,H0,own,ρ,P,E,t,q⟩
 refine⟨p,H0,own,ρ,_,E,t,λk d v H' h A r=>?_⟩
 cases d with
 |int i=>exact⟨i,r.int',q _ _ h A⟩
 |_=>exact h.elim)
def dI{α:Type}(ds:List α)(lo hi:Option Int):List α:=(ds.drop (HT.sIx ds.length 0 lo)).take (HT.sIx ds.length ds.length hi - HT.sIx ds.length 0 lo)
def Rps.cut{ok:Addr->Prop}{H:Hp}{vs:List V}{ds:List D}(r:Rps ok H vs ds)(lo hi:Option Int):Rps ok H (jw vs lo hi) (dI ds lo hi):=by
 unfold jw dI
 rw[r.length]
 exact(r.drop _).take _
def Jx(te:DE)(tl th:DO):DE:=λρ P=>te ρ λk d=>tl ρ λlo=>th ρ λhi=>match d with
 |.list ds=>newP k (dI ds lo hi) λk'=>P k' (.list (dI ds lo hi))
 |_=>False
def BJ:G2:=λk1 d1 k2 d2 P=>match d1,d2 with
 |.list ds,.list es=>ds.length+es.length<=1000/\newP (k1.join k2) (ds++es) λk=>P k (.list (ds++es))
 |_,_=>False
def Cu:Ok2 BJ GP:=by
 intro p H0 own Hb H x y k1 d1 k2 d2 P Q A r1 r2 t q
 unfold BJ at t
 split at t
 ·obtain⟨c1,xs,e1,o1,h1,rs1⟩:=r1.bB
  obtain⟨c2,ys,e2,o2,h2,rs2⟩:=r2.bB
  subst e1 e2
  have h24:=ä
  refine⟨c1,c2,xs,ys,rfl,rfl,h1,h2,by rw[rs1.length,rs2.length];omega,λl hl=>?_⟩
  obtain⟨k3,i3,nw⟩:=A.new hl (.lst (xs++ys))
  have j:=bL k1 k2
  have m:∀{k vs ds},k.le (k1.join k2)=true->Rps (okK p H0 own Hb k) H vs ds->Rps (okK p H0 own Hb (k1.join k2)) H vs ds:=λhk z=>z.mono (λa o=>bN A hk o) (λ_ _ _ e=>e) λ_ _ e=>e
  obtain⟨k',hk',rk'⟩:=jK A (bF A k3 ((m j.1 rs1).app (m j.2 rs2))) nw ao t.2
  exact q _ _ _ _ hk' k3 i3 rk'
 ·exact t.elim
def yZ:G2:=λk1 d1 k2 d2 P=>match d1,d2 with
 |.tuple ds,.tuple es=>ds.length+es.length<=1000/\P (norm (k1.join k2) (.tuple (ds++es))) (.tuple (ds++es))
 |_,_=>False
def En:Ok2 yZ Ci:=by
 intro p H0 own Hb H x y k1 d1 k2 d2 P Q A r1 r2 t q
 unfold yZ at t
 split at t
 ·obtain⟨c1,xs,e1,h1,rs1⟩:=r1.bK
  obtain⟨c2,ys,e2,h2,rs2⟩:=r2.bK
  subst e1 e2
  have h24:=ä
  refine⟨c1,c2,xs,ys,rfl,rfl,h1,h2,by rw[rs1.length,rs2.length];omega,λl H' sm hl=>?_⟩
  have K:Kp p H H':=Kp.of sm
  have j:=bL k1 k2
  have m:∀{k vs ds},k.le (k1.join k2)=true->Rps (okK p H0 own Hb k) H vs ds->Rps (okK p H0 own Hb (k1.join k2)) H vs ds:=λhk z=>z.mono (λa o=>bN A hk o) (λ_ _ _ e=>e) λ_ _ e=>e
  exact q _ _ _ _ t.2 K (p.mono H H' A.pen λb o _ e=>sm b o e) (aL (.tup hl (bF A K ((m j.1 rs1).app (m j.2 rs2)))))
 ·exact t.elim
def Jz(i:Nat)(te:DE):DS:=λP ρ=>match ρ[i]? with
 |some (.dw r (.list ds))=>te ρ λk d=>match d with
  |.list es=>(k.le .new || cB es)=true/\ds.length+es.length<=1000/\P.nx ((forget r ρ).set i (.dw r (.list (ds++es))))
  |_=>False
 |_=>False
def uc{te:DE}{ρ:List Sl}{R:Kd->D->Prop}(t:te ρ R):dH te mq ρ (λks=>∃k d,ks=[(k,d)]/\R k d):=by
 show te ρ λk d=>∃k' d',[((k,d):Kd×D)]=[(k',d')]/\R k' d'
 have e:(λk d=>∃k' d',[((k,d):Kd×D)]=[(k',d')]/\R k' d')=R:=by
  funext k d
  apply propext
  constructor
  ·rintro⟨k',d',e,h⟩
   cases e
   exact h
  ·exact λh=>⟨k,d,rfl,h⟩
 rw[e]
 exact t
def H9(i:Nat)(tj te:DE):DS:=λP ρ=>match ρ[i]? with
 |some (.dw r (.list ds))=>tj ρ λ_ dj=>te ρ λk d=>match dj with
  |.int j=>(norm k d).le .new=true/\0<=j/\j.toNat<=ds.length/\ds.length<1000/\P.nx ((forget r ρ).set i (.dw r (.list (ds.take j.toNat++d::ds.drop j.toNat))))
  |_=>False
 |_=>False
def vG{i:Nat}{tj:DE}(h:PS X st (wL (tBM X.K "list" tQ (lV i) (jh (dH tj (dH te mq)))))):PDS X st (H9 i tj te):=PS.wk' h (by
 rintro Q σ H ⟨p,H0,own,ρ,P,E,t,w⟩
 unfold H9 at t
 split at t
 ·rename_i r ds hr
  obtain⟨v,hv,x⟩:=E.slot i _ hr
  obtain⟨l,vs,rfl,hl,ho,rs⟩:=x.bB
  refine⟨.ref l,hv,.inl ⟨rfl,vs,SqL.of ho⟩,p,H0,own,ρ,λks=>∃k1 dj k d,ks=[(k1,dj),(k,d)]/\(match dj with
   |.int j=>(norm k d).le .new=true/\0<=j/\j.toNat<=ds.length/\ds.length<1000/\P.nx ((forget r ρ).set i (.dw r (.list (ds.take j.toNat++d::ds.drop j.toNat))))
   |_=>False),E,?_,?_⟩
  ·show tj ρ λk1 dj=>te ρ λk d=>∃k1' dj' k' d',[((k1,dj):Kd×D),(k,d)]=[(k1',dj'),(k',d')]/\_
   have e:∀(k1:Kd) (dj:D),(λk d=>∃k1' dj' k' d',[((k1,dj):Kd×D),(k,d)]=[(k1',dj'),(k',d')]/\(match dj' with
    |.int j=>(norm k' d').le .new=true/\0<=j/\j.toNat<=ds.length/\ds.length<1000/\P.nx ((forget r ρ).set i (.dw r (.list (ds.take j.toNat++d'::ds.drop j.toNat))))
    |_=>False))=λk d=>(match dj with
    |.int j=>(norm k d).le .new=true/\0<=j/\j.toNat<=ds.length/\ds.length<1000/\P.nx ((forget r ρ).set i (.dw r (.list (ds.take j.toNat++d::ds.drop j.toNat))))
    |_=>False):=λk1 dj=>by
    funext k d
    apply propext
    constructor
    ·rintro⟨k1',dj',k',d',e,h⟩
     cases e
     exact h
    ·exact λh=>⟨k1,dj,k,d,rfl,h⟩
   simp only[e]
   exact t
  ·rintro ks ws H1 ⟨k1,dj,k,d,rfl,hh⟩ A rk
   cases dj with
   |int j =>
    obtain⟨hk,h0,hj,hlen,hn⟩:=hh
    obtain⟨y1,y,rfl,ry1,ry⟩:=wX rk
    have ry:=dN A hk (aL ry)
    have e1:=Rp.int' ry1
    have h1:H1 l=some (.lst vs):=A.kp l _ ho (E.ow l r hl).2.1
    have h24:=ä
    have l1:=rs.length
    refine⟨l,vs,j.toNat,y,rfl,?_,h1,by omega,by omega,?_⟩
    ·rw[e1]
     have:((j.toNat:Nat):Int)=j:=by omega
     rw[this]
    obtain⟨E2,F2⟩:=E.wY (vs':=vs.take j.toNat++y::vs.drop j.toNat) (ds':=ds.take j.toNat++d::ds.drop j.toNat) A hv hl ho rs λH2 f g=>by
     have m:=nO f rs λd hd=>mH hd
     exact(m.take _).app (.cons (g ry) (m.drop _))
    exact w.nx _ σ _ _ E2 F2 hn
   |_=>exact hh.elim
 ·exact t.elim)
end
variable [Gr]
structure Cal(P:Program)(w:World)(K:Í)(mg:Str->Option Value)(base:Heap)(k:Nat)(x:Str)(ps:List Str)(sp:Sp):Prop where
 ex:∃f fd,FnOk P w K mg base CX0 k f fd ps sp/\Binds K fd ps []/\ŷ K (.ref f)=true/\mg x=some (.ref f)
section
variable {X:Cx}{k j:Nat}{x:Str}{ps:List Str}{e:Expr}{es:List Expr}{t:DA}{p pos pq:Pos}
def pcS{sp:Sp}{ta:TA}(C:Cal X.prog X.w X.K X.mg X.base k x ps sp)(hr:Room j X.A)(ha:PA X (e::es) ta)(hk:k<=j)(hg:Gl X x)(hdb:zB x)(he:zS X e es)(hpl:zP X pos es) :
  PE X (.Call (.Name x p) (e::es) [] pos) (pY sp [] E0 ta):=by
 obtain⟨f,fd,F,b,kp,m⟩:=C.ex
 exact Bd F (hr.mono hk) hg m kp b .nil G6 ha hdb he hpl
def dc{f:List D->(D->Prop)->Prop}(C:Cal X.prog X.w X.K X.mg X.base k x ps (spD f))(hr:Room j X.A)(ha:PDA X (e::es) t)(hk:k<=j:=by decide)(hg:Gl X x:=by rfl)(hdb:zB x:=by decide)(he:zS X e es:=by rfl)(hpl:zP X pos es:=by rfl) :
  PD X (.Call (.Name x p) (e::es) [] pos) (tFn f t):=PE.wk (pcS C hr ha hk hg hdb he hpl) Bt
def dcP{C:Pn->Prop}{i:Nat}{f:List D->(D->Prop)->Prop}{y:Str}{py:Pos}(CC:Cal X.prog X.w X.K X.mg X.base k x ps (spP C f))(hr:Room j X.A)(hi:PE X (.Name y py) (lV i))(ha:PDA X es t)(hk:k<=j:=by decide)(hg:Gl X x:=by rfl)(hdb:zB x:=by decide)(he:starEach (.Name y py::es) X.env=(false,eval (.Name y py) X.env)::starEach es X.env:=by rfl)(hpl:zP X pos es:=by rfl) :
  PD X (.Call (.Name x p) (.Name y py::es) [] pos) (Dd C f i t):=PE.wk (pcS CC hr (aX hi ha) hk hg hdb he hpl) yI
def dv(i:Nat){x:Str}{pos:Pos}(hN:X.N[i]?=some x:=by rfl)(hv:Vis X.env.scope x:=by first|exact Ş rfl|exact Ż (Ş rfl)|exact Ż (Ż rfl))(hd:zB x:=by decide)(hcd:(x == ("__classdict__":Str))=false:=by decide):PD X (.Name x pos) (tV i):=DX (pv i hN hv hd hcd)
end
structure Bn(mg:Str->Option Value):Prop where
 isinstance:mg "isinstance"=none
 int:mg "int"=none
 bool:mg "bool"=none
 tuple:mg "tuple"=none
 list:mg "list"=none
 len:mg "len"=none
 all:mg "all"=none
 min:mg "min"=none
 max:mg "max"=none
 sorted:mg "sorted"=none
 range:mg "range"=none
 abs:mg "abs"=none
def boot_all:bootBuiltins "all"=some (.builtin "all"):=by decide +kernel
def boot_abs:bootBuiltins "abs"=some (.builtin "abs"):=by decide +kernel
def wH{i:Nat}{ρ:List Sl}{d:D}{P:DK}(h:ρ[i]?=some (cI d))(q:∀k,P k d):tV i ρ P:=by
 unfold tV
 rw[h]
 unfold cI
 by_cases hi:eG d=true
 ·rw[if_pos hi];exact q _
 ·rw[if_neg hi];exact q _
def Bu{f:List D->(D->Prop)->Prop}{n:Nat}(hn:∀ds P,f ds P->ds.length=n:=by intro _ _ h;repeat (first|(obtain⟨rfl,_⟩:=h;rfl)|obtain⟨_,h⟩:=h)):∀vs H Q E,spD f vs H Q E->vs.length=n:=λvs H Q E h=>by
 obtain⟨ds,P,r,t,_⟩:=h
 rw[r.length]
 exact hn ds P t
def bC{f:List D->(D->Prop)->Prop}{T:DS}{N:List Str}{vs:List V}{H:Hp}{Q:VK}{E:XK}(h:spD f vs H Q E)(body:∀ds P,f ds P->∃ρ,ds.map cI++È (N.length - ds.length) .any=ρ/\T { nx:=λ_=>P .none,rt:=P } ρ)(g:Gr.G jg H:=by trivial):g8 T { nx:=λ_ H'=>Q .non H',rt:=Q } (L2.start N vs) H :=
 sH h (λds P t=>by
  obtain⟨ρ,e,q⟩:=body ds P t
  rw[e]
  exact q) g
def aR(n:Int)(us:List Tie):D:=.tuple [.int n,.tuple (us.map pD)]
def cF(n:Int)(us:List Tie):eG (aR n us)=true:=by
 show(eG (.int n)&&(cB (us.map pD)&&true))=true
 rw[cN]
 rfl
def pU(n:Int)(us:List Tie):cI (aR n us)=.im (aR n us):=if_pos (cF n us)
def isW:D->Bool
 |.int _=>true
 |_=>false
def sG(ds:List D)(P:D->Prop):Prop:=∃d,ds=[d]/\P (.bool (isW d))
def FW(m:Int):D->Bool
 |.int i=>decide (0<=i/\i<m)
 |_=>false
def zE(ds:List D)(P:D->Prop):Prop:=∃m d,ds=[.int m,d]/\P (.bool (FW m d))
def enterQ{C:Pn->Prop}{f:List D->(D->Prop)->Prop}{T:DS}{N:List Str}{vs:List V}{H:Hp}{Q:VK}{E:XK}(h:spP C f vs H Q E)(body:∀ds P,f ds P->∃ρ,ds.map cI++È (N.length - (ds.length+1)) .any=ρ/\T { nx:=λ_=>P .none,rt:=P } (.pen C::ρ))(g:∀p,Gr.G p H:=by intro _;trivial):g8 T { nx:=λ_ H'=>Q .non H',rt:=Q } (L2.start N vs) H :=
 Fx h (λds P t=>by
  obtain⟨ρ,e,q⟩:=body ds P t
  rw[e]
  exact q) g
variable [Gr]
def yG{α β:Type}{ds:List α}{i:Nat}{d:α}(f:α->β)(h:ds[i]?=some d):(ds.take (i+1)).map f=(ds.take i).map f++[f d]:=by
 rw[Ÿ,h,ď]
 rfl
def ud{α β:Type}{l:List α}{g:α->β}{i:Nat}{d:β}(h:(l.map g)[i]?=some d):∃x,l[i]?=some x/\g x=d:=by
 rw[Ú] at h
 cases e:l[i]? with
 |none=>rw[e] at h;cases h
 |some x=>rw[e] at h;exact⟨x,rfl,Ì h⟩
def mU(lo:Int)(n:Nat):(qH lo n).length=n:=by unfold qH;simp
def iT{lo:Int}{n i:Nat}{d:D}(h:(qH lo n)[i]?=some d):i<n/\d=.int (lo+((i:Nat):Int)):=by
 unfold qH at h
 obtain⟨x,hx,e⟩:=ud h
 obtain⟨h1,h2⟩:=Ñ.mp hx
 have h3:i<n:=by simpa using h1
 have h4:x=i:=by simpa using h2.symm
 subst h4
 exact⟨h3,e.symm⟩
variable [Gr]
section
variable {X:Cx}{pos p2:Pos}{a b e:Expr}{ta tb te:DE}
def Rps.rep{ok:Addr->Prop}{H:Hp}{vs:List V}{ds:List D}(r:Rps ok H vs ds):∀k:Nat,Rps ok H (È k vs).flatten (È k ds).flatten
 |0=>.nil
 |k+1=>by
  rw[Ĝ,Ĝ,ľ,ľ]
  exact r.app (Rps.rep r k)
def Fi:G2:=λk1 d1 _ d2 P=>match d1,d2 with
 |.list ds,.int k=>0<=k/\k<1000/\ds.length * k.toNat<=1000/\newP k1 (È k.toNat ds).flatten λk'=>P k' (.list (È k.toNat ds).flatten)
 |_,_=>False
def Hf:Ok2 Fi GF:=by
 intro p H0 own Hb H x y k1 d1 k2 d2 P Q A r1 r2 t q
 unfold Fi at t
 split at t
 ·rename_i ds k
  obtain⟨c1,xs,e1,o1,h1,rs1⟩:=r1.bB
  subst e1
  have h24:=ä
  refine⟨c1,k,xs,rfl,r2.int',h1,by omega,by omega,by rw[rs1.length];omega,λl hl=>?_⟩
  obtain⟨k3,i3,nw⟩:=A.new hl (.lst (È k.toNat xs).flatten)
  obtain⟨k',hk',rk'⟩:=jK A (bF A k3 (rs1.rep k.toNat)) nw ao t.2.2.2
  exact q _ _ _ _ hk' k3 i3 rk'
 ·exact t.elim
end
section
variable {X:Cx}{pos:Pos}{a:Expr}{t:DA}
variable [Gr]
end
variable [Gr]
section
variable {X:Cx}{pos:Pos}{a b e:Expr}{ta tb te:DE}
def dU{x:Str}{i:Int}{u:Value}{ps:Pos}(hg:Gl X x)(hm:X.mg x=some u)(r:RelV (.int i) u)(hd:zB x:=by decide):PD X (.Name x ps) (tK (.int i)):=cM (tX hg hm r hd) λ_=>.int i
def Gs(te:DE):DE:=λρ P=>te ρ λ_ d=>P .imm (.bool (tyD d == "list" || tyD d == "tuple"))
def Eu{K:Í}(d:D):W.kitAny K (.type (tyD d)) [.type "list",.type "tuple"]=some (tyD d == "list" || tyD d == "tuple"):=by
 cases d <;> rfl
def gQ{x y:Str}{ps pt pt' pp:Pos}{kk:Nat}(hm:X.mg "isinstance"=none)(he:PD X e te)(hT:PE X (.Name x pt) (tC (.ty "list")))(hT':PE X (.Name y pt') (tC (.ty "tuple")))(hg:Gl X "isinstance":=by rfl)(h1:starEach [e,.Tuple [.Name x pt,.Name y pt'] kk pp] X.env=(false,eval e X.env)::starEach [.Tuple [.Name x pt,.Name y pt'] kk pp] X.env:=by rfl)(h2:starEach [.Tuple [.Name x pt,.Name y pt'] kk pp] X.env=(false,eval (.Tuple [.Name x pt,.Name y pt'] kk pp) X.env)::starEach [] X.env:=by rfl)(h3:starEach [.Name x pt,.Name y pt'] X.env=(false,eval (.Name x pt) X.env)::starEach [.Name y pt'] X.env:=by rfl)(h4:starEach [.Name y pt'] X.env=(false,eval (.Name y pt') X.env)::starEach [] X.env:=by rfl)(hpl:(backTo pos (starEach [.Tuple [.Name x pt,.Name y pt'] kk pp] X.env)).any (·.1)=false:=by rfl) :
  PD X (.Call (.Name "isinstance" ps) [e,.Tuple [.Name x pt,.Name y pt'] kk pp] [] pos) (Gs te):=PE.wk (bQ pP hg hm boot_isinstance (aX he (aX (xP (aX hT (aX hT' bZ h4) h3)) bZ h2) h1) (by decide) (by decide) h1 hpl) (by
 rintro σ H Q ⟨p,H0,own,ρ,P,E,t,q⟩
 refine⟨p,H0,own,ρ,_,E,t,λk d v H' h A r=>?_⟩
 refine⟨by show 2<=sizeLine;decide,λl hl=>?_⟩
 obtain⟨k2,i2,nw⟩:=A.new hl (.tup [.ty "list",.ty "tuple"])
 have r2:=jf A k2 r
 have fin:TyOf X.K (upd H' l (.tup [.ty "list",.ty "tuple"])) v (.type (tyD d))->∃x p c1 c2 t b,[v,V.ref l]=[x,.ref p]/\TyOf X.K (upd H' l (.tup [.ty "list",.ty "tuple"])) x t/\SqT X.K (upd H' l (.tup [.ty "list",.ty "tuple"])) p [.ty c1,.ty c2]/\W.kitAny X.K t [.type c1,.type c2]=some b/\Q (.bl b) (upd H' l (.tup [.ty "list",.ty "tuple"])):=λty =>
  ⟨v,l,"list","tuple",_,_,rfl,ty,SqT.of ao,Eu d,q _ _ _ _ h (A.go k2 i2) (.bl _)⟩
 show ∃x p c1 c2 t b,_/\_
 cases r2 with
 |non=>exact fin .non
 |bl b=>exact fin (.bl b)
 |int i=>exact fin (.int i)
 |str x=>exact fin (.str x)
 |lst o hh rr=>exact fin (.lst hh)
 |tup hh rr=>exact fin (.tup hh)
 |dct o hh rr=>exact fin (.dK hh))
end
variable [Gr]
section
variable {X:Cx}{pos:Pos}{a b e:Expr}{ta tb te:DE}
def Eo:D->Bool
 |.none=>true
 |_=>false
def vD:G2:=λ_ d1 _ d2 P=>match d2 with
 |.none=>P .imm (.bool (Eo d1))
 |_=>False
def Am{ok:Addr->Prop}{H:Hp}{v:V}{d:D}(r:Rp ok H v d):decide (v=.non)=Eo d:=by
 cases r <;> simp[Eo]
def Cq:Ok2 vD (λx y H Q=>y=.non/\Q (.bl (decide (x=.non))) H):=by
 intro p H0 own Hb H x y k1 d1 k2 d2 P Q A r1 r2 t q
 unfold vD at t
 split at t
 ·cases r2
  rw[Am r1]
  exact⟨rfl,q _ _ _ _ t Kp.refl A.pen (.bl _)⟩
 ·exact t.elim
def rM(ha:PD X a ta)(hb:PD X b tb):PD X (.Compare a [.Is] [b] pos) (t2 vD ta tb):=kh yh Cq ha hb (cg _)
def jD(ha:PD X a ta)(hb:PD X b tb):PDT X (.Compare a [.Is] [b] pos) (jl (t2 vD ta tb)):=n6 yh Cq ha hb (cg _)
end
variable [Gr]
section
variable {X:Cx}{pos:Pos}{st:Stmt}
end
@[reducible] def grX(H:Hp):Gr:=⟨λp H0=>p=jg/\H0=H⟩
structure Cal1(P:Program)(w:World)(K:Í)(mg:Str->Option Value)(base:Heap)(k:Nat)(x:Str)(ps:List Str)(sp:Sp):Prop where
 ex:∃f fd,FnOk P w K mg base (CX1 P w) k f fd ps sp/\Binds K fd ps []/\ŷ K (.ref f)=true/\mg x=some (.ref f)
section
variable {X:Cx}{E:XK}{k j:Nat}{x:Str}{ps:List Str}{e:Expr}{es:List Expr}{p pos:Pos}
end
variable [Gr]
section
variable {X:Cx}{pos:Pos}{a b e:Expr}{ta tb te:DE}{t:DA}
end
end Dl
namespace L2
open PySem PyProof.Rows
def once(ns:List Int):List Int:=ns.foldl step_dedup []
section
variable {X:Cx}
end
end L2
namespace Dl
open PySem L2 PyProof.Rows
variable [Gr]
section
variable {X:Cx}{pos pos':Pos}{a:Expr}{t:DA}
end
variable [Gr]
section
variable {X:Cx}{pos p2:Pos}{a b c e:Expr}{es:List Expr}{ta tb tc te:DE}{t:DA}{st:Stmt}
def OpR.or{f:Value->Value->Sem Value}{r r':R2}(h:OpR X f r)(h':OpR X f r'):OpR X f (λx y H Q=>r x y H Q\/r' x y H Q):=by
 intro pins s σ H x y v u Q I rx ry q
 rcases q with q|q
 ·exact h pins s σ H x y v u Q I rx ry q
 ·exact h' pins s σ H x y v u Q I rx ry q
def aK.or{f:Value}{r r':List V->Hp->VK->Prop}(h:aK X f r)(h':aK X f r'):aK X f (λx H Q=>r x H Q\/r' x H Q):=by
 intro pins s σ H x v Q I rx q
 rcases q with q|q
 ·exact h pins s σ H x v Q I rx q
 ·exact h' pins s σ H x v Q I rx q
def xY(ha:PD X a ta)(hb:PD X b tb)(hs:iC b:=by exact λ_ _=>rfl):PD X (.Subscript a b pos) (t2 gIx ta tb):=PE.wk (xR (IxR.or o7 yN) ha hb hs) (qF (by
 intro p H0 own Hb H x y k1 d1 k2 d2 P Q A r1 r2 t q
 unfold gIx at t
 split at t
 ·rename_i ds i
  obtain⟨d,hd,t⟩:=t
  obtain⟨c,vs,rfl,o,hc,rs⟩:=r1.bB
  obtain⟨v,hv,rv⟩:=rs.atI hd
  exact .inl ⟨c,vs,i,v,rfl,r2.int',SqL.of hc,hv,q _ _ _ _ t Kp.refl A.pen (aL rv)⟩
 ·rename_i ds i
  obtain⟨d,hd,t⟩:=t
  obtain⟨c,vs,rfl,hc,rs⟩:=r1.bK
  obtain⟨v,hv,rv⟩:=rs.atI hd
  exact .inr ⟨c,vs,i,v,rfl,r2.int',SqT.of hc,hv,q _ _ _ _ t Kp.refl A.pen (aL rv)⟩
 ·exact t.elim))
def CN:G2:=λk1 d1 k2 d2 P=>match d1 with
 |.int i=>(match d2 with
  |.int j=>P .imm (.int (i+j))
  |_=>False)
 |.list ds=>BJ k1 (.list ds) k2 d2 P
 |.tuple ds=>yZ k1 (.tuple ds) k2 d2 P
 |_=>False
def oh(ha:PD X a ta)(hb:PD X b tb):PD X (.BinOp a .Add b pos) (t2 CN ta tb):=mO (OpR.or dY (OpR.or yp Bh)) (by
 intro p H0 own Hb H x y k1 d1 k2 d2 P Q A r1 r2 t q
 cases d1 with
 |int i =>
  cases d2 with
  |int j=>exact .inl ⟨i,j,r1.int',r2.int',q _ _ _ _ t Kp.refl A.pen (.int _)⟩
  |_=>exact t.elim
 |list ds=>exact .inr (.inl (Cu p H0 own Hb H x y k1 _ k2 d2 P Q A r1 r2 t q))
 |tuple ds=>exact .inr (.inr (En p H0 own Hb H x y k1 _ k2 d2 P Q A r1 r2 t q))
 |_=>exact t.elim) ha hb
def yS:G2:=λk1 d1 k2 d2 P=>match d1 with
 |.int i=>(match d2 with
  |.int j=>Ca i j/\P .imm (.int (i * j))
  |_=>False)
 |.list ds=>Fi k1 (.list ds) k2 d2 P
 |_=>False
def j5(ha:PD X a ta)(hb:PD X b tb):PD X (.BinOp a .Mult b pos) (t2 yS ta tb):=mO (OpR.or iK Ef) (by
 intro p H0 own Hb H x y k1 d1 k2 d2 P Q A r1 r2 t q
 cases d1 with
 |int i =>
  cases d2 with
  |int j=>exact .inl ⟨i,j,r1.int',r2.int',t.1,q _ _ _ _ t.2 Kp.refl A.pen (.int _)⟩
  |_=>exact t.elim
 |list ds=>exact .inr (Hf p H0 own Hb H x y k1 _ k2 d2 P Q A r1 r2 t q)
 |_=>exact t.elim) ha hb
def ju(neg:Bool):G2:=λk1 d1 k2 d2 P=>match scD d1 d2 with
 |some b=>P .imm (.bool (if neg then !b else b))
 |none=>Hy neg k1 d1 k2 d2 P
def Hh{K:Í}:Ok2 (ju false) (λx y H Q=>rEq x y H Q\/xu K false x y H Q):=by
 intro p H0 own Hb H x y k1 d1 k2 d2 P Q A r1 r2 t q
 cases e:scD d1 d2 with
 |some b =>
  have t':gEq false k1 d1 k2 d2 P:=by
   unfold ju at t
   unfold gEq
   rw[e] at t ⊢
   exact t
  exact .inl (Je p H0 own Hb H x y k1 d1 k2 d2 P Q A r1 r2 t' q)
 |none =>
  unfold ju at t
  rw[e] at t
  exact .inr (Cr false p H0 own Hb H x y k1 d1 k2 d2 P Q A r1 r2 t q)
def Cp{K:Í}:Ok2 (ju true) (λx y H Q=>rNe x y H Q\/xu K true x y H Q):=by
 intro p H0 own Hb H x y k1 d1 k2 d2 P Q A r1 r2 t q
 cases e:scD d1 d2 with
 |some b =>
  have t':gEq true k1 d1 k2 d2 P:=by
   unfold ju at t
   unfold gEq
   rw[e] at t ⊢
   exact t
  exact .inl (Jd p H0 own Hb H x y k1 d1 k2 d2 P Q A r1 r2 t' q)
 |none =>
  unfold ju at t
  rw[e] at t
  exact .inr (Cr true p H0 own Hb H x y k1 d1 k2 d2 P Q A r1 r2 t q)
def dW(hu:X.A.units+64<cLine)(ha:PD X a ta)(hb:PD X b tb):PD X (.Compare a [.Eq] [b] pos) (t2 (ju false) ta tb):=kh (OpR.or G8 (Ej hu)) Hh ha hb (cg _)
def ou(hu:X.A.units+64<cLine)(ha:PD X a ta)(hb:PD X b tb):PD X (.Compare a [.NotEq] [b] pos) (t2 (ju true) ta tb):=kh (OpR.or Cj (yg hu)) Cp ha hb (cg _)
def cT(hu:X.A.units+64<cLine)(ha:PD X a ta)(hb:PD X b tb):PDT X (.Compare a [.NotEq] [b] pos) (jl (t2 (ju true) ta tb)):=n6 (OpR.or Cj (yg hu)) Cp ha hb (cg _)
end
section
variable {n:Nat}{g:DG}{tt:DT}{te:DE}{ρ:List Sl}{k:Kd}{ds:List D}{R:Kd->List D->Prop}
def Bp{α β:Type}(f:α->β){l:List α}{i:Nat}{x:α}(h:l[i]?=some x):(l.take (i+1)).map f=(l.take i).map f++[f x]:=by
 rw[Ÿ,h]
 simp
def lA{α:Type}(xs:List α)(e f:α->D)(ke:Kd)(hd:ds=xs.map e)(hl:xs.length<=1000)(step:∀x∈xs,∀(A:D->Prop) (B:Prop),A (f x)->g (norm (elC k) (e x)) (e x) (È n .any++ρ) λρ'=>if true=true then te ρ' λk' d'=>(norm k' d').le ke=true/\A d' else B)(q:R ke (xs.map f)) :
  ds.length<=1000/\∃(ke:Kd) (Iv:Nat->List D->Prop),Iv 0 [] /\
   (∀i d ys,ds[i]?=some d->Iv i ys->g (norm (elC k) d) d (È n .any++ρ) λρ'=>if true=true then te ρ' λk' d'=>(norm k' d').le ke=true/\Iv (i+1) (ys++[d']) else Iv (i+1) ys) /\
   ∀ys,Iv ds.length ys->R ke ys:=by
 subst hd
 refine⟨by rw[Ã];exact hl,ke,λi ys=>ys=(xs.take i).map f,rfl,?_,?_⟩
 ·rintro i d ys hd rfl
  rw[Ú] at hd
  cases hx:xs[i]? with
  |none=>rw[hx] at hd;cases hd
  |some x =>
   rw[hx] at hd
   have hd:=Ì hd
   subst hd
   exact step x (Ù hx) (λd'=>(xs.take i).map f++[d']=(xs.take (i+1)).map f) _ (Bp f hx).symm
 ·rintro ys rfl
  rw[Ã,Ž]
  exact q
end
section
variable {g:DG}{tb:DS}{k:Kd}{ds:List D}{ρ:List Sl}{P:DEnds}
def BK{α:Type}(xs:List α)(e:α->D)(ok:List Sl->Prop)(hd:ds=xs.map e)(hk:k.le .shr=true)(h0:ok ρ)(step:∀x∈xs,∀ρ',ok ρ'->g (norm (elK k) (e x)) (e x) ρ' λρ2=>tb { nx:=ok,ct:=ok,bk:=P.nx,rt:=P.rt } ρ2)(q:∀ρ',ok ρ'->P.nx ρ') :
  k.le .shr=true/\∃Iv:Nat->List Sl->Prop,Iv 0 ρ /\
   (∀i d ρ',ds[i]?=some d->Iv i ρ'->g (norm (elK k) d) d ρ' λρ2=>tb { nx:=Iv (i+1),ct:=Iv (i+1),bk:=P.nx,rt:=P.rt } ρ2)/\∀ρ',Iv ds.length ρ'->P.nx ρ':=by
 subst hd
 refine⟨hk,λ_ ρ'=>ok ρ',h0,?_,q⟩
 intro i d ρ' hd h
 rw[Ú] at hd
 cases hx:xs[i]? with
 |none=>rw[hx] at hd;cases hd
 |some x =>
  rw[hx] at hd
  have hd:=Ì hd
  subst hd
  exact step x (Ù hx) ρ' h
end
variable [Gr]
section
variable {X:Cx}{scope:Scope}{tg iter elt:Expr}{ifs:List Expr}{pos:Pos}{ti:DI}{g:DG}{tt:DT}{te:DE}
end
section
variable {n:Nat}{g:DG}{tt:DT}{te:DE}{ρ:List Sl}{k:Kd}{ds:List D}{R:Kd->List D->Prop}
end
variable [Gr]
section
variable {X:Cx}{pos:Pos}{st:Stmt}{rest:List Stmt}{te tj:DE}{ti:DI}{t:DS}
def Fz(i:Nat)(t:DS):DS:=λP ρ=>match ρ[i]? with
 |some (.dw r d)=>mZ r ρ i=true/\t P (ρ.set i (.sn d))
 |some (.rw r L)=>mZ r ρ i=true/\t P (ρ.set i (.sn (.list (L.map Ĥ))))
 |some (.sp r b ds)=>mZ r ρ i=true/\t P (ρ.set i (if b=true then .sn (.list ds) else .sh (.list ds)))
 |_=>False
def EnvD.freeze{p:Pn}{H0 H:Hp}{own:Addr->Option Nat}{σ:L2.St}{ρ:List Sl}{i r:Nat}{d:D}{v:V}(E:EnvD p H0 own σ H ρ)(hf:mZ r ρ i=true)(hv:σ[i]?=some (some v))(x:Rp (λa=>own a=some r) H v d) :
  EnvD p H0 (aG r own) σ H (ρ.set i (.sn d)):=by
 have E2:EnvD p H0 (aG r own) σ H (ρ.set i .any):=(E.drop (i:=i)).clear hf
 have E3:=E2.put (v:=v) (i:=i) (s:=.sn d) ⟨v,hv,x.mono (λa o=>⟨(E.ow a r o).1,(E.ow a r o).2.1,by unfold aG;rw[if_pos o]⟩) (λ_ _ _ e=>e) λ_ _ e=>e⟩
 rw[List.set_set] at E3
 exact E3
def sJ(i:Nat)(h:jx X rest t):jx X rest (Fz i t):=PSs.wk' h (by
 rintro Q σ H ⟨p,H0,own,ρ,P,E,q,w⟩
 unfold Fz at q
 split at q
 ·rename_i r d e
  obtain⟨v,hv,x⟩:=E.slot i _ e
  exact⟨p,H0,_,_,P,E.freeze q.1 hv x,q.2,w.go fM⟩
 ·rename_i r L e
  obtain⟨st,as,hv,x⟩:=E.slot i _ e
  exact⟨p,H0,_,_,P,E.freeze q.1 hv x.rp,q.2,w.go fM⟩
 ·rename_i r b ds e
  obtain⟨l,vs,hv,o,h,z⟩:=E.slot i _ e
  have E2:EnvD p H0 (aG r own) σ H (ρ.set i .any):=(E.drop (i:=i)).clear q.1
  have c0:∀a,own a=none->aG r own a=none:=λa n=>by unfold aG;rw[n];simp
  have cl:aG r own l=none:=by unfold aG;rw[if_pos o]
  have E3:EnvD p H0 (aG r own) σ H ((ρ.set i .any).set i (if b=true then .sn (.list ds) else .sh (.list ds))):=E2.put (v:=.ref l) (by
   cases b with
   |true=>exact⟨_,hv,.lst ⟨(E.ow l r o).1,(E.ow l r o).2.1,cl⟩ h (z.mono (λc n=>⟨n.1 rfl,n.2.1,c0 c n.2.2⟩) (λ_ _ _ e=>e) λ_ _ e=>e)⟩
   |false=>exact⟨_,hv,.lst ⟨(E.ow l r o).2.1,cl⟩ h (z.mono (λc n=>⟨n.2.1,c0 c n.2.2⟩) (λ_ _ _ e=>e) λ_ _ e=>e)⟩)
  rw[List.set_set] at E3
  exact⟨p,H0,_,_,P,E3,q.2,w.go fM⟩
 ·exact q.elim)
def zX(js:List Nat)(t:DS):DS:=λP ρ=>t P (js.foldl (λρ j=>ρ.set j .any) ρ)
def EnvD.drops{p:Pn}{H0 H:Hp}{own:Addr->Option Nat}{σ:L2.St}:∀(js:List Nat) {ρ:List Sl},EnvD p H0 own σ H ρ->EnvD p H0 own σ H (js.foldl (λρ j=>ρ.set j .any) ρ)
 |[],_,E=>E
 |_::js,_,E=>EnvD.drops js E.drop
def lE(js:List Nat)(h:jx X rest t):jx X rest (zX js t):=PSs.wk' h (by
 rintro Q σ H ⟨p,H0,own,ρ,P,E,q,w⟩
 exact⟨p,H0,own,_,P,E.drops js,q,w⟩)
end
@[reducible] def grL(K:Í)(sc:Addr)(ns:List Int):Gr:=⟨λp H0=>SqL K H0 sc (ns.map V.int)/\∀b,p.fp b->H0 b=none⟩
def tG(K:Í):Sp:=λvs H Q _=>∃(a:Addr) (ns:List Int),vs=[.ref a]/\SqL K H a (ns.map V.int)/\∀H',Q (.bl true) H'
section
variable {X:Cx}{k1 k2 j:Nat}{x y z:Str}{ps1 ps2:List Str}{e:Expr}{es1 es2:List Expr}{p1 p2 p3 pos pos1:Pos}{K:Í}{sc:Addr}{ns:List Int}{C:Pn->Prop}{pre:List D->Prop}{g:List D->(D->Prop)->Prop}{i:Nat}
end
variable [Gr]
section
variable {X:Cx}{pos pos':Pos}{a b:Expr}{t:DA}
end
variable [Gr]
mutual
inductive Tm where
 |int (i:Int)
 |neg (i:Int)
 |bl (b:Bool)
 |non
 |str (s:Str)
 |var (i:Nat)
 |lst (ts:Tms)
 |tup (ts:Tms)
 |dct
inductive Tms where
 |nil
 |cons (t:Tm) (ts:Tms)
end
def Ih(sc:Scope)(x:Str):Bool:=sc.names.lookup x == some .local || sc.names.lookup x == some .cell || sc.names.lookup x == some .free
mutual
def okT(N:List Str)(sc:Scope):Tm->Expr->Bool
 |.int i,.Constant (.int j) _ _=>i == j
 |.neg i,.UnaryOp .USub (.Constant (.int j) _ _) _=>i == j
 |.bl b,.Constant (.bool c) _ _=>b == c
 |.non,.Constant .none _ _=>true
 |.str s,.Constant (.str u) _ _=>s == u
 |.var i,.Name x _=>N[i]? == some x&&(Ih sc x&&(!(x == ("__debug__":Str))&&!(x == ("__classdict__":Str))))
 |.lst ts,.List es _=>Em N sc ts es
 |.tup ts,.Tuple es _ _=>Em N sc ts es
 |.dct,.Dict [] [] _=>true
 |_,_=>false
def Em(N:List Str)(sc:Scope):Tms->List Expr->Bool
 |.nil,[]=>true
 |.cons t ts,e::es=>okT N sc t e&&Em N sc ts es
 |_,_=>false
end
mutual
def evT(ρ:List Sl):Tm->Option (Kd×D)
 |.int i=>some (.imm,.int i)
 |.neg i=>some (.imm,.int (-i))
 |.bl b=>some (.imm,.bool b)
 |.non=>some (.imm,.none)
 |.str s=>some (.imm,.str s)
 |.var i=>match ρ[i]? with
  |some (.im d)=>some (.imm,d)
  |some (.sh d)=>some (.shr,d)
  |some (.sn d)=>some (.snw,d)
  |some (.dw r d)=>some (.reg r,d)
  |_=>none
 |.lst ts=>match Fw ρ ts with
  |some ks=>some ((joins ks).join .new,.list (ks.map (·.2)))
  |none=>none
 |.tup ts=>match Fw ρ ts with
  |some ks=>some (norm (joins ks) (.tuple (ks.map (·.2))),.tuple (ks.map (·.2)))
  |none=>none
 |.dct=>some (.new,.dict [])
def Fw(ρ:List Sl):Tms->Option (List (Kd×D))
 |.nil=>some []
 |.cons t ts=>match evT ρ t,Fw ρ ts with
  |some k,some ks=>some (k::ks)
  |_,_=>none
end
mutual
def smT:Tm->Bool
 |.lst ts=>Dg 1000 ts
 |.tup ts=>Dg 1000 ts
 |_=>true
def Dg:Nat->Tms->Bool
 |_,.nil=>true
 |n+1,.cons t ts=>smT t&&Dg n ts
 |0,.cons _ _=>false
end
section
variable {X:Cx}{e:Expr}{es:List Expr}
section
variable {N:List Str}{sc:Scope}
end
end
end Dl
namespace L2
open PySem PySem.Spec PyProof.Rows HT
section
variable {X:Cx}{e:Expr}{te:TE}{p1 p2 p3 pos:Pos}
end
end L2
namespace Dl
open PySem L2 PyProof.Rows
variable [Gr]
section
variable {X:Cx}{pos p1 p2 p3:Pos}{a b e:Expr}{es:List Expr}{ta tb te:DE}{t:DA}
def Gh(te:DE)(tl th:DO):DE:=λρ P=>te ρ λk d=>tl ρ λlo=>th ρ λhi=>match d with
 |.list ds=>newP k (dI ds lo hi) λk'=>P k' (.list (dI ds lo hi))
 |.tuple ds=>¬(HT.sIx ds.length 0 lo=0/\HT.sIx ds.length ds.length hi=ds.length)/\P (norm k (.tuple (dI ds lo hi))) (.tuple (dI ds lo hi))
 |_=>False
def qj{lo hi:Option Expr}{tl th:DO}(he:PD X e te)(hl:PO X lo (kZ tl))(hh:PO X hi (kZ th)):PD X (.Subscript e (.Slice lo hi none p2) pos) (Gh te tl th):=PE.wk (qg (SlR.or tH wU) he hl hh) (by
 rintro σ H Q ⟨p,H0,own,ρ,P,E,t,q⟩
 refine⟨p,H0,own,ρ,_,E,t,λk d v H1 h A r=>?_⟩
 refine⟨p,H0,own,ρ,_,E.go A.kp A.pen,h,λo1 H2 h2 A2=>?_⟩
 refine⟨p,H0,own,ρ,_,(E.go A.kp A.pen).go A2.kp A2.pen,h2,λo2 H3 h3 A3=>?_⟩
 have A4:=(A.base A2).base A3
 have r3:=jf (A.base A2) A3.kp (jf A A2.kp r)
 cases d with
 |list ds =>
  obtain⟨x,xs,e1,o,h1,rs⟩:=Rp.bB r3
  subst e1
  refine .inl ⟨x,xs,rfl,SqL.of h1,λl hl=>?_⟩
  obtain⟨k2,i2,nw⟩:=A4.new hl (.lst (jw xs o1 o2))
  obtain⟨k',hk',rk'⟩:=jK A4 (bF A4 k2 (rs.cut o1 o2)) nw ao h3
  exact q _ _ _ _ hk' (A4.go k2 i2) rk'
 |tuple ds =>
  obtain⟨x,xs,e1,h1,rs⟩:=Rp.bK r3
  subst e1
  refine .inr ⟨x,xs,rfl,SqT.of h1,by rw[rs.length];exact h3.1,λl hl=>?_⟩
  obtain⟨k2,i2,nw⟩:=A4.new hl (.tup (jw xs o1 o2))
  exact q _ _ _ _ h3.2 (A4.go k2 i2) (aL (.tup ao (bF A4 k2 (rs.cut o1 o2))))
 |_=>exact h3.elim)
end
variable [Gr]
section
variable {X:Cx}{pos pos' p2:Pos}{a b e:Expr}{ta tb te tj tm:DE}{st st2:Stmt}{rest:List Stmt}{ti:DI}{g:DG}{t:DS}
end
variable [Gr]
section
variable {X:Cx}{te te1 te2 tj tm:DE}{st st2:Stmt}{rest:List Stmt}{t:DS}
end
variable [Gr]
section
variable {X:Cx}{te tj:DE}{st:Stmt}{t:DS}
end
end Dl
namespace L2
open PySem PySem.Spec PyProof.Rows
def BZ(K:Í)(a:Addr):It :=
 ⟨λi H=>∃xs x,SqL K H a xs/\xs[i]?=some x,λi H x H'=>∃t v,x=.ref t/\H t=none/\H'=upd H t (.tup [.int i,v])/\∀xs,SqL K H a xs->xs[i]?=some v,λi H=>∃xs,SqL K H a xs/\xs.length<=i⟩
def rm{P:Program}{w:World}{K:Í}{elts:List Expr}{kk:Nat}{pos:Pos}(a e it:Addr)(hei:e≠it) :
  Turn P w K (.Tuple elts kk pos) (BZ K a) [e,it] e (λi h=>(∃old,IsEnum h e it i old)/\h.IsListIter it a i) where
 mem:=by simp
 obj:=λi h st b hb=>by
  obtain⟨⟨old,he⟩,o,ho,hc,hd⟩:=st
  rcases Ï.mp hb with rfl|hb
  ·exact⟨_,he,λv z=>nomatch z⟩
  ·have e1:b=it:=by simpa using hb
   subst e1
   exact⟨o,ho,λv z=>by rw[hd] at z;cases z⟩
 keep:=λi h h' st k=>by
  obtain⟨⟨old,he⟩,o,ho,r⟩:=st
  exact⟨⟨old,k e (by simp) _ he⟩,o,k it (by simp) _ ho,r⟩
 item:=by
  intro X hP hw hK hc i pins s σ H E I hf st hg
  subst hP hw hK
  obtain⟨xs,x,hq,hx⟩:=hg
  obtain⟨its,rv,p,hz⟩:=I.list hq
  obtain⟨u,hu,ru⟩:=rv.get hx
  obtain⟨⟨old,he⟩,hit⟩:=st
  have hai:a≠it:=λz=>by
   obtain⟨o,_,ho,hc1,_⟩:=p
   obtain⟨o',ho',hc2,_⟩:=hit
   rw[z,ho'] at ho
   cases ho
   rw[hc2] at hc1
   injection hc1 with z2
   exact absurd z2 (by decide)
  have hae:e≠a:=λz=>by
   obtain⟨o,_,ho,hc1,_⟩:=p
   have he':s.heap.get? e=some _:=he
   rw[z,ho] at he'
   cases he'
   have z1:Ă "enumerate"=Ă "list":=hc1
   injection z1 with z2
   exact absurd z2 (by decide)
  have hlt:i<its.toArray.size:=by have:=(Ñ.mp hu).1;simpa using this
  obtain⟨e0,e1,e2,e3,e4,e5⟩:=hf e (by simp)
  obtain⟨f0,f1,f2,f3,f4,f5⟩:=hf it (by simp)
  have D:=Draws.list (prog:=X.prog) (w:=X.w) (A:=X.A.in1) (I.ok.hd hc) it a hai its.toArray
  refine wpAny_pyNext_enum_itemD D he ⟨hit,p.isList⟩ hlt hei (by simp[hei,hae]) λx' h' tk hP ho hs' hT hsz hk=>⟨_,rfl,?_⟩
  have ex:x'=u:=by
   have hP':its[i]?=some x':=by simpa using hP
   rw[hu] at hP'
   exact(Ì hP').symm
  subst ex
  refine wpAny_letOwnedTupleGo_enum ho λh2 he2 hs2=>?_
  have hTn:H s.heap.objs.size=none:=I.hok.fresh (Æ _)
  have keep2:∀b o,b≠e->b≠it->s.heap.get? b=some o->h2.get? b=some o:=λb o hb1 hb2 q=>(hs2.2 b hb1).trans (hk b o hb1 hb2 q)
  have hTe:s.heap.objs.size≠e:=ĸ (Å he)
  have hTup:h2.get? s.heap.objs.size=some { cls:=.type "tuple",data:=.seq #[.int i tk,x'] }:=(hs2.2 _ hTe).trans hT
  have J:Inv X pins σ (upd H s.heap.objs.size (.tup [.int i,x])) { s with heap:=h2,toks:=tk+1 }:=by
   refine I.step (g':=s.gens) (d':=s.drawn) (t':=tk+1) (ch:=[e,it]) (λb hb=>?_) (λb o _ _ hcb q _=>keep2 b o (λz=>hcb (by simp[z])) (λz=>hcb (by simp[z])) q)
    (λb o _ _ hcb q _=>⟨o.slots,keep2 b o (λz=>hcb (by simp[z])) (λz=>hcb (by simp[z])) q⟩) (λb o _ q n=>by rw[aj (Ö (Å q))];exact n)
    (λb o hcb q=>⟨o,keep2 b o (λz=>hcb (by simp[z])) (λz=>hcb (by simp[z])) q⟩) (λb ys q=>by rw[aj (ak q hTn)];exact q) (λb o y q=>by rw[aj (ak q hTn)];exact q)
    (λb ps q=>⟨#[],by rw[aj (ak q hTn),q];simp⟩) (λm hm=>?_) ?_ I.bare
   ·rcases Ï.mp hb with rfl|hb
    ·exact⟨e3,e1,e4,e5⟩
    ·have z:b=it:=by simpa using hb
     subst z
     exact⟨f3,f1,f4,f5⟩
   ·obtain⟨o,es,ep,ho',r⟩:=hm
    exact⟨o,es,ep,keep2 _ o (è e1) (è f1) ho',r⟩
   ·intro b u' q
    have nT:∀{c y},H c=some y->c≠e/\c≠it:=λ{c y} z=>⟨λv=>(by rw[v,e0] at z;exact nomatch z),λv=>(by rw[v,f0] at z;exact nomatch z)⟩
    by_cases hb:b=s.heap.objs.size
    ·subst hb
     rw[ao] at q
     cases q
     exact⟨(by show 2<=sizeLine;decide),[.int i tk,x'],.cons ⟨_,rfl⟩ (.cons ru .nil),_,hTup,rfl,_,rfl⟩
    ·rw[aj hb] at q
     refine(I.hok b u' q).stay (λc v hcv y=>keep2 c v ?_ ?_ y) (λc y=>by rw[aj (ak y hTn)];exact y) λc ys y=>by rw[aj (ak y hTn)];exact y
     ·rcases hcv with rfl|z
      ·exact(nT q).1
      ·exact(nT z).1
     ·rcases hcv with rfl|z
      ·exact(nT q).2
      ·exact(nT z).2
  refine⟨.ref s.heap.objs.size,_,J,rfl,⟨_,x,rfl,hTn,rfl,λys hy=>by rw[I.gZ hy hq];exact hx⟩,⟨⟨x',?_⟩,?_⟩,λb hb=>?_⟩
  ·have he3:IsEnum h2 e it ((i:Int)+1) x':=by simpa using he2
   have ec:((i+1:Nat):Int)=(i:Int)+1:=by omega
   rw[ec]
   exact he3
  ·obtain⟨o,ho2,r⟩:=hs'.1
   exact⟨o,(hs2.2 it (è hei)).trans ho2,r⟩
  ·rw[aj]
   ·exact(hf b hb).1
   ·rcases Ï.mp hb with rfl|hb
    ·exact è hTe
    ·have z:b=it:=by simpa using hb
     subst z
     obtain⟨o,ho2,_⟩:=hit
     exact Ö (Å ho2)
 done:=by
  intro X hP hw hK hc i pins s σ H E I hf st hg
  subst hP hw hK
  obtain⟨xs,hq,hx⟩:=hg
  obtain⟨its,rv,p,hz⟩:=I.list hq
  obtain⟨⟨old,he⟩,hit⟩:=st
  obtain⟨f0,f1,f2,f3,f4,f5⟩:=hf it (by simp)
  have hl:=rv.length
  have hT:s.TypeIs (.ref e) "enumerate":=⟨_,he,rfl⟩
  unfold pyNext
  refine Á (wpAny_attempt (ĉ (name:=ğ "__next__") hT Ą
   (Ĉ Ą hT PySem.F.entry_enumerate_next ?_ (PySem.F.args_enumerate_next_1 _))))
  show wpAny _ _ (field (.ref e) 2 >>= _) _ _ _
  refine Á (ù he rfl (x:=.ref it) rfl ?_)
  refine Á (wpAny_nextOf_list_end (I.ok.hd hc) hit p.isList (by simp;omega) λh' x he' hx'=>?_)
  obtain⟨o,ho,hc'⟩:=hx'
  refine Á (wpAny_isInstance (T:="StopIteration") (b:=true) ⟨o,ho,hc'⟩ isSubtype_stop ?_)
  exact Ç ⟨rfl,I.turned (t':=s.toks) (λb o hb e=>he' b o hb e) f0 f1 f3 f4 f5⟩
 self:=λA i s Q E st h=>by
  obtain⟨⟨old,he⟩,_⟩:=st
  have hT:s.TypeIs (.ref e) "enumerate":=⟨_,he,rfl⟩
  refine wpAny_pyIter_slot hT Ĺ (Ĉ Ĺ hT PySem.F.entry_enumerate_iter ?_ (PySem.F.args_enumerate_iter_1 _))
  show wpAny _ _ (ret (.ref e)) _ _ s
  exact Ç ⟨_,rfl,"enumerate",_,hT,Ą.lookup,h⟩
end L2
namespace Dl
open PySem L2 PyProof.Rows
variable [Gr]
section
variable {X:Cx}{tg:Expr}{pos:Pos}{ta:DA}
def qY{K:Í}{ok:Addr->Prop}{a:Addr}{ds:List D}:Wlk (λH=>Rp ok H (.ref a) (.list ds)) (BZ K a) (iy ds) ok where
 go:=λi H r hi=>by
  obtain⟨b,vs,e,_,h,rs⟩:=r.bB
  cases e
  have:i<vs.length:=by rw[rs.length];rw[fK] at hi;exact hi
  exact⟨vs,vs[i],SqL.of h,by simp[this]⟩
 stop:=λH r=>by
  obtain⟨b,vs,e,_,h,rs⟩:=r.bB
  cases e
  exact⟨vs,SqL.of h,by rw[rs.length,fK];exact Æ _⟩
 yld:=λi H x H' r y=>by
  obtain⟨t,v,rfl,ht,rfl,y⟩:=y
  have sm:Same H (upd H t (.tup [.int i,v])):=λb u q=>by rw[aj (ak q ht)];exact q
  refine⟨sm,λd hd=>?_⟩
  obtain⟨b,vs,e,_,h,rs⟩:=r.bB
  cases e
  rw[iU] at hd
  cases he:ds[i]? with
  |none=>rw[he] at hd;cases hd
  |some d0 =>
   rw[he] at hd
   have e:=Ì hd
   subst e
   obtain⟨v',hv,rv⟩:=rs.getD he
   have:=y vs (SqL.of h)
   rw[hv] at this
   cases this
   exact .tup ao (.cons (.int _) (.cons (rv.mono (λ_ o=>o) (λa o _ e=>sm a o e) λa xs e=>sm a _ e) .nil))
 stab:=λH H' r f t=>r.aW (λa o n e=>⟨n,f a o n e⟩) t
end
section
variable {X:Cx}
def vU(hc:X.calm=true):aK X (.builtin "min") (λxs H Q=>∃(p:Addr) (ns:List Int),xs=[.ref p]/\SqL X.K H p (ns.map V.int)/\ns≠[]/\∀M,M∈ns->(∀a∈ns,M<=a)->Q (.int M) H):=by
 intro pins s σ H xs us Q I r h
 obtain⟨p,ns,rfl,hp,hne,q⟩:=h
 obtain⟨u,rfl,rx⟩:=vals1 r
 cases rx
 obtain⟨its,rv,pl,hz⟩:=I.list hp
 have hi:IntsAre its ns:=intsAre_of rv
 obtain⟨zs,e⟩:=hi.allInts.items
 have hns:ns=zs.toList.map (·.1):=by rw[←hi.numsOf,←nums_intItems,←e]
 have hsz:0<zs.size:=by
  have h3:=List.length_pos_iff.mpr hne
  rw[hns,Ã,é] at h3;exact h3
 have hl:=pl.isList
 rw[e] at hl
 refine min_intList (I.ok.hd hc) hl hsz λv h' tk hv hk=>?_
 obtain⟨t,rfl⟩:=intItems_at hv
 obtain⟨h1,h2⟩:=argBest_lt (numAt zs) (zs.size - 1)
 refine⟨.int _,H,I.kept λb o eb=>hk b o eb,⟨_,rfl⟩,q _ ?_ λa ha=>?_⟩
 ·rw[hns,numAt_eq];refine getD_mem ?_;rw[Ã,é];omega
 ·rw[hns] at ha
  obtain⟨j,hj,rfl⟩:=mem_getD ha
  rw[Ã,é] at hj
  have h3:=h2 j (by omega)
  rw[←numAt_eq];exact h3
def vX(hc:X.calm=true):aK X (.builtin "max") (λxs H Q=>∃(p:Addr) (ns:List Int),xs=[.ref p]/\SqL X.K H p (ns.map V.int)/\ns≠[]/\∀M,M∈ns->(∀a∈ns,a<=M)->Q (.int M) H):=by
 intro pins s σ H xs us Q I r h
 obtain⟨p,ns,rfl,hp,hne,q⟩:=h
 obtain⟨u,rfl,rx⟩:=vals1 r
 cases rx
 obtain⟨its,rv,pl,hz⟩:=I.list hp
 have hi:IntsAre its ns:=intsAre_of rv
 obtain⟨zs,e⟩:=hi.allInts.items
 have hns:ns=zs.toList.map (·.1):=by rw[←hi.numsOf,←nums_intItems,←e]
 have hsz:0<zs.size:=by
  have h3:=List.length_pos_iff.mpr hne
  rw[hns,Ã,é] at h3;exact h3
 have hl:=pl.isList
 rw[e] at hl
 refine max_intList (I.ok.hd hc) hl hsz λv h' tk hv hk=>?_
 obtain⟨t,rfl⟩:=intItems_at hv
 obtain⟨h1,h2⟩:=argBest_gt (numAt zs) (zs.size - 1)
 refine⟨.int _,H,I.kept λb o eb=>hk b o eb,⟨_,rfl⟩,q _ ?_ λa ha=>?_⟩
 ·rw[hns,numAt_eq];refine getD_mem ?_;rw[Ã,é];omega
 ·rw[hns] at ha
  obtain⟨j,hj,rfl⟩:=mem_getD ha
  rw[Ã,é] at hj
  have h3:=h2 j (by omega)
  rw[←numAt_eq];exact h3
end
section
variable {prog:Program}{w:World}{A:Around}{E:Value->Shared->Prop}
def qM{it l:Addr}{items:Array Value}(hne:l≠it):∀(n i:Nat) (s:Shared) (Q:List Value->Shared->Prop),s.heap.IsListIter it l i->s.heap.IsList l items->i+n<=items.size ->
  (∀h',h'.IsListIter it l (i+n)->Ů it s.heap h'->Q ((items.toList.drop i).take n) { s with heap:=h' })->wpAny (model prog w) A (draw (.ref it) n) Q E s
 |0,i,s,Q,hit,_,_,hQ=>by
  show wpAny _ _ (pure []) Q E s
  exact Ç (by simpa using hQ s.heap hit (Heap.SameBut.refl ..))
 |n+1,i,s,Q,hit,hl,hle,hQ=>by
  have hlt:i<items.size:=by omega
  show wpAny _ _ (pyNext (.ref it) >>= _) Q E s
  refine Á (wpAny_pyNext_list_item hit hl (x:=items[i]) (by simp[hlt]) λh₁ hit₁ hs₁=>?_)
  refine Á (Ł (qM hne n (i+1) _ _ hit₁ (hl.extBut hs₁.extBut hne) (by omega) λh₂ hit₂ hs₂=>Ç ?_))
  have hd:items.toList.drop i=items[i]::items.toList.drop (i+1):=by simp[List.drop_eq_getElem_cons,hlt]
  have z:=hQ h₂ (by rw[show i+(n+1)=i+1+n by omega];exact hit₂) (hs₁.trans hs₂)
  rw[hd,List.take_succ_cons] at z
  exact z
def jk{s:Shared}{l:Addr}{items:Array Value}{Q:List Value->Shared->Prop}(hh:A.handled=none)(hl:s.heap.IsList l items)(hQ:∀h',Heap.ExtBut s.heap.objs.size s.heap h'->Q items.toList { s with heap:=h' }):wpAny (model prog w) A (unpackItems (.ref l) items.size none) Q E s:=by
 have hlt:l≠s.heap.objs.size:=by obtain⟨o,ho,_⟩:=hl;exact Ö (Å ho)
 unfold unpackItems
 refine Á ?_
 unfold notIterableAtAll
 refine Á (wpAny_specialOf hl.typeIs slot_list_iter.lookup ?_)
 refine Ç ?_
 simp only[if_false,Ų]
 refine Á (Ł (wpAny_pyIter_list hl ?_))
 refine Á (Ł (qM hlt items.size 0 _ _ ⟨_,Î _ rfl,rfl,rfl⟩ (hl.push _) (by omega) λh₁ hit₁ hs₁=>?_))
 have hall:Ņ items.size (Ň 0 items.toList)=items.toList:=by rw[List.drop_zero];refine List.take_of_length_le ?_;simp
 rw[hall,if_neg (by simp)]
 have hl₁:h₁.IsList l items:=(hl.push _).extBut hs₁.extBut hlt
 refine Á (Ł (wpAny_pyNext_list_end hh hit₁ hl₁ (by simp) λh₂ he₂=>?_))
 simp only[if_false,Option.isSome_none,Ų]
 exact Ç (hQ h₂ λb o hb e=>he₂ b o hb (hs₁.extBut b o hb (Ä _ e)))
def iY{s:Shared}{env:Env}{elts:List Expr}{x1}{pos:Pos}{l:Addr}{items:Array Value}{Q:Unit->Shared->Prop}(hh:A.handled=none)(hl:s.heap.IsList l items)(hn:(assignEach elts env).length=items.size)(hstar:(assignEach elts env).findIdx? (·.1)=none)(h:∀h',Heap.ExtBut s.heap.objs.size s.heap h'->wpAny (model prog w) A (assignInOrder ((assignEach elts env).map (·.2)) items.toList) Q E { s with heap:=h' }) :
  wpAny (model prog w) A (assign (.Tuple elts x1 pos) env (.ref l)) Q E s:=by
 rw[assign_Tuple]
 refine Á (wpAny_standAt ?_)
 unfold unpack
 rw[hn,hstar]
 exact Á (Ł (jk hh hl h))
end
section
variable {X:Cx}{pos:Pos}
def Jp(K:Í)(n:Nat)(t:TGs):TG:=λv σ H Q=>∃a xs,v=.ref a/\SqL K H a xs/\xs.length=n/\t xs σ H Q
def Dv{es:List Expr}{k:Nat}{t:TGs}{n:Nat}(hc:X.calm=true)(h:PGs X es t)(hn:(assignEach es X.env).length=n:=by rfl)(hst:(assignEach es X.env).findIdx? (·.1)=none:=by rfl):PG X (.Tuple es k pos) (Jp X.K n t):=by
 intro pins s σ H v u Q I r hw
 obtain⟨a,xs,e1,hq,hl,hw⟩:=hw
 subst e1
 cases r
 obtain⟨its,rv,pl,hz⟩:=I.list hq
 refine iY (I.ok.hd hc) pl.isList (by simp[hn,←hl,rv.length]) hst λh' hx=>?_
 have I1:Inv X pins σ H { s with heap:=h' }:=I.kept (t':=s.toks) λb o e=>hx b o (Ö (Å e)) e
 exact h pins _ σ H xs _ Q I1 (by simpa using rv) hw
variable [Gr]
def gTL(n:Nat)(gs:DGs):DG:=λk d ρ P=>match d with
 |.list ds=>ds.length=n/\gs k ds ρ P
 |_=>False
def sS{es:List Expr}{gs:DGs}{k n:Nat}(hc:X.calm=true)(h:PGs X es (iM gs))(hn:(assignEach es X.env).length=n:=by rfl)(hst:(assignEach es X.env).findIdx? (·.1)=none:=by rfl):PDG X (.Tuple es k pos) (gTL n gs):=PG.wk (Dv hc h hn hst) (by
 rintro v σ H Q ⟨p,H0,own,ρ,k,d,P,E,r,t,q⟩
 cases d with
 |list ds =>
  obtain⟨a,vs,rfl,_,ha,rs⟩:=r.bB
  exact⟨a,vs,rfl,SqL.of ha,by rw[rs.length];exact t.1,p,H0,own,ρ,k,ds,P,E,rs,t.2,q⟩
 |_=>exact t.elim)
end
section
variable {X:Cx}{pos:Pos}{a:Expr}{t:DA} [Gr]
def vC(f:Int->Int->Int)(le:Int->Int->Prop):GC:=λks P=>match ks with
 |[(_,.tuple [.int i,.int j])]=>P .imm (.int (f i j))
 |[(_,.list ds)]=>∃ns:List Int,ds=ns.map Þ/\ns≠[]/\∀M,M∈ns->(∀a∈ns,le M a)->P .imm (.int M)
 |_=>False
def oA{ps:Pos}(hc:X.calm=true)(hm:X.mg "min"=none)(ha:PDA X [a] t)(hg:Gl X "min":=by rfl)(he:zS X a []:=by rfl)(hpl:zP X pos []:=by rfl):PD X (.Call (.Name "min" ps) [a] [] pos) (tCl (vC (λi j=>if j<i then j else i) (λM a=>M<=a)) t) :=
 bT (aK.or (vR hc) (vU hc)) (by
  intro p H0 own Hb H vs ks P Q A r t q
  unfold vC at t
  split at t
  ·rename_i k i j
   obtain⟨v,rfl,r'⟩:=bY r
   obtain⟨x,xs,e1,h1,rs1⟩:=Rp.bK r'
   obtain⟨v1,v2,e2,q1,q2⟩:=Rps.two rs1
   subst e1 e2
   rw[q1.int',q2.int'] at h1
   exact .inl ⟨x,i,j,rfl,SqT.of h1,q _ _ _ _ t Kp.refl A.pen (.int _)⟩
  ·obtain⟨ns,rfl,hne,t⟩:=t
   obtain⟨v,rfl,r'⟩:=bY r
   obtain⟨x,xs,e1,o1,h1,rs1⟩:=Rp.bB r'
   subst e1
   have e2:=Rps.ints rs1
   subst e2
   exact .inr ⟨x,ns,rfl,SqL.of h1,hne,λM h1 h2=>q _ _ _ _ (t M h1 h2) Kp.refl A.pen (.int _)⟩
  ·exact t.elim) hg hm boot_min ha (by decide) (by decide) he hpl
def oF{ps:Pos}(hc:X.calm=true)(hm:X.mg "max"=none)(ha:PDA X [a] t)(hg:Gl X "max":=by rfl)(he:zS X a []:=by rfl)(hpl:zP X pos []:=by rfl):PD X (.Call (.Name "max" ps) [a] [] pos) (tCl (vC (λi j=>if j > i then j else i) (λM a=>a<=M)) t) :=
 bT (aK.or (vW hc) (vX hc)) (by
  intro p H0 own Hb H vs ks P Q A r t q
  unfold vC at t
  split at t
  ·rename_i k i j
   obtain⟨v,rfl,r'⟩:=bY r
   obtain⟨x,xs,e1,h1,rs1⟩:=Rp.bK r'
   obtain⟨v1,v2,e2,q1,q2⟩:=Rps.two rs1
   subst e1 e2
   rw[q1.int',q2.int'] at h1
   exact .inl ⟨x,i,j,rfl,SqT.of h1,q _ _ _ _ t Kp.refl A.pen (.int _)⟩
  ·obtain⟨ns,rfl,hne,t⟩:=t
   obtain⟨v,rfl,r'⟩:=bY r
   obtain⟨x,xs,e1,o1,h1,rs1⟩:=Rp.bB r'
   subst e1
   have e2:=Rps.ints rs1
   subst e2
   exact .inr ⟨x,ns,rfl,SqL.of h1,hne,λM h1 h2=>q _ _ _ _ (t M h1 h2) Kp.refl A.pen (.int _)⟩
  ·exact t.elim) hg hm boot_max ha (by decide) (by decide) he hpl
variable {b:Expr}{ta tb:DE}
end
section
variable {X:Cx}
end
section
variable {X:Cx}{pos:Pos}{a e:Expr}{te ta:DE}{t:DA}{st st2:Stmt}{rest:List Stmt} [Gr]
end
section
variable {X:Cx}{tg iter c:Expr}{pos pos1:Pos}{ret:Stmt}{ti:DI}{g:DG}{tc:DT} [Gr]
end
end Dl
namespace L2
open PySem PySem.Spec PyProof.Rows
end L2
set_option autoImplicit true
set_option relaxedAutoImplicit true
namespace Wr
open PySem L2 PyProof.Rows Dl
structure WD[Gr](X:Cx)(e:Expr)(t:DE):Prop where
 h:PD X e t
structure WDT[Gr](X:Cx)(e:Expr)(t:DT):Prop where
 h:PDT X e t
structure WDW[Gr](X:Cx)(e:Expr)(t:DT):Prop where
 h:PDW X e t
structure WDA[Gr](X:Cx)(e:List Expr)(t:DA):Prop where
 h:PDA X e t
structure WDS[Gr](X:Cx)(e:Stmt)(t:DS):Prop where
 h:PDS X e t
structure WDSs[Gr](X:Cx)(e:List Stmt)(t:DS):Prop where
 h:jx X e t
structure WDI[Gr](X:Cx)(tg e:Expr)(t:DI):Prop where
 h:PDI X tg e t
structure WDG[Gr](X:Cx)(e:Expr)(t:DG):Prop where
 h:PDG X e t
structure WDGs[Gr](X:Cx)(e:List Expr)(t:DGs):Prop where
 h:PGs X e (iM t)
structure WDTs[Gr](X:Cx)(e:List Expr)(t:DT):Prop where
 h:FZ X e t
structure WDO[Gr](X:Cx)(e:Option Expr)(t:DO):Prop where
 h:PO X e (kZ t)
structure WV(X:Cx)(e:Expr)(i:Nat):Prop where
 h:PE X e (lV i)
structure WC(X:Cx)(e:Expr)(v:V):Prop where
 h:PE X e (tC v)
section
variable [Gr]
def wv(i:Nat){x:Str}{pos:Pos}(hN:X.N[i]?=some x:=by rfl)(hv:Vis X.env.scope x:=by first|exact Ş rfl|exact Ż (Ş rfl)|exact Ż (Ż rfl))(hd:zB x:=by decide)(hcd:(x == ("__classdict__":Str))=false:=by decide):WV X (.Name x pos) i:=⟨pv i hN hv hd hcd⟩
def wpt{t:DT}(h:WDW X e t):WDT X e t:=⟨PDW.pt h.h⟩
def fH{op op':CmpOp}{f f':Int->Int->Bool}(ho:OpR X (compareOp op) (rI0 λi j=>.bl (f i j)))(ho':OpR X (compareOp op') (rI0 λi j=>.bl (f' i j)))(ha:WD X a ta)(hb:WD X b tb)(hc:WD X c tc)(hm:lastMarks [op,op'] [b,c]=false:=by with_unfolding_all rfl):WDT X (.Compare a [op,op'] [b,c] pos) (jl (tCh f f' ta tb tc)):=⟨Dl.fH (xG ho ho' ha.h hb.h hc.h hm) uf⟩
def wty{x:Str}{T:String}(hg:Gl X x)(hm:X.mg x=none)(hv:bootBuiltins x=some (.type T))(hn:x≠"__name__":=by decide)(hd:zB x:=by decide):WC X (.Name x ps) (.ty T):=⟨nR hg hm hv rfl hn hd⟩
def pH{i:Nat}{x:Str}{e:Expr}{te:DE}{pos' pos:Pos}(rg:Option Nat)(hN:X.N.Nodup)(hi:X.N[i]?=some x)(hx:Loc X.env.scope x)(he:WD X e te)(hs:swapsWith e (some (.Name x pos')) pos.line X.env=pure false:=by rfl)(hf:zL X x:=by first|exact .inl rfl|exact .inr rfl|assumption) :
  WDS X (.Assign [.Name x pos'] e pos) (vJ i rg te):=⟨Dl.pH rg (cR hN hi hx he.h hs hf)⟩
def bU{i:Nat}{x:Str}{e:Expr}{es:List Expr}{apos cpos np pos:Pos}(hv:WV X (.Name x np) i)(ha:WDA X (e::es) (dH te mq))(hbase:attributeBase (.Name x np) "append" X.env (eval (.Name x np) X.env)=eval (.Name x np) X.env:=by rfl)(hfew:zW X cpos (e::es):=by rfl)(hline:(apos.endLine == cpos.line)=true:=by rfl)(hst:zS X e es:=by rfl)(hplain:zP X cpos es:=by rfl)(hs:swapsWith (.Call (.Attribute (.Name x np) "append" apos) (e::es) [] cpos) none pos.line X.env=pure false:=by rfl) :
  WDS X (.Expr (.Call (.Attribute (.Name x np) "append" apos) (e::es) [] cpos) pos) (FJ i te):=⟨Dl.bU (nP (tY PySem.F.plainAttrs_list PySem.F.slot_list_append PySem.F.type_list_append u9 hv.h ha.h hbase hfew hline hst hplain) hs)⟩
def dU{x:Str}{i:Int}{u:Value}{ps:Pos}(hg:Gl X x)(hm:X.mg x=some u)(r:RelV (.int i) u)(hd:zB x:=by decide):WD X (.Name x ps) (tK (.int i)):=⟨Dl.dU hg hm r hd⟩
def jO{i:Nat}{x:Str}(hN:X.N.Nodup)(hi:X.N[i]?=some x)(hx:Loc X.env.scope x)(hf:zL X x:=by first|exact .inl rfl|exact .inr rfl|assumption):WDG X (.Name x pos) (gNm i):=⟨Dl.jO (tW hN hi hx hf)⟩
def j7{i:Int}{j:Nat}:WD X (.Constant (.int i) j pos) (tK (.int i)):=⟨Dl.j7 ⟩
def yc{i:Bool}{j:Nat}:WD X (.Constant (.bool i) j pos) (tK (.bool i)):=⟨Dl.yc ⟩
def fY{j:Nat}:WD X (.Constant .none j pos) (tK .none):=⟨Dl.fY ⟩
def rJ{x:Str}{j:Nat}:WD X (.Constant (.str x) j pos) (tK (.str x)):=⟨Dl.rJ ⟩
def nW{e:Expr}{t:DE}(h:WD X e t)(he:∀whole,isTrue e X.env whole=(do let v ←whole;standAt e.pos;holding [v] (truthy v)):=by intro _;rfl):WDT X e (jl t):=⟨Dl.nW (h:=h.h) (he:=he)⟩
def nY{t:DT}(ha:WDT X a t):WDT X (.UnaryOp .Not a pos) (HY t):=⟨Dl.nY (ha:=ha.h)⟩
def nU(ha:WDT X a t):WDW X (.BoolOp .Or [a] pos) t:=⟨Dl.nU (ha:=ha.h)⟩
def rG{rest:List Expr}(ha:WDT X a t)(hb:WDW X (.BoolOp .Or (b::rest) pos) u):WDW X (.BoolOp .Or (a::b::rest) pos) (dOr t u):=⟨Dl.rG (ha:=ha.h) (hb:=hb.h)⟩
def cD :WDA X [] mq:=⟨Dl.cD ⟩
def bR(ha:WD X e te)(hr:WDA X es t)(hs:zS X e es:=by rfl):WDA X (e::es) (dH te t):=⟨Dl.bR (ha:=ha.h) (hr:=hr.h) (hs:=hs)⟩
def jE(h:WDA X es t):WD X (.List es pos) (Cd t):=⟨Dl.jE (h:=h.h)⟩
def j4{x1}(h:WDA X es t):WD X (.Tuple es x1 pos) (wI t):=⟨Dl.j4 (h:=h.h)⟩
def rH(ha:WD X a ta)(hb:WD X b tb):WD X (.BinOp a .Sub b pos) (t2 (gI0 λi j=>.int (i - j)) ta tb):=⟨Dl.rH (ha:=ha.h) (hb:=hb.h)⟩
def rK(ha:WD X a ta)(hb:WD X b tb):WD X (.BinOp a .Mod b pos) (t2 (gI (λ_ j=>0<j) λi j=>.int (i % j)) ta tb):=⟨Dl.rK (ha:=ha.h) (hb:=hb.h)⟩
def xZ(ha:WD X a ta)(hb:WD X b tb):WD X (.Compare a [.Gt] [b] pos) (t2 (gI0 λi j=>.bool (decide (j<i))) ta tb):=⟨Dl.xZ (ha:=ha.h) (hb:=hb.h)⟩
def nZ(ha:WD X a ta)(hb:WD X b tb):WDT X (.Compare a [.Gt] [b] pos) (jl (t2 (gI0 λi j=>.bool (decide (j<i))) ta tb)):=⟨Dl.nZ (ha:=ha.h) (hb:=hb.h)⟩
def dR{ps:Pos}(hm:X.mg "len"=none)(ha:WDA X [a] t)(hg:Gl X "len":=by rfl)(he:zS X a []:=by rfl)(hpl:zP X pos []:=by rfl):WD X (.Call (.Name "len" ps) [a] [] pos) (tCl Bx t):=⟨Dl.dR (hm:=hm) (ha:=ha.h) (hg:=hg) (he:=he) (hpl:=hpl)⟩
def jG{ps:Pos}(hm:X.mg "int"=none)(hv:bootBuiltins "int"=some (.type "int"))(ha:WDA X [a] t)(hg:Gl X "int":=by rfl)(he:zS X a []:=by rfl)(hpl:zP X pos []:=by rfl):WD X (.Call (.Name "int" ps) [a] [] pos) (tCl Fl t):=⟨Dl.jG (hm:=hm) (hv:=hv) (ha:=ha.h) (hg:=hg) (he:=he) (hpl:=hpl)⟩
def sI :WDSs X [] CT:=⟨Dl.sI ⟩
def iz{st:Stmt}{rest:List Stmt}(h1:WDS X st t)(h2:WDSs X rest u):WDSs X (st::rest) (lJ t u):=⟨Dl.iz (h1:=h1.h) (h2:=h2.h)⟩
def gq{st:Stmt}(h1:WDS X st t):WDSs X [st] t:=⟨Dl.gq (h1:=h1.h)⟩
def eN{st:Stmt}:WDS X st (λ_ _=>False):=⟨Dl.eN ⟩
def iV(he:WD X e te):WDS X (.Return (some e) pos) (zV te):=⟨Dl.iV (he:=he.h)⟩
def zM{c:Expr}{a b:List Stmt}{tc:DT}(hc:WDT X c tc)(ha:WDSs X a t)(hb:WDSs X b u):WDS X (.If c a b pos) (dIf tc t u):=⟨Dl.zM (hc:=hc.h) (ha:=ha.h) (hb:=hb.h)⟩
def jN(he:WD X e te)(hs:swapsWith e none pos.line X.env=pure false:=by rfl):WDS X (.Expr e pos) (CV te):=⟨Dl.jN (he:=he.h) (hs:=hs)⟩
def cG :WDGs X [] yP:=⟨Dl.cG ⟩
def lG{g:DG}{gs:DGs}(h1:WDG X e g)(h2:WDGs X es gs)(hs:(assignEach (e::es) X.env).map (·.2)=assign e X.env::(assignEach es X.env).map (·.2):=by rfl):WDGs X (e::es) (o9 g gs):=⟨Dl.lG (h1:=h1.h) (h2:=h2.h) (hs:=hs)⟩
def gA{gs:DGs}{k n:Nat}(hc:X.calm=true)(h:WDGs X es gs)(hn:(assignEach es X.env).length=n:=by rfl)(hst:(assignEach es X.env).findIdx? (·.1)=none:=by rfl):WDG X (.Tuple es k pos) (gTp n gs):=⟨Dl.gA (hc:=hc) (h:=h.h) (hn:=hn) (hst:=hst)⟩
def sO(hl:WD X l tl):WDI X tg l (iSq tl):=⟨Dl.sO (hl:=hl.h)⟩
def cO{a:Expr}{ps:Pos}(hm:X.mg "range"=none)(ha:WDA X [a] ta)(hg:Gl X "range":=by rfl)(hs:starEach [a] X.env=[(false,eval a X.env)]:=by rfl):WDI X tg (.Call (.Name "range" ps) [a] [] pos) (iR1 ta):=⟨Dl.cO (hm:=hm) (ha:=ha.h) (hg:=hg) (hs:=hs)⟩
def gw{body:List Stmt}(hp:PassesOwn (model X.prog X.w) X.A X.env X.xe)(hc:X.calm=true)(hi:WDI X tg iter ti)(hg:WDG X tg g)(hb:WDSs X body tb)(hs:zF X iter:=by intro _;rfl):WDS X (.For tg iter body [] pos) (Ia ti g tb):=⟨Dl.gw (hp:=hp) (hc:=hc) (hi:=hi.h) (hg:=hg.h) (hb:=hb.h) (hs:=hs)⟩
def pG{X:Cx}:WDTs X [] (λ_ P=>P true):=⟨Dl.pG ⟩
def xX(own:List Str)(hc:X.calm=true)(hi:WDI X tg iter ti)(hg:∀c,WDG (X.comp own scope c) tg g)(ht:∀c,WDTs (X.comp own scope c) ifs tt)(he:∀c,WD (X.comp own scope c) elt te)(hk:gB X.env scope X.N=true:=by rfl)(hs:zF X iter:=by intro _;rfl):WD X (.ListComp elt [⟨tg,iter,ifs,0⟩] scope pos) (dLC own.length ti g tt te):=⟨Dl.xX (own:=own) (hc:=hc) (hi:=hi.h) (hg:=λc=>(hg c).h) (ht:=λc=>(ht c).h) (he:=λc=>(he c).h) (hk:=hk) (hs:=hs)⟩
def cH{op}(h:WD X a ta):WD X (.BoolOp op [a] pos) ta:=⟨Dl.cH (h:=h.h)⟩
def kj{rest:List Expr}(ha:WD X a ta)(hb:WD X (.BoolOp .And (b::rest) pos) tb):WD X (.BoolOp .And (a::b::rest) pos) (tD ta tb):=⟨Dl.kj (ha:=ha.h) (hb:=hb.h)⟩
def xW{rest:List Expr}(ha:WD X a ta)(hb:WD X (.BoolOp .Or (b::rest) pos) tb):WD X (.BoolOp .Or (a::b::rest) pos) (Gk ta tb):=⟨Dl.xW (ha:=ha.h) (hb:=hb.h)⟩
def j8{u:DT}(hc:WDT X c u)(ha:WD X a ta)(hb:WD X b tb):WD X (.IfExp c a b pos) (Gu u ta tb):=⟨Dl.j8 (hc:=hc.h) (ha:=ha.h) (hb:=hb.h)⟩
def iJ{ps:Pos}(hc:X.calm=true)(hm:X.mg "all"=none)(hv:bootBuiltins "all"=some (.builtin "all"))(ha:WDA X [a] t)(hg:Gl X "all":=by rfl)(he:zS X a []:=by rfl)(hpl:zP X pos []:=by rfl):WD X (.Call (.Name "all" ps) [a] [] pos) (tCl Fp t):=⟨Dl.iJ (hc:=hc) (hm:=hm) (hv:=hv) (ha:=ha.h) (hg:=hg) (he:=he) (hpl:=hpl)⟩
def oG{ps:Pos}(hc:X.calm=true)(hm:X.mg "max"=none)(ha:WDA X [a,b] t)(hg:Gl X "max":=by rfl)(he:starEach [a,b] X.env=(false,eval a X.env)::starEach [b] X.env:=by rfl)(hpl:(backTo pos (starEach [b] X.env)).any (·.1)=false:=by rfl):WD X (.Call (.Name "max" ps) [a,b] [] pos) (tCl (gMM λi j=>if j > i then j else i) t):=⟨Dl.oG (hc:=hc) (hm:=hm) (ha:=ha.h) (hg:=hg) (he:=he) (hpl:=hpl)⟩
def oE{ps:Pos}(hc:X.calm=true)(hm:X.mg "min"=none)(ha:WDA X [a,b] t)(hg:Gl X "min":=by rfl)(he:starEach [a,b] X.env=(false,eval a X.env)::starEach [b] X.env:=by rfl)(hpl:(backTo pos (starEach [b] X.env)).any (·.1)=false:=by rfl):WD X (.Call (.Name "min" ps) [a,b] [] pos) (tCl (gMM λi j=>if j<i then j else i) t):=⟨Dl.oE (hc:=hc) (hm:=hm) (ha:=ha.h) (hg:=hg) (he:=he) (hpl:=hpl)⟩
def cU{ps:Pos}(hm:X.mg "tuple"=none)(ha:WDA X [a] t)(hg:Gl X "tuple":=by rfl)(he:zS X a []:=by rfl)(hpl:zP X pos []:=by rfl):WD X (.Call (.Name "tuple" ps) [a] [] pos) (tCl yR t):=⟨Dl.cU (hm:=hm) (ha:=ha.h) (hg:=hg) (he:=he) (hpl:=hpl)⟩
def cJ{ps:Pos}(hm:X.mg "sorted"=none)(ha:WDA X [a] t)(hg:Gl X "sorted":=by rfl)(he:zS X a []:=by rfl)(hpl:zP X pos []:=by rfl):WD X (.Call (.Name "sorted" ps) [a] [] pos) (tCl sE t):=⟨Dl.cJ (hm:=hm) (ha:=ha.h) (hg:=hg) (he:=he) (hpl:=hpl)⟩
def cY :WDO X none Cw:=⟨Dl.cY ⟩
def cX(h:WD X e te):WDO X (some e) (Cv te):=⟨Dl.cX (h:=h.h)⟩
def dc{f:List D->(D->Prop)->Prop}(C:Cal X.prog X.w X.K X.mg X.base k x ps (spD f))(hr:Room j X.A)(ha:WDA X (e::es) t)(hk:k<=j:=by decide)(hg:Gl X x:=by rfl)(hdb:zB x:=by decide)(he:zS X e es:=by rfl)(hpl:zP X pos es:=by rfl):WD X (.Call (.Name x p) (e::es) [] pos) (tFn f t):=⟨Dl.dc (C:=C) (hr:=hr) (ha:=ha.h) (hk:=hk) (hg:=hg) (hdb:=hdb) (he:=he) (hpl:=hpl)⟩
def dcP{C:Pn->Prop}{i:Nat}{f:List D->(D->Prop)->Prop}{y:Str}{py:Pos}(CC:Cal X.prog X.w X.K X.mg X.base k x ps (spP C f))(hr:Room j X.A)(hi:WV X (.Name y py) i)(ha:WDA X es t)(hk:k<=j:=by decide)(hg:Gl X x:=by rfl)(hdb:zB x:=by decide)(he:starEach (.Name y py::es) X.env=(false,eval (.Name y py) X.env)::starEach es X.env:=by rfl)(hpl:zP X pos es:=by rfl):WD X (.Call (.Name x p) (.Name y py::es) [] pos) (Dd C f i t):=⟨Dl.dcP (CC:=CC) (hr:=hr) (hi:=hi.h) (ha:=ha.h) (hk:=hk) (hg:=hg) (hdb:=hdb) (he:=he) (hpl:=hpl)⟩
def dv(i:Nat){x:Str}{pos:Pos}(hN:X.N[i]?=some x:=by rfl)(hv:Vis X.env.scope x:=by first|exact Ş rfl|exact Ż (Ş rfl)|exact Ż (Ż rfl))(hd:zB x:=by decide)(hcd:(x == ("__classdict__":Str))=false:=by decide):WD X (.Name x pos) (tV i):=⟨Dl.dv (i:=i) (hN:=hN) (hv:=hv) (hd:=hd) (hcd:=hcd)⟩
def rM(ha:WD X a ta)(hb:WD X b tb):WD X (.Compare a [.Is] [b] pos) (t2 vD ta tb):=⟨Dl.rM (ha:=ha.h) (hb:=hb.h)⟩
def jD(ha:WD X a ta)(hb:WD X b tb):WDT X (.Compare a [.Is] [b] pos) (jl (t2 vD ta tb)):=⟨Dl.jD (ha:=ha.h) (hb:=hb.h)⟩
def xY(ha:WD X a ta)(hb:WD X b tb)(hs:iC b:=by exact λ_ _=>rfl):WD X (.Subscript a b pos) (t2 gIx ta tb):=⟨Dl.xY (ha:=ha.h) (hb:=hb.h) (hs:=hs)⟩
def oh(ha:WD X a ta)(hb:WD X b tb):WD X (.BinOp a .Add b pos) (t2 CN ta tb):=⟨Dl.oh (ha:=ha.h) (hb:=hb.h)⟩
def j5(ha:WD X a ta)(hb:WD X b tb):WD X (.BinOp a .Mult b pos) (t2 yS ta tb):=⟨Dl.j5 (ha:=ha.h) (hb:=hb.h)⟩
def dW(hu:X.A.units+64<cLine)(ha:WD X a ta)(hb:WD X b tb):WD X (.Compare a [.Eq] [b] pos) (t2 (ju false) ta tb):=⟨Dl.dW (hu:=hu) (ha:=ha.h) (hb:=hb.h)⟩
def ou(hu:X.A.units+64<cLine)(ha:WD X a ta)(hb:WD X b tb):WD X (.Compare a [.NotEq] [b] pos) (t2 (ju true) ta tb):=⟨Dl.ou (hu:=hu) (ha:=ha.h) (hb:=hb.h)⟩
def cT(hu:X.A.units+64<cLine)(ha:WD X a ta)(hb:WD X b tb):WDT X (.Compare a [.NotEq] [b] pos) (jl (t2 (ju true) ta tb)):=⟨Dl.cT (hu:=hu) (ha:=ha.h) (hb:=hb.h)⟩
def sJ{rest:List Stmt}(i:Nat)(h:WDSs X rest t):WDSs X rest (Fz i t):=⟨Dl.sJ (i:=i) (h:=h.h)⟩
def lE{rest:List Stmt}(js:List Nat)(h:WDSs X rest t):WDSs X rest (zX js t):=⟨Dl.lE (js:=js) (h:=h.h)⟩
def qj{lo hi:Option Expr}{tl th:DO}(he:WD X e te)(hl:WDO X lo tl)(hh:WDO X hi th):WD X (.Subscript e (.Slice lo hi none p2) pos) (Gh te tl th):=⟨Dl.qj (he:=he.h) (hl:=hl.h) (hh:=hh.h)⟩
def sS{es:List Expr}{gs:DGs}{k n:Nat}(hc:X.calm=true)(h:WDGs X es gs)(hn:(assignEach es X.env).length=n:=by rfl)(hst:(assignEach es X.env).findIdx? (·.1)=none:=by rfl):WDG X (.Tuple es k pos) (gTL n gs):=⟨Dl.sS (hc:=hc) (h:=h.h) (hn:=hn) (hst:=hst)⟩
def oA{ps:Pos}(hc:X.calm=true)(hm:X.mg "min"=none)(ha:WDA X [a] t)(hg:Gl X "min":=by rfl)(he:zS X a []:=by rfl)(hpl:zP X pos []:=by rfl):WD X (.Call (.Name "min" ps) [a] [] pos) (tCl (vC (λi j=>if j<i then j else i) (λM a=>M<=a)) t):=⟨Dl.oA (hc:=hc) (hm:=hm) (ha:=ha.h) (hg:=hg) (he:=he) (hpl:=hpl)⟩
def oF{ps:Pos}(hc:X.calm=true)(hm:X.mg "max"=none)(ha:WDA X [a] t)(hg:Gl X "max":=by rfl)(he:zS X a []:=by rfl)(hpl:zP X pos []:=by rfl):WD X (.Call (.Name "max" ps) [a] [] pos) (tCl (vC (λi j=>if j > i then j else i) (λM a=>a<=M)) t):=⟨Dl.oF (hc:=hc) (hm:=hm) (ha:=ha.h) (hg:=hg) (he:=he) (hpl:=hpl)⟩
end
section
def cL[Gr]{T:String}{x:Str}{e:Expr}{te:DE}{ps pt pos:Pos}(hk:∀t:Value,(t=.type "NoneType"\/t=.type "bool"\/t=.type "int"\/t=.type "str"\/t=.type "list"\/t=.type "tuple"\/t=.type "dict")->∃n,t=.type n/\ū X.K t (.type T)=some (n == T || (T == "int"&&n == "bool")))(hm:X.mg "isinstance"=none)(he:WD X e te)(hT:WC X (.Name x pt) (.ty T))(hg:Gl X "isinstance":=by rfl)(h1:starEach [e,.Name x pt] X.env=(false,eval e X.env)::starEach [.Name x pt] X.env:=by rfl)(h2:starEach [.Name x pt] X.env=(false,eval (.Name x pt) X.env)::starEach [] X.env:=by rfl)(hpl:(backTo pos (starEach [.Name x pt] X.env)).any (·.1)=false:=by rfl) :
  WD X (.Call (.Name "isinstance" ps) [e,.Name x pt] [] pos) (tIs T te):=⟨Dl.cL hk hm he.h hT.h hg h1 h2 hpl⟩
def gQ[Gr]{x y:Str}{ps pt pt' pp pos:Pos}{kk:Nat}{e:Expr}{te:DE}(hm:X.mg "isinstance"=none)(he:WD X e te)(hT:WC X (.Name x pt) (.ty "list"))(hT':WC X (.Name y pt') (.ty "tuple"))(hg:Gl X "isinstance":=by rfl)(h1:starEach [e,.Tuple [.Name x pt,.Name y pt'] kk pp] X.env=(false,eval e X.env)::starEach [.Tuple [.Name x pt,.Name y pt'] kk pp] X.env:=by rfl)(h2:starEach [.Tuple [.Name x pt,.Name y pt'] kk pp] X.env=(false,eval (.Tuple [.Name x pt,.Name y pt'] kk pp) X.env)::starEach [] X.env:=by rfl)(h3:starEach [.Name x pt,.Name y pt'] X.env=(false,eval (.Name x pt) X.env)::starEach [.Name y pt'] X.env:=by rfl)(h4:starEach [.Name y pt'] X.env=(false,eval (.Name y pt') X.env)::starEach [] X.env:=by rfl)(hpl:(backTo pos (starEach [.Tuple [.Name x pt,.Name y pt'] kk pp] X.env)).any (·.1)=false:=by rfl) :
  WD X (.Call (.Name "isinstance" ps) [e,.Tuple [.Name x pt,.Name y pt'] kk pp] [] pos) (Gs te):=⟨Dl.gQ hm he.h hT.h hT'.h hg h1 h2 h3 h4 hpl⟩
end
end Wr
set_option autoImplicit false
set_option autoImplicit true
namespace Wr
open PySem L2 PyProof.Rows Dl
section
variable [Gr] {X:Cx}{tj te:DE}
end
section
variable [Gr] {X:Cx}{tj te te1 te2 ta:DE}{t:DS}
end
end Wr
namespace Dl
open PySem L2 PyProof.Rows
section
variable {X:Cx}{pins:List (Addr×Obj)}{σ:L2.St}{H:Hp}{s:Shared}{ok ok':Addr->Prop}
end
section
variable {X:Cx}{pos:Pos}{a e:Expr}{te:DE}{t:DA} [Gr]
end
section
variable [Gr]
abbrev DR:=(D->Prop)->List Sl->Prop
structure WishR(p:Pn)(own:Addr->Option Nat)(H:Hp)(P:D->Prop)(Q:Ends):Prop where
 rt:∀d v H',P d->p.PI H'->(∀b o,H b=some o->¬p.fp b->own b=none->H' b=some o)->Rp (λa=>¬p.fp a) H' v d->Q.rt v H'
def Hr(t:DR):TS:=λQ σ H=>∃p H0 own ρ P,EnvD p H0 own σ H ρ/\t P ρ/\WishR p own H P Q
structure WR(X:Cx)(ss:List Stmt)(t:DR):Prop where
 h:PSs X ss (Hr t)
variable {X:Cx}{pos:Pos}{e:Expr}{te:DE}{st:Stmt}{rest:List Stmt}{t:DS}{u:DR}
variable {k j:Nat}{x:Str}{ps:List Str}{es:List Expr}{ta:DA}{p:Pos}
end
end Dl
namespace Wr
open PySem L2 PyProof.Rows Dl
variable [Gr] {X:Cx}{pos:Pos}{a:Expr}{t:DA}
end Wr
namespace L2
open PySem PySem.Spec PyProof.Rows
def Ga(K:Í)(a b:Addr):It :=
 ⟨λi H=>∃xs ys x y,SqL K H a xs/\SqL K H b ys/\xs[i]?=some x/\ys[i]?=some y,λi H v H'=>∃t x y,v=.ref t/\H t=none/\H'=upd H t (.tup [x,y])/\(∀xs,SqL K H a xs->xs[i]?=some x)/\∀ys,SqL K H b ys->ys[i]?=some y,λi H=>∃xs ys,SqL K H a xs/\SqL K H b ys/\(xs.length<=i\/ys.length<=i)⟩
def wG{P:Program}{w:World}{K:Í}{elts:List Expr}{kk:Nat}{pos:Pos}{a b z TI TO i1 i2:Addr}(D:ZipApart z TI TO i1 i2 a b) :
  Turn P w K (.Tuple elts kk pos) (Ga K a b) [z,TI,TO,i1,i2] z (λi h=>IsZip h z TI TO .none/\IsPair h TI (.ref i1) (.ref i2)/\(∃u v,IsPair h TO u v)/\h.IsListIter i1 a i/\h.IsListIter i2 b i) where
 mem:=by simp
 obj:=λi h st c hc=>by
  obtain⟨hz,hTI,⟨u,v,hTO⟩,⟨o1,j1,c1,d1⟩,⟨o2,j2,c2,d2⟩⟩:=st
  simp only[Ï,æ,or_false] at hc
  rcases hc with rfl|rfl|rfl|rfl|rfl
  ·exact⟨_,hz,λv z=>nomatch z⟩
  ·exact⟨_,hTI,λv z=>nomatch z⟩
  ·exact⟨_,hTO,λv z=>nomatch z⟩
  ·exact⟨o1,j1,λv z=>by rw[d1] at z;cases z⟩
  ·exact⟨o2,j2,λv z=>by rw[d2] at z;cases z⟩
 keep:=λi h h' st k=>by
  obtain⟨hz,hTI,⟨u,v,hTO⟩,⟨o1,j1,r1⟩,⟨o2,j2,r2⟩⟩:=st
  exact⟨k z (by simp) _ hz,k TI (by simp) _ hTI,⟨u,v,k TO (by simp) _ hTO⟩,⟨o1,k i1 (by simp) _ j1,r1⟩,⟨o2,k i2 (by simp) _ j2,r2⟩⟩
 item:=by
  intro X hP hw hK hc i pins s σ H E I hf st hg
  subst hP hw hK
  obtain⟨xs,ys,x,y,hq,hq2,hx,hy⟩:=hg
  obtain⟨its,rv,pl,hz1⟩:=I.list hq
  obtain⟨its2,rv2,pl2,hz2⟩:=I.list hq2
  obtain⟨u,hu,ru⟩:=rv.get hx
  obtain⟨u2,hu2,ru2⟩:=rv2.get hy
  obtain⟨hz,hTI,hTO,h1,h2⟩:=st
  have W:=WalksT.zip2 (prog:=X.prog) (w:=X.w) (A:=X.A) (I.ok.hd hc) z TI TO i1 i2 a b D its.toArray its2.toArray
  have l1:=(Ñ.mp hu).1
  have l2:=(Ñ.mp hu2).1
  refine W.item i s _ _ (by simp;omega) ⟨hz,hTI,hTO,h1,h2,pl.isList,pl2.isList⟩ λT vals h' tk hP hTs hTup hMid hk=>⟨_,rfl,?_⟩
  obtain⟨x',y',e1,e2,rfl⟩:=hP
  have ex:x'=u:=by
   have:its[i]?=some x':=by simpa using e1
   rw[hu] at this
   exact(Ì this).symm
  have ey:y'=u2:=by
   have:its2[i]?=some y':=by simpa using e2
   rw[hu2] at this
   exact(Ì this).symm
  subst ex ey
  have ap:=W.apart i T h' hMid
  refine W.go elts kk pos i T _ _ _ hMid λh3 hst3 hk3=>?_
  have hTn:H T=none:=I.hok.fresh hTs
  have keep2:∀c o,c∉[z,TO,i1,i2]->s.heap.get? c=some o->h3.get? c=some o:=λc o hc q=>hk3 c o hc (hk c o hc q)
  have fz:∀c∈[z,TO,i1,i2],fj X pins H c:=λc hc=>hf c (by
   simp only[Ï,æ,or_false] at hc ⊢
   rcases hc with h|h|h|h <;> simp[h])
  have nT:∀{c:Addr}{y:HO},H c=some y->c∉[z,TO,i1,i2]:=λ{c y} q hc=>by
   have:=(fz c hc).1
   rw[this] at q
   cases q
  obtain⟨oT,hT1,hT2,nn,hT3⟩:=hTup
  have hTup3:IsTup h3 T #[x',y']:=⟨oT,hk3 T oT ap hT1,hT2,nn,hT3⟩
  have J:Inv X pins σ (upd H T (.tup [x,y])) { s with heap:=h3,toks:=tk }:=by
   refine I.step (g':=s.gens) (d':=s.drawn) (t':=tk) (ch:=[z,TO,i1,i2]) (λc hc=>?_) (λc o _ _ hcb q _=>keep2 c o hcb q)
    (λc o _ _ hcb q _=>⟨o.slots,keep2 c o hcb q⟩) (λc o _ q n=>by rw[aj (Ö (Õ (Å q) hTs))];exact n)
    (λc o hcb q=>⟨o,keep2 c o hcb q⟩) (λc ys q=>by rw[aj (ak q hTn)];exact q) (λc o y q=>by rw[aj (ak q hTn)];exact q)
    (λc ps q=>⟨#[],by rw[aj (ak q hTn),q];simp⟩) (λm hm=>?_) ?_ I.bare
   ·obtain⟨e0,e1,e2,e3,e4,e5⟩:=fz c hc
    exact⟨e3,e1,e4,e5⟩
   ·obtain⟨o,es,ep,ho',r⟩:=hm
    refine⟨o,es,ep,keep2 _ o (λhc=>?_) ho',r⟩
    exact(fz _ hc).2.1 rfl
   ·intro c u' q
    by_cases hb:c=T
    ·subst hb
     rw[ao] at q
     cases q
     exact⟨(by show 2<=sizeLine;decide),[x',y'],.cons ru (.cons ru2 .nil),hTup3⟩
    ·rw[aj hb] at q
     refine(I.hok c u' q).stay (λd v hcv y=>keep2 d v ?_ y) (λd y=>by rw[aj (ak y hTn)];exact y) λd ys y=>by rw[aj (ak y hTn)];exact y
     rcases hcv with rfl|z
     ·exact nT q
     ·exact nT z
  obtain⟨a1,a2,a3,a4,a5,_,_⟩:=hst3
  refine⟨.ref T,_,J,rfl,⟨T,x,y,rfl,hTn,rfl,λxs' hy'=>by rw[I.gZ hy' hq];exact hx,λys' hy'=>by rw[I.gZ hy' hq2];exact hy⟩,⟨a1,a2,a3,a4,a5⟩,λc hc=>?_⟩
  rw[aj]
  ·exact(hf c hc).1
  ·rintro rfl
   simp only[Ï,æ,or_false] at hc
   have lt:∀{d:Addr}{o:Obj},s.heap.get? d=some o->c≠d:=λe=>ĸ (Õ (Å e) hTs)
   obtain⟨w1,w2,hTO'⟩:=hTO
   obtain⟨o1,j1,_⟩:=h1
   obtain⟨o2,j2,_⟩:=h2
   rcases hc with h|h|h|h|h
   ·exact lt hz h
   ·exact lt hTI h
   ·exact lt hTO' h
   ·exact lt j1 h
   ·exact lt j2 h
 done:=by
  intro X hP hw hK hc i pins s σ H E I hf st hg
  subst hP hw hK
  obtain⟨xs,ys,hq,hq2,he⟩:=hg
  obtain⟨its,rv,pl,hz1⟩:=I.list hq
  obtain⟨its2,rv2,pl2,hz2⟩:=I.list hq2
  obtain⟨hz,hTI,⟨u,v,hTO⟩,h1,h2⟩:=st
  have r1:=rv.length
  have r2:=rv2.length
  refine wpAny_pyNext_zip_end (I.ok.hd hc) D hz hTI hTO h1 h2 pl.isList pl2.isList (xs:=its.toArray) (ys:=its2.toArray) ?_ λh' hk=>⟨rfl,?_⟩
  ·rcases he with he|he
   ·left;simp;omega
   ·right;simp;omega
  have fz:∀c∈[z,TO,i1,i2],fj X pins H c:=λc hc=>hf c (by
   simp only[Ï,æ,or_false] at hc ⊢
   rcases hc with h|h|h|h <;> simp[h])
  have keep2:∀c o,c∉[z,TO,i1,i2]->s.heap.get? c=some o->h'.get? c=some o:=λc o hc q=>hk c o (λe=>hc (by simp[e])) (λe=>hc (by simp[e])) (λe=>hc (by simp[e])) (λe=>hc (by simp[e])) q
  have nT:∀{c:Addr}{y:HO},H c=some y->c∉[z,TO,i1,i2]:=λ{c y} q hc=>by
   have:=(fz c hc).1
   rw[this] at q
   cases q
  refine I.step (g':=s.gens) (d':=s.drawn) (t':=s.toks) (ch:=[z,TO,i1,i2]) (λc hc=>?_) (λc o _ _ hcb q _=>keep2 c o hcb q)
    (λc o _ _ hcb q _=>⟨o.slots,keep2 c o hcb q⟩) (λc o _ q n=>n)
    (λc o hcb q=>⟨o,keep2 c o hcb q⟩) (λc ys q=>q) (λc o y q=>q)
    (λc ps q=>⟨#[],by rw[q];simp⟩) (λm hm=>?_) ?_ I.bare
  ·obtain⟨e0,e1,e2,e3,e4,e5⟩:=fz c hc
   exact⟨e3,e1,e4,e5⟩
  ·obtain⟨o,es,ep,ho',r⟩:=hm
   refine⟨o,es,ep,keep2 _ o (λhc=>?_) ho',r⟩
   exact(fz _ hc).2.1 rfl
  ·intro c u' q
   refine(I.hok c u' q).stay (λd v hcv y=>keep2 d v ?_ y) (λd y=>y) λd ys y=>y
   rcases hcv with rfl|z
   ·exact nT q
   ·exact nT z
 self:=λA i s Q E st h=>by
  obtain⟨hz,_⟩:=st
  exact wpAny_pyIter_zip hz h
end L2
namespace Dl
open PySem L2 PyProof.Rows
variable [Gr]
section
variable {X:Cx}{tg:Expr}{pos:Pos}{ta:DA}
def wz{K:Í}{ok:Addr->Prop}{a b:Addr}{ds es:List D}:Wlk (λH=>Rp ok H (.ref a) (.list ds)/\Rp ok H (.ref b) (.list es)) (Ga K a b) ((ds.zip es).map prD) ok where
 go:=λi H r hi=>by
  obtain⟨b,vs,e,_,h,rs⟩:=r.1.bB
  cases e
  obtain⟨b2,vs2,e,_,h2,rs2⟩:=r.2.bB
  cases e
  rw[Ã,Ā] at hi
  have l1:i<vs.length:=by rw[rs.length];omega
  have l2:i<vs2.length:=by rw[rs2.length];omega
  exact⟨vs,vs2,vs[i],vs2[i],SqL.of h,SqL.of h2,by simp[l1],by simp[l2]⟩
 stop:=λH r=>by
  obtain⟨b,vs,e,_,h,rs⟩:=r.1.bB
  cases e
  obtain⟨b2,vs2,e,_,h2,rs2⟩:=r.2.bB
  cases e
  refine⟨vs,vs2,SqL.of h,SqL.of h2,?_⟩
  rw[Ã,Ā,rs.length,rs2.length]
  omega
 yld:=λi H x H' r y=>by
  obtain⟨t,v,v2,rfl,ht,rfl,y1,y2⟩:=y
  have sm:Same H (upd H t (.tup [v,v2])):=λb u q=>by rw[aj (ak q ht)];exact q
  refine⟨sm,λd hd=>?_⟩
  obtain⟨b,vs,e,_,h,rs⟩:=r.1.bB
  cases e
  obtain⟨b2,vs2,e,_,h2,rs2⟩:=r.2.bB
  cases e
  rw[Ú] at hd
  cases he:(ds.zip es)[i]? with
  |none=>rw[he] at hd;cases hd
  |some pq =>
   rw[he] at hd
   have e:=Ì hd
   subst e
   obtain⟨g1,g2⟩:=ŋ.mp he
   obtain⟨w1,hw1,rw1⟩:=rs.getD g1
   obtain⟨w2,hw2,rw2⟩:=rs2.getD g2
   have z1:=y1 vs (SqL.of h)
   rw[hw1] at z1
   cases z1
   have z2:=y2 vs2 (SqL.of h2)
   rw[hw2] at z2
   cases z2
   exact .tup ao (.cons (rw1.mono (λ_ o=>o) (λa o _ e=>sm a o e) λa xs e=>sm a _ e) (.cons (rw2.mono (λ_ o=>o) (λa o _ e=>sm a o e) λa xs e=>sm a _ e) .nil))
 stab:=λH H' r f t=>⟨r.1.aW (λa o n e=>⟨n,f a o n e⟩) t,r.2.aW (λa o n e=>⟨n,f a o n e⟩) t⟩
end
end Dl
namespace Wr
open PySem L2 PyProof.Rows Dl
variable [Gr] {X:Cx}{pos:Pos}{ta:DA}
end Wr
namespace Dl
open PySem L2 PyProof.Rows
variable [Gr]
section
variable {X:Cx}{pos:Pos}{st:Stmt}{rest:List Stmt}{t u:DS}{te tj t1 t2:DE}
end
end Dl
namespace Wr
open PySem L2 PyProof.Rows Dl
section
variable [Gr] {X:Cx}{tj te t1 t2:DE}{t u:DS}
end
end Wr
set_option autoImplicit false
namespace L2
open PySem PySem.Spec PyProof.Rows
section
variable {X:Cx}{k:Nat}{f CF:Addr}{fd:FuncData}{ps:List Str}{sp:Sp}{E:XK}{x hx n:Str}{p np cpos epos hpos pos:Pos}{e:Expr}{es:List Expr}{t:TA}{b₀:Stmt}{suite:List Stmt}{ts:TS}{j:Nat}
end
section
variable {X:Cx}{k:Nat}{f CF:Addr}{fd:FuncData}{ps:List Str}{sp:Sp}{E:XK}{x hx n:Str}{p np cpos epos hpos pos:Pos}{e:Expr}{es:List Expr}{t:TA}{b₀:Stmt}{suite:List Stmt}{ts:TS}{j:Nat}
end
end L2
namespace Dl
open PySem L2 PyProof.Rows
section
variable [Gr] {X:Cx}{pos:Pos}{a:Expr}{t:DA}
def boot_str:bootBuiltins "str"=some (.type "str"):=by decide +kernel
def yU:GC:=λks P=>match ks with
 |[(_,.int i)]=>i.natAbs.log2<1920/\P .imm (.str (toString i))
 |_=>False
def gO{ps:Pos}(hm:X.mg "str"=none)(ha:PDA X [a] t)(hg:Gl X "str":=by rfl)(he:zS X a []:=by rfl)(hpl:zP X pos []:=by rfl):PD X (.Call (.Name "str" ps) [a] [] pos) (tCl yU t) :=
 gR pL (by
  intro p H0 own Hb H vs ks P Q A r t q
  unfold yU at t
  split at t
  ·rename_i k i
   obtain⟨v,rfl,r'⟩:=bY r
   rw[r'.int']
   exact⟨i,rfl,t.1,q _ _ _ _ t.2 Kp.refl A.pen (.str _)⟩
  ·exact t.elim) hg hm boot_str ha (by decide) (by decide) he hpl
end
end Dl
namespace Wr
open PySem L2 PyProof.Rows Dl
section
variable [Gr] {X:Cx}{pos:Pos}{a:Expr}{t:DA}
def gO{ps:Pos}(hm:X.mg "str"=none)(ha:WDA X [a] t)(hg:Gl X "str":=by rfl)(he:zS X a []:=by rfl)(hpl:zP X pos []:=by rfl):WD X (.Call (.Name "str" ps) [a] [] pos) (tCl yU t):=⟨Dl.gO hm ha.h hg he hpl⟩
end
end Wr
namespace Dl
open PySem L2 PyProof.Rows
structure Ext(p q:Pn):Prop where
 pv:q.pv=p.pv
 fp:∀a,p.fp a->q.fp a
 pi:∀H,q.PI H->p.PI H
 go:∀H H',q.PI H->Kp p H H'->p.PI H'->q.PI H'
def CE(C:Pn->Prop)(q:Pn):Prop:=∃p,C p/\Ext p q
section
variable [Gr]
variable {X:Cx}{pos:Pos}{c:Expr}{a rest:List Stmt}{tc:DT}{t u:DR}
variable {k j i:Nat}{x y:Str}{ps:List Str}{es:List Expr}{ta:DA}{pp py:Pos}
end
end Dl
namespace L2
open PySem PySem.Spec PyProof.Rows Builtin
section
variable {X:Cx}
end
end L2
namespace Dl
open PySem L2 PyProof.Rows
section
variable [Gr]
variable {X:Cx}{pos:Pos}{a b e:Expr}{ta tb te:DE}{p1 p2 p3:Pos}
end
end Dl
namespace Wr
open PySem L2 PyProof.Rows Dl
section
variable [Gr] {X:Cx}{pos:Pos}{a b e:Expr}{ta tb te:DE}{p1 p2 p3:Pos}
end
end Wr
namespace L2
open PySem PySem.Spec PyProof.Rows Builtin
section
variable {X:Cx}
def vZ:aK X (.type "int") (λxs H Q=>∃z n,xs=[.str z]/\PySem.intText? z=some n/\z.length<=640/\Q (.int n) H):=by
 intro pins s σ H xs us Q I r h
 obtain⟨z,n,rfl,hn,hl,q⟩:=h
 obtain⟨u,rfl,t,rfl⟩:=vals1 r
 exact W.KIN.call_text hn hl ⟨.int n,H,I.tok _,⟨_,rfl⟩,q⟩
def Iw:V->Option Int->Option Int->Hp->VK->Prop:=λx lo hi H Q=>∃z,x=.str z/\z.length<=sizeLine/\Q (.str (Txt.slice z lo hi)) H
def ql{v:Value}{o:Option Int}(h:IsPart v o):∃l:Option (Int×Tok),v=partValue l/\l.map (·.1)=o:=by
 cases h with
 |none=>exact⟨none,rfl,rfl⟩
 |int i t=>exact⟨some (i,t),rfl,rfl⟩
def Dh:SlR X Iw:=by
 intro pins s σ H x v vl vu lo hi sl Q I rx hs pl pu h
 obtain⟨z,rfl,hz,q⟩:=h
 obtain⟨t,rfl⟩:=rx
 obtain⟨l,rfl,el⟩:=ql pl
 obtain⟨u,rfl,eu⟩:=ql pu
 refine⟨"str",_,PySem.F.slot_str_getitem.lookup,typeIs_str s z t,?_⟩
 refine wpAny_getItem_str_slice (l:=l) (u:=u) (st:=none) hs rfl ?_
 have hle:=Txt.slice_le z lo hi
 unfold Txt.slice at q hle
 unfold sliceMade slicePicked
 rw[el,eu]
 show Made.post (if ((1:Int) == 1&&(Builtin.Str.strSliceIndices lo hi 1 z.length).length == z.length)=true then _ else _) _ s
 by_cases hc:((1:Int) == 1&&(Builtin.Str.strSliceIndices lo hi 1 z.length).length == z.length)=true
 ·rw[if_pos hc] at q ⊢
  exact⟨.str z,H,I,⟨_,rfl⟩,q⟩
 ·rw[if_neg hc] at q hle ⊢
  exact⟨ú hle hz,.str _,H,I.tok _,⟨_,rfl⟩,q⟩
end
end L2
namespace Dl
open PySem L2 PyProof.Rows
section
variable [Gr] {X:Cx}{pos p2:Pos}{a b e:Expr}{t:DA}{ta tb te:DE}
def yX:GC:=λks P=>match ks with
 |[(_,.int i)]=>P .imm (.int i)
 |[(_,.bool b)]=>P .imm (.int (if b then 1 else 0))
 |[(_,.str z)]=>∃n,PySem.intText? z=some n/\z.length<=640/\P .imm (.int n)
 |_=>False
def oM{ps:Pos}(hm:X.mg "int"=none)(hv:bootBuiltins "int"=some (.type "int"))(ha:PDA X [a] t)(hg:Gl X "int":=by rfl)(he:zS X a []:=by rfl)(hpl:zP X pos []:=by rfl):PD X (.Call (.Name "int" ps) [a] [] pos) (tCl yX t) :=
 gR (aK.or nu vZ) (by
  intro p H0 own Hb H vs ks P Q A r t q
  unfold yX at t
  split at t
  ·rename_i k i
   obtain⟨v,rfl,r'⟩:=bY r
   rw[r'.int']
   exact .inl (.inl ⟨i,rfl,q _ _ _ _ t Kp.refl A.pen (.int _)⟩)
  ·rename_i k i
   obtain⟨v,rfl,r'⟩:=bY r
   rw[r'.bl']
   exact .inl (.inr ⟨i,rfl,q _ _ _ _ t Kp.refl A.pen (.int _)⟩)
  ·rename_i k z
   obtain⟨v,rfl,r'⟩:=bY r
   obtain⟨n,h1,h2,t⟩:=t
   cases r'
   exact .inr ⟨z,n,rfl,h1,h2,q _ _ _ _ t Kp.refl A.pen (.int _)⟩
  ·exact t.elim) hg hm hv ha (by decide) (by decide) he hpl
def Fj:G2:=λk1 d1 _ d2 P=>match d1,d2 with
 |.list ds,.int i=>∃d,atI ds i=some d/\P (norm k1 d) d
 |.tuple ds,.int i=>∃d,atI ds i=some d/\P (norm k1 d) d
 |.str z,.int i=>∃c,z.length<=sizeLine/\atI z.cps.toList i=some c/\P .imm (.str ⟨#[c]⟩)
 |_,_=>False
def oK(ha:PD X a ta)(hb:PD X b tb)(hs:iC b:=by exact λ_ _=>rfl):PD X (.Subscript a b pos) (t2 Fj ta tb):=PE.wk (xR (IxR.or o7 (IxR.or yN Fb)) ha hb hs) (qF (by
 intro p H0 own Hb H x y k1 d1 k2 d2 P Q A r1 r2 t q
 unfold Fj at t
 split at t
 ·rename_i ds i
  obtain⟨d,hd,t⟩:=t
  obtain⟨c,vs,rfl,o,hc,rs⟩:=r1.bB
  obtain⟨v,hv,rv⟩:=rs.atI hd
  exact .inl ⟨c,vs,i,v,rfl,r2.int',SqL.of hc,hv,q _ _ _ _ t Kp.refl A.pen (aL rv)⟩
 ·rename_i ds i
  obtain⟨d,hd,t⟩:=t
  obtain⟨c,vs,rfl,hc,rs⟩:=r1.bK
  obtain⟨v,hv,rv⟩:=rs.atI hd
  exact .inr (.inl ⟨c,vs,i,v,rfl,r2.int',SqT.of hc,hv,q _ _ _ _ t Kp.refl A.pen (aL rv)⟩)
 ·rename_i z i
  obtain⟨c,hz,hc,t⟩:=t
  cases r1
  exact .inr (.inr ⟨z,i,c,rfl,r2.int',hz,hc,q _ _ _ _ t Kp.refl A.pen (.str _)⟩)
 ·exact t.elim))
def Gg(te:DE)(tl th:DO):DE:=λρ P=>te ρ λk d=>tl ρ λlo=>th ρ λhi=>match d with
 |.list ds=>newP k (dI ds lo hi) λk'=>P k' (.list (dI ds lo hi))
 |.tuple ds=>¬(HT.sIx ds.length 0 lo=0/\HT.sIx ds.length ds.length hi=ds.length)/\P (norm k (.tuple (dI ds lo hi))) (.tuple (dI ds lo hi))
 |.str z=>z.length<=sizeLine/\P .imm (.str (Txt.slice z lo hi))
 |_=>False
def n8{lo hi:Option Expr}{tl th:DO}(he:PD X e te)(hl:PO X lo (kZ tl))(hh:PO X hi (kZ th)):PD X (.Subscript e (.Slice lo hi none p2) pos) (Gg te tl th):=PE.wk (qg (SlR.or tH (SlR.or wU Dh)) he hl hh) (by
 rintro σ H Q ⟨p,H0,own,ρ,P,E,t,q⟩
 refine⟨p,H0,own,ρ,_,E,t,λk d v H1 h A r=>?_⟩
 refine⟨p,H0,own,ρ,_,E.go A.kp A.pen,h,λo1 H2 h2 A2=>?_⟩
 refine⟨p,H0,own,ρ,_,(E.go A.kp A.pen).go A2.kp A2.pen,h2,λo2 H3 h3 A3=>?_⟩
 have A4:=(A.base A2).base A3
 have r3:=jf (A.base A2) A3.kp (jf A A2.kp r)
 cases d with
 |list ds =>
  obtain⟨x,xs,e1,o,h1,rs⟩:=Rp.bB r3
  subst e1
  refine .inl ⟨x,xs,rfl,SqL.of h1,λl hl=>?_⟩
  obtain⟨k2,i2,nw⟩:=A4.new hl (.lst (jw xs o1 o2))
  obtain⟨k',hk',rk'⟩:=jK A4 (bF A4 k2 (rs.cut o1 o2)) nw ao h3
  exact q _ _ _ _ hk' (A4.go k2 i2) rk'
 |tuple ds =>
  obtain⟨x,xs,e1,h1,rs⟩:=Rp.bK r3
  subst e1
  refine .inr (.inl ⟨x,xs,rfl,SqT.of h1,by rw[rs.length];exact h3.1,λl hl=>?_⟩)
  obtain⟨k2,i2,nw⟩:=A4.new hl (.tup (jw xs o1 o2))
  exact q _ _ _ _ h3.2 (A4.go k2 i2) (aL (.tup ao (bF A4 k2 (rs.cut o1 o2))))
 |str z =>
  cases r3
  exact .inr (.inr ⟨z,rfl,h3.1,q _ _ _ _ h3.2 A4 (.str _)⟩)
 |_=>exact h3.elim)
end
end Dl
namespace Wr
open PySem L2 PyProof.Rows Dl
section
variable [Gr] {X:Cx}{pos p2:Pos}{a b e:Expr}{t:DA}{ta tb te:DE}
def oM{ps:Pos}(hm:X.mg "int"=none)(hv:bootBuiltins "int"=some (.type "int"))(ha:WDA X [a] t)(hg:Gl X "int":=by rfl)(he:zS X a []:=by rfl)(hpl:zP X pos []:=by rfl):WD X (.Call (.Name "int" ps) [a] [] pos) (tCl yX t):=⟨Dl.oM hm hv ha.h hg he hpl⟩
def oK(ha:WD X a ta)(hb:WD X b tb)(hs:iC b:=by exact λ_ _=>rfl):WD X (.Subscript a b pos) (t2 Fj ta tb):=⟨Dl.oK ha.h hb.h hs⟩
def n8{lo hi:Option Expr}{tl th:DO}(he:WD X e te)(hl:WDO X lo tl)(hh:WDO X hi th):WD X (.Subscript e (.Slice lo hi none p2) pos) (Gg te tl th):=⟨Dl.n8 he.h hl.h hh.h⟩
end
end Wr
namespace L2
open PySem PySem.Spec PyProof.Rows PySem.Builtin PySem.Builtin.Str
section
variable {X:Cx}
def mJ:∀{ys:List Str}{us:List Value},Vals (ys.map V.str) us->StrsAre us ys
 |[],_,r=>by cases r;exact .nil
 |y::ys,_,r=>by
  cases r with
  |cons a b =>
   obtain⟨t,rfl⟩:=a
   exact .cons y t (mJ b)
def mz:∀(l:List (Str×Tok)),Vals ((l.map (·.1)).map V.str) (strValues l)
 |[]=>.nil
 |p::l=>.cons ⟨p.2,rfl⟩ (mz l)
def rJoin(K:Í):V->List V->Hp->VK->Prop:=λx vs H Q=>∃(z:Str) (l:Addr) (ys:List Str),x=.str z/\vs=[.ref l]/\SqL K H l (ys.map V.str)/\(ys.map (·.length)).sum+ys.length * z.length<=16777216/\Q (.str (Œ z ys)) H
def Bo:MtM X "str.join" (rJoin X.K):=by
 intro pins s σ H x vs v us Q I rx rv h
 obtain⟨z,l,ys,rfl,rfl,hl,hk,q⟩:=h
 obtain⟨t,rfl⟩:=rx
 obtain⟨u,rfl,ru⟩:=rv.one
 cases ru
 obtain⟨its,rv,pl,hz⟩:=I.list hl
 exact join_list pl.isList (by simpa using mJ rv) hk λt' k=>⟨.str _,H,I.tok _,⟨_,rfl⟩,q⟩
def xr:V->List V->Hp->VK->Prop:=λx vs H Q=>∃z y:Str,x=.str z/\vs=[.str y]/\(y.length == 0)=false/\z.length+2<=1000000/\∀l,H l=none->Q (.ref l) (upd H l (.lst ((ţ z y).map V.str)))
def yD:MtM X "str.split" xr:=by
 intro pins s σ H x' vs v us Q I rx rv h
 obtain⟨x,y,rfl,rfl,hy,hz,q⟩:=h
 obtain⟨t,rfl⟩:=rx
 obtain⟨_,rfl,u,rfl⟩:=rv.one
 have h24:=ä
 have hn:(partsBetween x (occurrences x y 0 x.length (x.length+1)) y.length).length<=sizeLine:=by
  have e1:=StrLaws.occ_length_le x y 0 x.length (x.length+1)
  rw[length_partsBetween];omega
 have fin:∀(l:List (Str×Tok)) (k:Nat),l.map (·.1)=ţ x y->l.length<=sizeLine->EP X pins σ Q (.ref s.heap.objs.size) { s with toks:=k,heap:=s.heap.push { cls:=.type "list",data:=.seq (strValues l).toArray } }:=λl k e hl =>
  ⟨.ref s.heap.objs.size,_,I.laid (a:=s.heap.objs.size) (o:=.lst ((ţ x y).map V.str)) (λb o e=>Ä _ e) (Æ _) ⟨by rw[←e,Ã,Ã];exact hl,strValues l,0,by rw[←e];exact mz l,Î _ rfl⟩,rfl,q _ (I.hok.fresh (Æ _))⟩
 cases h1:(decide (x.length<y.length) || decide (strKind x<strKind y))
 ·cases hf:(occurrences x y 0 x.length (x.length+1)).isEmpty
  ·refine Ū F.slot_str_split (typeIs_str _ _ _) F.entry_str_split (F.args_str_split_2 _ _) (meets_str_split_sep x y t u h1 hy hf (by omega) hn) ?_
   show wants (EP X pins σ Q) X.xe _ { s with toks:=_,heap:=s.heap.push { cls:=.type "list",data:=.seq (strsFrom s.toks (partsBetween x (occurrences x y 0 x.length (x.length+1)) y.length)).toArray } }
   rw[strsFrom_eq]
   exact fin (numbered s.toks _) _ ((numbered_texts _ _).trans ((if_neg (ne_true_of_eq_false h1)).trans (if_neg (ne_true_of_eq_false hf))).symm) (by
    have:=congrArg List.length (numbered_texts s.toks (partsBetween x (occurrences x y 0 x.length (x.length+1)) y.length))
    rw[Ã] at this
    omega)
  ·exact Ū F.slot_str_split (typeIs_str _ _ _) F.entry_str_split (F.args_str_split_2 _ _) (meets_str_split_not_found x y t u h1 hy hf)
    (fin [(x,t)] s.toks ((if_neg (ne_true_of_eq_false h1)).trans (if_pos hf)).symm (by rw[h24];show 1<=16777216;decide))
 ·exact Ū F.slot_str_split (typeIs_str _ _ _) F.entry_str_split (F.args_str_split_2 _ _) (meets_str_split_cannot_occur x y t u h1)
   (fin [(x,t)] s.toks (if_pos h1).symm (by rw[h24];show 1<=16777216;decide))
def Itx(x:Str):It:=⟨λi _=>i<x.cps.size,λi H v H'=>H'=H/\∃c,x.cps[i]?=some c/\v=.str ⟨#[c]⟩,λi _=>x.cps.size<=i⟩
def mF{P:Program}{w:World}{K:Í}{tg:Expr}(it:Addr)(x:Str)(t:Tok){nm:String}(hnm:nm="str_ascii_iterator"\/nm="str_iterator")(W:∀A:Around,A.handled=none->Walks P w A it [it] [it] x.cps.size (SignAt x) λi h=>h.IsStrIter it nm x t i):Turn P w K tg (Itx x) [it] it (λi h=>h.IsStrIter it nm x t i) where
 mem:=by simp
 obj:=λi h st b hb=>by
  have e:b=it:=by simpa using hb
  subst e
  obtain⟨o,e,c,d⟩:=st
  exact⟨o,e,λv z=>by rw[d] at z;cases z⟩
 keep:=λi h h' st k=>let ⟨o,e,r⟩:=st;⟨o,k it (by simp) o e,r⟩
 item:=by
  intro X hP hw hK hc i pins s σ H E I hf st hg
  subst hP hw hK
  obtain⟨f0,f1,f2,f3,f4,f5⟩:=hf it (by simp)
  refine(W _ (I.ok.hd hc)).item i s _ _ hg st λv h' tk hv st' kk=>?_
  obtain⟨c,u,hc',rfl⟩:=hv
  have I1:Inv X pins σ H { s with heap:=h',toks:=tk }:=I.turned (λb o hb e=>kk b o (by simpa using hb) e) f0 f1 f3 f4 f5
  obtain⟨o,e,c1,d1⟩:=id st'
  refine⟨_,rfl,ur (s:={ s with heap:=h',toks:=tk }) e c1 d1 (by rcases hnm with rfl|rfl <;> decide) ⟨.str ⟨#[c]⟩,H,I1,⟨u,rfl⟩,⟨rfl,c,hc',rfl⟩,st',λb hb=>(hf b hb).1⟩⟩
 done:=by
  intro X hP hw hK hc i pins s σ H E I hf st hg
  subst hP hw hK
  obtain⟨f0,f1,f2,f3,f4,f5⟩:=hf it (by simp)
  rcases hnm with rfl|rfl
  ·exact wpAny_pyNext_ascii_end (I.ok.hd hc) st (by have:x.cps.size<=i:=hg;simp;omega) λh' eb=>⟨rfl,I.turned (t':=s.toks) (λb o hb e=>eb b o hb e) f0 f1 f3 f4 f5⟩
  ·exact wpAny_pyNext_wide_end (I.ok.hd hc) st (by have:x.cps.size<=i:=hg;simp;omega) λh' eb=>⟨rfl,I.turned (t':=s.toks) (λb o hb e=>eb b o hb e) f0 f1 f3 f4 f5⟩
 self:=λ_ _ _ _ _ st h=>by
  rcases hnm with rfl|rfl
  ·exact wpAny_pyIter_striter_ascii st h
  ·exact wpAny_pyIter_striter_wide st h
def iTx(tl:TE):TI:=λσ H R=>tl σ H λx H1=>∃z,x=.str z/\R (Itx z) H1
def Az{tg l:Expr}{tl:TE}(hl:PE X l tl):PI X tg l (iTx tl):=by
 intro pins s σ H R I h
 refine thn (hl pins s σ H _ I h) λv s1 ⟨x,H1,I1,r1,q1⟩=>?_
 obtain⟨z,rfl,q⟩:=q1
 obtain⟨t,rfl⟩:=r1
 have fp:∀b∈[s1.heap.objs.size],fj X pins H1 b:=λb hb=>by
  have e:b=s1.heap.objs.size:=by simpa using hb
  subst e
  exact I1.pB (Æ _) (I1.hok.fresh (Æ _))
 cases ha:z.cps.all (·<128)
 ·refine wpAny_pyIter_wide ha ?_
  exact⟨s1.heap.objs.size,[s1.heap.objs.size],_,_,H1,rfl,I1.kept (t':=s1.toks) λb o e=>Ä _ e,mF _ z t (.inr rfl) (λA' hA=>Walks.strWide hA _ z t),⟨_,Î _ rfl,rfl,rfl⟩,fp,q⟩
 ·refine wpAny_pyIter_ascii ha ?_
  exact⟨s1.heap.objs.size,[s1.heap.objs.size],_,_,H1,rfl,I1.kept (t':=s1.toks) λb o e=>Ä _ e,mF _ z t (.inl rfl) (λA' hA=>Walks.strAscii hA _ z t),⟨_,Î _ rfl,rfl,rfl⟩,fp,q⟩
end
end L2
namespace L2
open PySem PySem.Spec PyProof.Rows
section
variable {X:Cx}
abbrev FP:=List (Str ⊕ Nat)
def ni:FP->St->Str->(Str->Prop)->Prop
 |[],_,out,P=>P out
 |.inl c::r,σ,out,P=>(out++c).length<=1000/\ni r σ (out++c) P
 |.inr i::r,σ,out,P=>(∃z:Str,σ[i]?=some (some (.str z))/\z.length<=1000/\(out++z).length<=1000/\ni r σ (out++z) P)\/∃k:Int,σ[i]?=some (some (.int k))/\k.natAbs.log2<1920/\(out++(toString k:Str)).length<=1000/\ni r σ (out++(toString k:Str)) P
inductive FPs(X:Cx):List Expr->FP->Prop
 |nil:FPs X [] []
 |str {c:Str}{k:Nat}{ps:Pos}{es:List Expr}{r:FP} (t:FPs X es r):FPs X (.Constant (.str c) k ps::es) (.inl c::r)
 |val {e:Expr}{i:Nat}{ps:Pos}{es:List Expr}{r:FP} (h:PE X e (lV i)) (t:FPs X es r):FPs X (.FormattedValue e (-1) none ps::es) (.inr i::r)
def jM{pins:List (Addr×Obj)}{σ:St}{H:Hp}{Q:VK}:∀{es:List Expr}{r:FP},FPs X es r->∀(s:Shared) (out:Str),Inv X pins σ H s->out.length<=1000->ni r σ out (λz=>Q (.str z) H) ->
  wpAny (model X.prog X.w) X.A (joinParts out (evalEach es X.env)) (EP X pins σ Q) X.xe s
 |_,_,.nil,s,out,I,hl,h=>by
  have h24:=ä
  exact joinParts_nil ⟨.str out,H,I.tok _,⟨_,rfl⟩,h⟩ (by omega)
 |_,_,.str (c:=c) t,s,out,I,hl,h=>by
  have h24:=ä
  obtain⟨h1,h2⟩:=h
  refine joinParts_cons (thn (rF (X:=X) pins s σ H (λv H'=>v=.str c/\H'=H) I ⟨rfl,rfl⟩) λv s1 ⟨x,H1,I1,r1,q1⟩=>?_)
  obtain⟨rfl,rfl⟩:=q1
  obtain⟨tk,rfl⟩:=r1
  exact⟨by omega,jM t s1 (out++c) I1 h1 h2⟩
 |_,_,.val (i:=i) hv t,s,out,I,hl,h=>by
  have h24:=ä
  rcases h with ⟨z,hi,hz,h1,h2⟩|⟨k,hi,hk,h1,h2⟩
  ·refine joinParts_cons (FormattedValue_plain (thn (hv pins s σ H (λv H'=>v=.str z/\H'=H) I ⟨_,hi,rfl,rfl⟩) λv s1 ⟨x,H1,I1,r1,q1⟩=>?_))
   obtain⟨rfl,rfl⟩:=q1
   obtain⟨tk,rfl⟩:=r1
   exact formatField_str (λt' tk'=>⟨by omega,jM t _ (out++z) (I1.tok _) h1 h2⟩) (by omega)
  ·refine joinParts_cons (FormattedValue_plain (thn (hv pins s σ H (λv H'=>v=.int k/\H'=H) I ⟨_,hi,rfl,rfl⟩) λv s1 ⟨x,H1,I1,r1,q1⟩=>?_))
   obtain⟨rfl,rfl⟩:=q1
   obtain⟨tk,rfl⟩:=r1
   exact formatField_int_small hk ⟨by omega,jM t _ (out++(toString k:Str)) (I1.tok _) h1 h2⟩
def tFs(r:FP):TE:=λσ H Q=>ni r σ Ű λz=>Q (.str z) H
def G4{e1 e2:Expr}{es:List Expr}{r:FP}{pos:Pos}(h:FPs X (e1::e2::es) r):PE X (.JoinedStr (e1::e2::es) pos) (tFs r):=λpins s σ H Q I q =>
 JoinedStr_many (jM h s Ű I (by decide) q)
end
end L2
namespace Dl
open PySem L2 PyProof.Rows
section
variable [Gr] {X:Cx}{pos:Pos}{a b e o tg l:Expr}{ta tb te tl to:DE}{t:DA}
def Jw:G2:=λ_ d1 _ d2 P=>match d1,d2 with
 |.str i,.str j=>i.length+j.length<=100000/\P .imm (.str (i++j))
 |_,_=>False
def yV:G2:=λk1 d1 k2 d2 P=>match d1 with
 |.str i=>(match d2 with
  |.str j=>i.length+j.length<=100000/\P .imm (.str (i++j))
  |_=>False)
 |.list ds=>BJ k1 (.list ds) k2 d2 P
 |_=>False
def j6(ha:PD X a ta)(hb:PD X b tb):PD X (.BinOp a .Add b pos) (t2 yV ta tb):=mO (OpR.or rO yp) (by
 intro p H0 own Hb H x y k1 d1 k2 d2 P Q A r1 r2 t q
 cases d1 with
 |str i =>
  cases d2 with
  |str j =>
   cases r1
   cases r2
   have h24:=ä
   exact .inl ⟨i,j,rfl,rfl,by have:=t.1;omega,q _ _ _ _ t.2 Kp.refl A.pen (.str _)⟩
  |_=>exact t.elim
 |list ds=>exact .inr (Cu p H0 own Hb H x y k1 _ k2 d2 P Q A r1 r2 t q)
 |_=>exact t.elim) ha hb
def Fo:G2:=λ_ d1 _ d2 P=>match d1,d2 with
 |.str i,.str j=>P .imm (.bool (!(ē j i 0 j.length 1).isEmpty))
 |_,_=>False
def rN(ha:PD X a ta)(hb:PD X b tb)(hm:behindInMarks .In b=false:=by rfl):PD X (.Compare a [.In] [b] pos) (t2 Fo ta tb):=kh uW (by
 intro p H0 own Hb H x y k1 d1 k2 d2 P Q A r1 r2 t q
 unfold Fo at t
 split at t
 ·rename_i i j
  cases r1
  cases r2
  exact⟨i,j,rfl,rfl,q _ _ _ _ t Kp.refl A.pen (.bl _)⟩
 ·exact t.elim) ha hb hm
def yW:GC:=λks P=>match ks with
 |[(_,.str z)]=>z.length<=100000/\P .imm (.int ((z.length:Nat):Int))
 |_=>False
def oJ{ps:Pos}(hm:X.mg "len"=none)(ha:PDA X [a] t)(hg:Gl X "len":=by rfl)(he:zS X a []:=by rfl)(hpl:zP X pos []:=by rfl):PD X (.Call (.Name "len" ps) [a] [] pos) (tCl yW t) :=
 bT pO (by
  intro p H0 own Hb H vs ks P Q A r t q
  unfold yW at t
  split at t
  ·rename_i k z
   obtain⟨v,rfl,r'⟩:=bY r
   cases r'
   have h24:=ä
   exact⟨z,rfl,by omega,q _ _ _ _ t.2 Kp.refl A.pen (.int _)⟩
  ·exact t.elim) hg hm PySem.boot_len ha (by decide) (by decide) he hpl
def sgD(z:Str):List D:=z.cps.toList.map λc=>ì ⟨#[c]⟩
def uI{ok:Addr->Prop}{z:Str}:Wlk (λ_=>True) (Itx z) (sgD z) ok where
 go:=λi H r hi=>by
  have h:i<z.cps.size:=by unfold sgD at hi;simpa using hi
  exact h
 stop:=λH r=>by show z.cps.size<=_;unfold sgD;simp
 yld:=λi H x H' r y=>by
  obtain⟨rfl,c,hc,rfl⟩:=y
  refine⟨Same.refl _,λd hd=>?_⟩
  unfold sgD at hd
  rw[Ú,Array.getElem?_toList,hc] at hd
  cases hd
  exact .str _
 stab:=λ_ _ _ _ _=>trivial
def Hu(tl:DE):DI:=λρ P=>tl ρ λ_ d=>match d with
 |.str z=>P .imm (sgD z)
 |_=>False
def pJ(hl:PD X l tl):PDI X tg l (Hu tl):=PI.wk (Az hl) (by
 rintro σ H R ⟨p,H0,own,ρ,P,E,t,q⟩
 refine⟨p,H0,own,ρ,_,E,t,λk d v H1 h A r=>?_⟩
 cases d with
 |str z =>
  cases r
  exact⟨z,rfl,q _ _ _ H1 _ h A uI trivial⟩
 |_=>exact h.elim)
def Rps.strs{ok:Addr->Prop}{H:Hp}:∀{vs:List V}{ys:List Str},Rps ok H vs (ys.map ì)->vs=ys.map V.str
 |_,[],r=>by cases r;rfl
 |_,y::ys,r=>by
  cases r with
  |cons h t=>cases h;rw[Rps.strs t];rfl
def Ce(te:DE)(ta:DE):DE:=λρ P=>te ρ λ_ d=>∃z:Str,d=.str z/\ta ρ λ_ d2=>∃ys:List Str,d2=.list (ys.map ì)/\(ys.map (·.length)).sum+ys.length * z.length<=100000/\P .imm (.str (Œ z ys))
def jF(h:PE X e (tBM X.K "str" (rJoin X.K) (aZ te) (jh (dH ta mq)))):PD X e (Ce te ta):=PE.wk h (by
 rintro σ H Q ⟨p,H0,own,ρ,P,E,t,q⟩
 refine⟨p,H0,own,ρ,_,E,t,λk d v H1 h A r=>?_⟩
 obtain⟨z,rfl,h⟩:=h
 cases r
 refine⟨rfl,p,H0,own,ρ,_,E.go A.kp A.pen,uc h,?_⟩
 rintro ks us H2 ⟨k1,d1,rfl,ys,rfl,hl,q2⟩ A2 rk
 obtain⟨y,rfl,ry⟩:=bY rk
 obtain⟨l,vs,rfl,o1,hl1,rs⟩:=Rp.bB ry
 have e2:=Rps.strs rs
 subst e2
 exact⟨z,l,ys,rfl,rfl,SqL.of hl1,by omega,q _ _ _ _ q2 (A.base A2) (.str _)⟩)
def wK(te:DE)(ta:DE):DE:=λρ P=>te ρ λ_ d=>∃z:Str,d=.str z/\ta ρ λ_ d2=>∃y:Str,d2=.str y/\(y.length == 0)=false/\z.length+2<=100000/\P .new (.list ((ţ z y).map ì))
def qd{ok:Addr->Prop}{H:Hp}:∀ys:List Str,Rps ok H (ys.map V.str) (ys.map ì)
 |[]=>.nil
 |y::ys=>.cons (.str y) (qd ys)
def gP(h:PE X e (tBM X.K "str" xr (aZ te) (jh (dH ta mq)))):PD X e (wK te ta):=PE.wk h (by
 rintro σ H Q ⟨p,H0,own,ρ,P,E,t,q⟩
 refine⟨p,H0,own,ρ,_,E,t,λk d v H1 h A r=>?_⟩
 obtain⟨z,rfl,h⟩:=h
 cases r
 refine⟨rfl,p,H0,own,ρ,_,E.go A.kp A.pen,uc h,?_⟩
 rintro ks us H2 ⟨k1,d1,rfl,y,rfl,hy,hl,q2⟩ A2 rk
 obtain⟨y',rfl,ry⟩:=bY rk
 cases ry
 have A3:=A.base A2
 refine⟨z,y,rfl,rfl,hy,by omega,λc hc=>?_⟩
 obtain⟨k2,i2,nw⟩:=A3.new hc (.lst ((ţ z y).map V.str))
 exact q _ _ _ _ q2 (A3.go k2 i2) (.lst nw ao (qd _)))
def zm:FP->List Sl->Str->(Str->Prop)->Prop
 |[],_,out,P=>P out
 |.inl c::r,ρ,out,P=>(out++c).length<=1000/\zm r ρ (out++c) P
 |.inr i::r,ρ,out,P=>(∃z:Str,ρ[i]?=some (.im (.str z))/\z.length<=1000/\(out++z).length<=1000/\zm r ρ (out++z) P)\/∃k:Int,ρ[i]?=some (.im (.int k))/\k.natAbs.log2<1920/\(out++(toString k:Str)).length<=1000/\zm r ρ (out++(toString k:Str)) P
def pC{p:Pn}{H0 H:Hp}{own:Addr->Option Nat}{σ:L2.St}{ρ:List Sl}(E:EnvD p H0 own σ H ρ){P Q:Str->Prop}(q:∀z,P z->Q z):∀(r:FP) (out:Str),zm r ρ out P->ni r σ out Q
 |[],out,h=>q _ h
 |.inl c::r,out,h=>⟨h.1,pC E q r _ h.2⟩
 |.inr i::r,out,h=>by
  rcases h with ⟨z,hi,h1,h2,h3⟩|⟨k,hi,h1,h2,h3⟩
  ·obtain⟨v,hv,rv⟩:=E.slot i _ hi
   cases rv
   exact .inl ⟨z,hv,h1,h2,pC E q r _ h3⟩
  ·obtain⟨v,hv,rv⟩:=E.slot i _ hi
   cases rv
   exact .inr ⟨k,hv,h1,h2,pC E q r _ h3⟩
def Dc(r:FP):DE:=λρ P=>zm r ρ Ű λz=>P .imm (.str z)
def tZ{e1 e2:Expr}{es:List Expr}{r:FP}(h:FPs X (e1::e2::es) r):PD X (.JoinedStr (e1::e2::es) pos) (Dc r):=PE.wk (G4 h) (by
 rintro σ H Q ⟨p,H0,own,ρ,P,E,t,q⟩
 exact pC E (λz hz=>q _ _ _ _ hz E.at (.str z)) r _ t)
def j9{x:Str}{z:Str}{u:Value}{ps:Pos}(hg:Gl X x)(hm:X.mg x=some u)(r:RelV (.str z) u)(hd:zB x:=by decide):PD X (.Name x ps) (tK (.str z)):=cM (tX hg hm r hd) λ_=>.str z
end
end Dl
namespace Wr
open PySem L2 PyProof.Rows Dl
section
variable [Gr] {X:Cx}{pos:Pos}{a b tg l:Expr}{ta tb te tl:DE}{t:DA}
def j6(ha:WD X a ta)(hb:WD X b tb):WD X (.BinOp a .Add b pos) (t2 yV ta tb):=⟨Dl.j6 ha.h hb.h⟩
def rN(ha:WD X a ta)(hb:WD X b tb)(hm:behindInMarks .In b=false:=by rfl):WD X (.Compare a [.In] [b] pos) (t2 Fo ta tb):=⟨Dl.rN ha.h hb.h hm⟩
def oJ{ps:Pos}(hm:X.mg "len"=none)(ha:WDA X [a] t)(hg:Gl X "len":=by rfl)(he:zS X a []:=by rfl)(hpl:zP X pos []:=by rfl):WD X (.Call (.Name "len" ps) [a] [] pos) (tCl yW t):=⟨Dl.oJ hm ha.h hg he hpl⟩
def pJ(hl:WD X l tl):WDI X tg l (Hu tl):=⟨Dl.pJ hl.h⟩
def jF{o e:Expr}{es:List Expr}{apos cpos:Pos}(hv:WD X o te)(ha:WDA X (e::es) (dH ta mq))(hbase:attributeBase o "join" X.env (eval o X.env)=eval o X.env:=by rfl)(hfew:zW X cpos (e::es):=by rfl)(hline:(apos.endLine == cpos.line)=true:=by rfl)(hst:zS X e es:=by rfl)(hplain:zP X cpos es:=by rfl)
 :WD X (.Call (.Attribute o "join" apos) (e::es) [] cpos) (Ce te ta):=⟨Dl.jF (tY PySem.F.plainAttrs_str PySem.F.slot_str_join PySem.F.type_str_join Bo hv.h ha.h hbase hfew hline hst hplain)⟩
def gP{o e:Expr}{es:List Expr}{apos cpos:Pos}(hv:WD X o te)(ha:WDA X (e::es) (dH ta mq))(hbase:attributeBase o "split" X.env (eval o X.env)=eval o X.env:=by rfl)(hfew:zW X cpos (e::es):=by rfl)(hline:(apos.endLine == cpos.line)=true:=by rfl)(hst:zS X e es:=by rfl)(hplain:zP X cpos es:=by rfl)
 :WD X (.Call (.Attribute o "split" apos) (e::es) [] cpos) (wK te ta):=⟨Dl.gP (tY PySem.F.plainAttrs_str PySem.F.slot_str_split PySem.F.type_str_split yD hv.h ha.h hbase hfew hline hst hplain)⟩
def pA{e:Expr}{i:Nat}{ps:Pos}{es:List Expr}{r:FP}(h:WV X e i)(t:FPs X es r):FPs X (.FormattedValue e (-1) none ps::es) (.inr i::r):=.val h.h t
def tZ{e1 e2:Expr}{es:List Expr}{r:FP}(h:FPs X (e1::e2::es) r):WD X (.JoinedStr (e1::e2::es) pos) (Dc r):=⟨Dl.tZ h⟩
def j9{x:Str}{z:Str}{u:Value}{ps:Pos}(hg:Gl X x)(hm:X.mg x=some u)(r:RelV (.str z) u)(hd:zB x:=by decide):WD X (.Name x ps) (tK (.str z)):=⟨Dl.j9 hg hm r hd⟩
end
end Wr
namespace L2
open PySem PyProof.Rows
def fJ(sep:Str):∀ys:List Str,Œ sep ys=Str.join sep ys:=StrLaws.glued_eq_join sep
def bO(x y:Str):(x++y).cps.toList=x.cps.toList++y.cps.toList:=by
 show(x.cps++y.cps).toList=_
 simp
def gF{x y:Str}(h:x.cps.toList=y.cps.toList):x=y:=by
 obtain⟨x⟩:=x
 obtain⟨y⟩:=y
 simp only at h
 rw[Array.toList_inj.mp h]
def zY{c:Nat}:∀{y z Y Z:List Nat},c∉y->c∉z->y++c::Y=z++c::Z->y=z/\Y=Z
 |[],[],Y,Z,_,_,h=>⟨rfl,by simpa using h⟩
 |[],b::z,Y,Z,_,hz,h=>by
  injection h with h1 h2
  exact absurd (h1 ▸ Ô) hz
 |a::y,[],Y,Z,hy,_,h=>by
  injection h with h1 h2
  exact absurd (h1 ▸ Ô) hy
 |a::y,b::z,Y,Z,hy,hz,h=>by
  injection h with h1 h2
  obtain⟨e1,e2⟩:=zY (λm=>hy (Ð _ m)) (λm=>hz (Ð _ m)) h2
  exact⟨by rw[h1,e1],e2⟩
def mX{c:Nat}:∀{ys zs:List Str},ys≠[]->zs≠[]->(∀y∈ys,c∉y.cps.toList)->(∀y∈zs,c∉y.cps.toList)->Str.join ⟨#[c]⟩ ys=Str.join ⟨#[c]⟩ zs->ys=zs
 |[],_,h,_,_,_,_=>absurd rfl h
 |_,[],_,h,_,_,_=>absurd rfl h
 |[y],[z],_,_,_,_,e=>by rw[join_one,join_one] at e;rw[e]
 |[y],z::z'::r,_,_,hy,_,e=>by
  rw[join_one,ķ] at e
  refine absurd ?_ (hy y Ô)
  rw[e,bO,bO]
  exact ł _ (Û _ Ô)
 |y::y'::r,[z],_,_,_,hz,e=>by
  rw[join_one,ķ] at e
  refine absurd ?_ (hz z Ô)
  rw[←e,bO,bO]
  exact ł _ (Û _ Ô)
 |y::y'::r,z::z'::r',_,_,hy,hz,e=>by
  rw[ķ,ķ] at e
  have e2:=congrArg (λx:Str=>x.cps.toList) e
  simp only[bO] at e2
  rw[Ŀ,Ŀ] at e2
  obtain⟨e3,e4⟩:=zY (hy y Ô) (hz z Ô) e2
  have:=mX (by simp) (by simp) (λx hx=>hy x (Ð _ hx)) (λx hx=>hz x (Ð _ hx)) (gF e4)
  rw[gF e3,this]
def jT{c:Nat}{ys:List Str}(h0:ys≠[])(h:∀y∈ys,c∉y.cps.toList):ţ (Œ ⟨#[c]⟩ ys) ⟨#[c]⟩=ys:=by
 rw[fJ]
 refine mX (c:=c) ?_ h0 (λy hy=>?_) h (StrLaws.join_split _ _)
 ·unfold ţ
  split
  ·exact λz=>nomatch z
  ·split
   ·exact λz=>nomatch z
   ·intro z
    have:=congrArg List.length z
    rw[length_partsBetween] at this
    cases this
 ·exact StrLaws.split_free _ c y hy
end L2
namespace L2
open PySem PySem.Spec PyProof.Rows
section
variable {prog:Program}{w:World}{A:Around}{E:Value->Shared->Prop}{s:Shared}{z TI TO i1 i2 l1 l2:Addr}{k:Nat}{xs ys:Array Value}{x y:Value}
def cA{h h':Heap}{i l:Addr}{k:Nat}(st:h.IsTupleIter i l k)(f:∀o,h.get? i=some o->h'.get? i=some o):h'.IsTupleIter i l k:=let ⟨o,e,r⟩:=st;⟨o,f o e,r⟩
def iR{h h':Heap}{l:Addr}{xs:Array Value}(st:h.IsTuple l xs)(f:∀o,h.get? l=some o->h'.get? l=some o):h'.IsTuple l xs:=let ⟨o,e,r⟩:=st;⟨o,f o e,r⟩
def Af(z TO i1 i2:Addr)(h h':Heap):Prop:=∀c o,c≠z->c≠TO->c≠i1->c≠i2->h.get? c=some o->h'.get? c=some o
structure ZT(z TI TO i1 i2 l1 l2:Addr)(k:Nat)(h:Heap):Prop where
 hz:IsZip h z TI TO .none
 hI:IsPair h TI (.ref i1) (.ref i2)
 hO:∃u v,IsPair h TO u v
 t1:h.IsTupleIter i1 l1 k
 t2:h.IsTupleIter i2 l2 k
def uF(D:ZipApart z TI TO i1 i2 l1 l2)(Z:ZT z TI TO i1 i2 l1 l2 k s.heap)(q1:s.heap.IsTuple l1 xs)(q2:s.heap.IsTuple l2 ys)(hx:xs[k]?=some x)(hy:ys[k]?=some y){Q:Option Value->Shared->Prop}(hQ:∀h',IsZip h' z TI TO (rawInt s.heap.objs.size)->IsPair h' TO x y->h'.IsTupleIter i1 l1 (k+1)->h'.IsTupleIter i2 l2 (k+1)->IsPair h' s.heap.objs.size x y->Af z TO i1 i2 s.heap h'->Q (some (.ref s.heap.objs.size)) { s with heap:=h' }) :
  wpAny (model prog w) A (pyNext (.ref z)) Q E s:=by
 obtain⟨hz,hI,⟨u,v,hO⟩,t1,t2⟩:=Z
 have ty:s.TypeIs (.ref z) "zip":=⟨_,hz,rfl⟩
 unfold pyNext
 refine Á (wpAny_attempt (ĉ (name:=ğ "__next__") ty F.slot_zip_next (Ĉ F.slot_zip_next ty F.entry_zip_next ?_ (F.args_zip_next_1 _))))
 show wpAny _ _ (field (.ref z) 2 >>= _) _ _ _
 refine Á (ù hz rfl (x:=.bool false) rfl ?_)
 show wpAny _ _ (field (.ref z) 3 >>= _) _ _ _
 refine Á (ù hz rfl (x:=.ref TI) rfl (Á (Ķ hI rfl ?_)))
 show wpAny _ _ (đ (.ref z) >>= _) _ _ _
 refine Á ?_
 unfold đ
 refine Á (ù hz rfl (x:=.none) rfl (Ç ?_))
 simp only[if_true]
 refine Á (wpAny_rule (Á (ù hz rfl (x:=.ref TO) rfl (Á (Ļ hz (by simp) λha za sa=>Á ?_)))))
 have za:IsZip ha z TI TO .ellipsis:=za
 have ka:=λc o n=>sa.extBut c o n
 simp only[List.zipIdx_cons,List.zipIdx_nil,List.forIn_cons,List.forIn_nil]
 refine Á (Á (wpAny_onRaise ?_))
 show wpAny _ _ (í (.ref i1) >>= _) _ _ _
 refine Á ((aY (cA t1 λo=>ka _ o D.i1z) (iR q1 λo=>ka _ o D.l1z) hx λhb tb sb=>Ç ?_))
 have kb:=λc o n=>sb.extBut c o n
 have ob:IsPair hb TO u v:=kb _ _ D.TOi1 (ka _ _ D.TOz hO)
 refine Á (Ķ ob rfl (Á (wpAny_updateSeq_pair ob λhc oc sc=>Á (wpAny_letGo (Ç ?_)))))
 have oc:IsPair hc TO x v:=oc
 have kc:=λc o n=>sc.extBut c o n
 refine Á (Á (wpAny_onRaise ?_))
 show wpAny _ _ (í (.ref i2) >>= _) _ _ _
 refine Á ((aY (cA t2 λo e=>kc _ o (è D.TOi2) (kb _ o (è D.i12) (ka _ o D.i2z e))) (iR q2 λo e=>kc _ o D.l2TO (kb _ o D.l2i1 (ka _ o D.l2z e))) hy λhd td sd=>Ç ?_))
 have kd:=λc o n=>sd.extBut c o n
 have od:IsPair hd TO x v:=kd _ _ D.TOi2 oc
 refine Á (Ķ od rfl (Á (wpAny_updateSeq_pair od λhe oe se=>Á (wpAny_letGo (Ç (Ç ?_))))))
 have oe:IsPair he TO x y:=oe
 have ke:=λc o n=>se.extBut c o n
 have size:he.objs.size=s.heap.objs.size:=by rw[se.1,sd.1,sc.1,sb.1,sa.1]
 have ze:IsZip he z TI TO .ellipsis:=ke _ _ (è D.TOz) (kd _ _ (è D.i2z) (kc _ _ (è D.TOz) (kb _ _ (è D.i1z) za)))
 have T1:he.IsTupleIter i1 l1 (k+1):=cA tb λo e=>ke _ o (è D.TOi1) (kd _ o D.i12 (kc _ o (è D.TOi1) e))
 have T2:he.IsTupleIter i2 l2 (k+1):=cA td λo e=>ke _ o (è D.TOi2) e
 have K5:Af z TO i1 i2 s.heap he:=λc o n1 n2 n3 n4 e=>ke _ _ n2 (kd _ _ n4 (kc _ _ n2 (kb _ _ n3 (ka _ _ n1 e))))
 refine Á (Ķ oe rfl (Á (wpAny_newTuple ?_)))
 show wpAny _ _ (ű (.ref z) (.ref he.objs.size) >>= _) _ _ _
 refine Á ?_
 unfold ű
 refine Á (Ļ (Ä _ ze) (by simp) λhf zf sf=>Ļ zf (by simp) λhg zg sg=>Ç ⟨_,rfl,Ç ?_⟩)
 have zg:IsZip hg z TI TO (rawInt he.objs.size):=zg
 have up:∀c o,c≠z->he.get? c=some o->hg.get? c=some o:=λc o n e=>sg.extBut _ _ n (sf.extBut _ _ n (Ä _ e))
 have new:IsPair hg he.objs.size x y:=by
  have n:=ĸ (Å ze)
  exact sg.extBut _ _ n (sf.extBut _ _ n (Î _ rfl))
 rw[size] at zg new
 show Q (some (.ref he.objs.size)) _
 rw[size]
 exact hQ hg zg (up _ _ D.TOz oe) (cA T1 λo e=>up _ o D.i1z e) (cA T2 λo e=>up _ o D.i2z e) new λc o n1 n2 n3 n4 e=>up c o n1 (K5 c o n1 n2 n3 n4 e)
def wu(hh:A.handled=none)(D:ZipApart z TI TO i1 i2 l1 l2)(Z:ZT z TI TO i1 i2 l1 l2 k s.heap)(q1:s.heap.IsTuple l1 xs)(q2:s.heap.IsTuple l2 ys)(no:xs[k]?=none\/ys[k]?=none){Q:Option Value->Shared->Prop}(hQ:∀h',Af z TO i1 i2 s.heap h'->Q none { s with heap:=h' }):wpAny (model prog w) A (pyNext (.ref z)) Q E s:=by
 obtain⟨hz,hI,⟨u,v,hO⟩,t1,t2⟩:=Z
 have ty:s.TypeIs (.ref z) "zip":=⟨_,hz,rfl⟩
 unfold pyNext
 refine Á (wpAny_attempt (ĉ (name:=ğ "__next__") ty F.slot_zip_next (Ĉ F.slot_zip_next ty F.entry_zip_next ?_ (F.args_zip_next_1 _))))
 show wpAny _ _ (field (.ref z) 2 >>= _) _ _ _
 refine Á (ù hz rfl (x:=.bool false) rfl ?_)
 show wpAny _ _ (field (.ref z) 3 >>= _) _ _ _
 refine Á (ù hz rfl (x:=.ref TI) rfl (Á (Ķ hI rfl ?_)))
 show wpAny _ _ (đ (.ref z) >>= _) _ _ _
 refine Á ?_
 unfold đ
 refine Á (ù hz rfl (x:=.none) rfl (Ç ?_))
 simp only[if_true]
 refine Á (wpAny_rule (Á (ù hz rfl (x:=.ref TO) rfl (Á (Ļ hz (by simp) λha za sa=>Á ?_)))))
 have za:IsZip ha z TI TO .ellipsis:=za
 have ka:=λc o n=>sa.extBut c o n
 simp only[List.zipIdx_cons,List.zipIdx_nil,List.forIn_cons,List.forIn_nil]
 refine Á (Á (wpAny_onRaise ?_))
 show wpAny _ _ (í (.ref i1) >>= _) _ _ _
 cases hx:xs[k]? with
 |none =>
  refine Á (bA hh (cA t1 λo=>ka _ o D.i1z) (iR q1 λo=>ka _ o D.l1z) hx λhb e kb he=>?_)
  obtain⟨oe,ho,hc⟩:=he
  have zb:IsZip hb z TI TO .ellipsis:=kb _ _ (è D.i1z) za
  have ne:e≠z:=λy=>by subst y;rw[zb] at ho;cases ho;simp at hc
  refine Ļ zb (by simp) λhd zd sd=>?_
  refine Á (wpAny_isInstance (T:="StopIteration") (b:=true) ⟨oe,sd.extBut _ _ ne ho,hc⟩ isSubtype_stop (Ç (hQ _ λc o n1 n2 n3 n4 q=>?_)))
  exact sd.extBut _ _ n1 (kb _ _ n3 (ka _ _ n1 q))
 |some x =>
  have hy:ys[k]?=none:=no.resolve_left (by rw[hx];exact λq=>nomatch q)
  refine Á ((aY (cA t1 λo=>ka _ o D.i1z) (iR q1 λo=>ka _ o D.l1z) hx λhb tb sb=>Ç ?_))
  have kb:=λc o n=>sb.extBut c o n
  have ob:IsPair hb TO u v:=kb _ _ D.TOi1 (ka _ _ D.TOz hO)
  refine Á (Ķ ob rfl (Á (wpAny_updateSeq_pair ob λhc oc sc=>Á (wpAny_letGo (Ç ?_)))))
  have kc:=λc o n=>sc.extBut c o n
  refine Á (Á (wpAny_onRaise ?_))
  show wpAny _ _ (í (.ref i2) >>= _) _ _ _
  refine Á (bA hh (cA t2 λo e=>kc _ o (è D.TOi2) (kb _ o (è D.i12) (ka _ o D.i2z e))) (iR q2 λo e=>kc _ o D.l2TO (kb _ o D.l2i1 (ka _ o D.l2z e))) hy λhd e kd he=>?_)
  obtain⟨oe,ho,hcl⟩:=he
  have zd:IsZip hd z TI TO .ellipsis:=kd _ _ (è D.i2z) (kc _ _ (è D.TOz) (kb _ _ (è D.i1z) za))
  have ne:e≠z:=λy=>by subst y;rw[zd] at ho;cases ho;simp at hcl
  refine Ļ zd (by simp) λhg zg sg=>?_
  refine Á (wpAny_isInstance (T:="StopIteration") (b:=true) ⟨oe,sg.extBut _ _ ne ho,hcl⟩ isSubtype_stop (Ç (hQ _ λc o n1 n2 n3 n4 q=>?_)))
  exact sg.extBut _ _ n1 (kd _ _ n4 (kc _ _ n2 (kb _ _ n3 (ka _ _ n1 q))))
end
def wj(l1 l2:Addr)(xs ys:Array Value) :
  Meets (Builtin.«zip.__new__» ⟨[.type "zip",.ref l1,.ref l2],[]⟩) (λ_ R s=>s.heap.IsTuple l1 xs/\s.heap.IsTuple l2 ys /\
   ∀(h1 h2 h3 h4 h5:Heap),h1=s.heap.push { cls:=.type "tuple_iterator",data:=.fields #[.ref l1,.int 0 0] }->h2=h1.push { cls:=.type "tuple_iterator",data:=.fields #[.ref l2,.int 0 0] }->h3=h2.push { cls:=.type "tuple",data:=.seq #[.ref s.heap.objs.size,.ref h1.objs.size] } ->
    h4=h3.push { cls:=.type "tuple",data:=.seq #[.none,.none] }->h5=h4.push { cls:=.type "zip",data:=.fields #[.none,.bool false,.bool false,.ref h2.objs.size,.ref h3.objs.size] }->R (.ok (.ret (.ref h4.objs.size))) { s with heap:=h5 }) :=
 .of_wp λprog w A R s h=>by
  obtain⟨hp,g,d,tk,os⟩:=s
  obtain⟨q1,q2,h⟩:=h
  have sub:=sub_zip
  have m1:Heap.IsTuple (Shared.heap ⟨hp,g,d,tk,os⟩) l1 xs:=q1
  have m2:Heap.IsTuple (Shared.heap ⟨hp.push { cls:=.type "tuple_iterator",data:=.fields #[.ref l1,.int 0 0] },g,d,tk,os⟩) l2 ys:=iR q2 λo e=>Ä _ e
  wp_walk using Ė m1,Ė m2
  exact⟨_,rfl,h _ _ _ _ _ rfl rfl rfl rfl rfl⟩
section
variable {prog:Program}{w:World}{A:Around}{E:Value->Shared->Prop}{s:Shared}{l1 l2:Addr}{xs ys:Array Value}
def vQ{Q:Value->Shared->Prop}(q1:s.heap.IsTuple l1 xs)(q2:s.heap.IsTuple l2 ys)(h:∀h',ZT (s.heap.objs.size+4) (s.heap.objs.size+2) (s.heap.objs.size+3) s.heap.objs.size (s.heap.objs.size+1) l1 l2 0 h'->(∀c o,s.heap.get? c=some o->h'.get? c=some o)->Q (.ref (s.heap.objs.size+4)) { s with heap:=h' }) :
  wpAny (model prog w) A (call (.type "zip") [.ref l1,.ref l2]) Q E s:=by
 refine callType_new F.called_zip (by decide) (F.typeCall_zip_2 _ _) (F.newCall_zip_2 _ _) (λobj=>F.args_object_init_3 obj _ _) F.entry_zip_new (wj l1 l2 xs ys) ⟨q1,q2,?_⟩
 intro h1 h2 h3 h4 h5 e1 e2 e3 e4 e5
 have z1:h1.objs.size=s.heap.objs.size+1:=by rw[e1];exact ý ..
 have z2:h2.objs.size=s.heap.objs.size+2:=by rw[e2,ý,z1]
 have z3:h3.objs.size=s.heap.objs.size+3:=by rw[e3,ý,z2]
 have z4:h4.objs.size=s.heap.objs.size+4:=by rw[e4,ý,z3]
 have up:∀{h h':Heap}{o:Obj}{c:Addr}{q:Obj},h'=h.push o->h.get? c=some q->h'.get? c=some q:=λe q=>by rw[e];exact Ä _ q
 have top:∀{h h':Heap}{o:Obj}{n:Nat},h'=h.push o->h.objs.size=n->o.isFreed=false->h'.get? n=some o:=λe z f=>by rw[e,←z];exact Î _ f
 have g1:=top e1 rfl rfl
 have g2:=top e2 z1 rfl
 have g3:=top e3 z2 rfl
 have g4:=top e4 z3 rfl
 have g5:=top e5 z4 rfl
 rw[z1] at g3
 rw[z2,z3] at g5
 show _/\_
 rw[z4]
 refine⟨⟨_,g5,rfl⟩,h _ ⟨g5,up e5 (up e4 g3),⟨_,_,up e5 g4⟩,⟨_,up e5 (up e4 (up e3 (up e2 g1))),rfl,rfl⟩,⟨_,up e5 (up e4 (up e3 g2)),rfl,rfl⟩⟩ λc o q=>up e5 (up e4 (up e3 (up e2 (up e1 q))))⟩
end
def Ag(K:Í)(a b:Addr):It :=
 ⟨λi H=>∃xs ys x y,SqT K H a xs/\SqT K H b ys/\xs[i]?=some x/\ys[i]?=some y,λi H v H'=>∃t x y,v=.ref t/\H t=none/\H'=upd H t (.tup [x,y])/\(∀xs,SqT K H a xs->xs[i]?=some x)/\∀ys,SqT K H b ys->ys[i]?=some y,λi H=>∃xs ys,SqT K H a xs/\SqT K H b ys/\(xs.length<=i\/ys.length<=i)⟩
def uK{P:Program}{w:World}{K:Í}{elts:List Expr}{kk:Nat}{pos:Pos}{a b z TI TO i1 i2:Addr}(D:ZipApart z TI TO i1 i2 a b) :
  Turn P w K (.Tuple elts kk pos) (Ag K a b) [z,TI,TO,i1,i2] z (ZT z TI TO i1 i2 a b) where
 mem:=by simp
 obj:=λi h st c hc=>by
  obtain⟨hz,hTI,⟨u,v,hTO⟩,⟨o1,j1,c1,d1⟩,⟨o2,j2,c2,d2⟩⟩:=st
  simp only[Ï,æ,or_false] at hc
  rcases hc with rfl|rfl|rfl|rfl|rfl
  ·exact⟨_,hz,λv z=>nomatch z⟩
  ·exact⟨_,hTI,λv z=>nomatch z⟩
  ·exact⟨_,hTO,λv z=>nomatch z⟩
  ·exact⟨o1,j1,λv z=>by rw[d1] at z;cases z⟩
  ·exact⟨o2,j2,λv z=>by rw[d2] at z;cases z⟩
 keep:=λi h h' st k=>by
  obtain⟨hz,hTI,⟨u,v,hTO⟩,⟨o1,j1,r1⟩,⟨o2,j2,r2⟩⟩:=st
  exact⟨k z (by simp) _ hz,k TI (by simp) _ hTI,⟨u,v,k TO (by simp) _ hTO⟩,⟨o1,k i1 (by simp) _ j1,r1⟩,⟨o2,k i2 (by simp) _ j2,r2⟩⟩
 item:=by
  intro X hP hw hK hc i pins s σ H E I hf st hg
  subst hP hw hK
  obtain⟨xs,ys,x,y,hq,hq2,hx,hy⟩:=hg
  obtain⟨its,rv,pl,hz1⟩:=I.tuple hq
  obtain⟨its2,rv2,pl2,hz2⟩:=I.tuple hq2
  obtain⟨u,hu,ru⟩:=rv.get hx
  obtain⟨u2,hu2,ru2⟩:=rv2.get hy
  obtain⟨hz,hTI,hTO,h1,h2⟩:=st
  have ex:its.toArray[i]?=some u:=by simpa using hu
  have ey:its2.toArray[i]?=some u2:=by simpa using hu2
  refine uF D ⟨hz,hTI,hTO,h1,h2⟩ (show s.heap.IsTuple a its.toArray from pl) (show s.heap.IsTuple b its2.toArray from pl2) ex ey λh' zg og t1 t2 new kp=>⟨_,rfl,wpAny_letOwnedTupleGo_zip zg λh3 z3 s3=>?_⟩
  have k3:∀c o,c≠z->h'.get? c=some o->h3.get? c=some o:=λc o n e=>s3.extBut _ _ n e
  generalize hT:s.heap.objs.size=T at new zg
  have hTs:s.heap.objs.size<=T:=Nat.le_of_eq hT
  have ap:T≠z:=λe=>by have new':h'.get? T=_:=new;rw[e,show h'.get? z=_ from zg] at new';injection new' with new';injection new' with e1;injection e1 with e2;exact absurd e2 (by decide)
  have hTn:H T=none:=I.hok.fresh hTs
  have keep2:∀c o,c∉[z,TO,i1,i2]->s.heap.get? c=some o->h3.get? c=some o:=λc o hc q=>by
   simp only[Ï,æ,or_false,not_or] at hc
   exact k3 c o hc.1 (kp c o hc.1 hc.2.1 hc.2.2.1 hc.2.2.2 q)
  have fz:∀c∈[z,TO,i1,i2],fj X pins H c:=λc hc=>hf c (by
   simp only[Ï,æ,or_false] at hc ⊢
   rcases hc with h|h|h|h <;> simp[h])
  have nT:∀{c:Addr}{y:HO},H c=some y->c∉[z,TO,i1,i2]:=λ{c y} q hc=>by
   have:=(fz c hc).1
   rw[this] at q
   cases q
  have hTup3:IsTup h3 T #[u,u2]:=⟨_,k3 T _ ap new,rfl,_,rfl⟩
  have J:Inv X pins σ (upd H T (.tup [x,y])) { s with heap:=h3,toks:=s.toks }:=by
   refine I.step (g':=s.gens) (d':=s.drawn) (t':=s.toks) (ch:=[z,TO,i1,i2]) (λc hc=>?_) (λc o _ _ hcb q _=>keep2 c o hcb q)
    (λc o _ _ hcb q _=>⟨o.slots,keep2 c o hcb q⟩) (λc o _ q n=>by rw[aj (Ö (Õ (Å q) hTs))];exact n)
    (λc o hcb q=>⟨o,keep2 c o hcb q⟩) (λc ys q=>by rw[aj (ak q hTn)];exact q) (λc o y q=>by rw[aj (ak q hTn)];exact q)
    (λc ps q=>⟨#[],by rw[aj (ak q hTn),q];simp⟩) (λm hm=>?_) ?_ I.bare
   ·obtain⟨e0,e1,e2,e3,e4,e5⟩:=fz c hc
    exact⟨e3,e1,e4,e5⟩
   ·obtain⟨o,es,ep,ho',r⟩:=hm
    refine⟨o,es,ep,keep2 _ o (λhc=>?_) ho',r⟩
    exact(fz _ hc).2.1 rfl
   ·intro c u' q
    by_cases hb:c=T
    ·subst hb
     rw[ao] at q
     cases q
     exact⟨(by show 2<=sizeLine;decide),[u,u2],.cons ru (.cons ru2 .nil),hTup3⟩
    ·rw[aj hb] at q
     refine(I.hok c u' q).stay (λd v hcv y=>keep2 d v ?_ y) (λd y=>by rw[aj (ak y hTn)];exact y) λd ys y=>by rw[aj (ak y hTn)];exact y
     rcases hcv with rfl|z
     ·exact nT q
     ·exact nT z
  refine⟨.ref T,_,J,rfl,⟨T,x,y,rfl,hTn,rfl,λxs' hy'=>by rw[I.fu hy' hq];exact hx,λys' hy'=>by rw[I.fu hy' hq2];exact hy⟩,⟨z3,k3 _ _ D.TIz (kp _ _ D.TIz D.TITO D.TIi1 D.TIi2 hTI),⟨_,_,k3 _ _ D.TOz og⟩,cA t1 λo=>k3 _ o D.i1z,cA t2 λo=>k3 _ o D.i2z⟩,λc hc=>?_⟩
  rw[aj]
  ·exact(hf c hc).1
  ·rintro rfl
   simp only[Ï,æ,or_false] at hc
   have lt:∀{d:Addr}{o:Obj},s.heap.get? d=some o->c≠d:=λe=>ĸ (Õ (Å e) hTs)
   obtain⟨w1,w2,hTO'⟩:=hTO
   obtain⟨o1,j1,_⟩:=h1
   obtain⟨o2,j2,_⟩:=h2
   rcases hc with h|h|h|h|h
   ·exact lt hz h
   ·exact lt hTI h
   ·exact lt hTO' h
   ·exact lt j1 h
   ·exact lt j2 h
 done:=by
  intro X hP hw hK hc i pins s σ H E I hf st hg
  subst hP hw hK
  obtain⟨xs,ys,hq,hq2,he⟩:=hg
  obtain⟨its,rv,pl,hz1⟩:=I.tuple hq
  obtain⟨its2,rv2,pl2,hz2⟩:=I.tuple hq2
  obtain⟨hz,hTI,⟨u,v,hTO⟩,h1,h2⟩:=st
  have r1:=rv.length
  have r2:=rv2.length
  refine wu (I.ok.hd hc) D ⟨hz,hTI,⟨u,v,hTO⟩,h1,h2⟩ (show s.heap.IsTuple a its.toArray from pl) (show s.heap.IsTuple b its2.toArray from pl2) ?_ λh' hk=>⟨rfl,?_⟩
  ·rcases he with he|he
   ·left;simp;omega
   ·right;simp;omega
  have fz:∀c∈[z,TO,i1,i2],fj X pins H c:=λc hc=>hf c (by
   simp only[Ï,æ,or_false] at hc ⊢
   rcases hc with h|h|h|h <;> simp[h])
  have keep2:∀c o,c∉[z,TO,i1,i2]->s.heap.get? c=some o->h'.get? c=some o:=λc o hc q=>hk c o (λe=>hc (by simp[e])) (λe=>hc (by simp[e])) (λe=>hc (by simp[e])) (λe=>hc (by simp[e])) q
  have nT:∀{c:Addr}{y:HO},H c=some y->c∉[z,TO,i1,i2]:=λ{c y} q hc=>by
   have:=(fz c hc).1
   rw[this] at q
   cases q
  refine I.step (g':=s.gens) (d':=s.drawn) (t':=s.toks) (ch:=[z,TO,i1,i2]) (λc hc=>?_) (λc o _ _ hcb q _=>keep2 c o hcb q)
    (λc o _ _ hcb q _=>⟨o.slots,keep2 c o hcb q⟩) (λc o _ q n=>n)
    (λc o hcb q=>⟨o,keep2 c o hcb q⟩) (λc ys q=>q) (λc o y q=>q)
    (λc ps q=>⟨#[],by rw[q];simp⟩) (λm hm=>?_) ?_ I.bare
  ·obtain⟨e0,e1,e2,e3,e4,e5⟩:=fz c hc
   exact⟨e3,e1,e4,e5⟩
  ·obtain⟨o,es,ep,ho',r⟩:=hm
   refine⟨o,es,ep,keep2 _ o (λhc=>?_) ho',r⟩
   exact(fz _ hc).2.1 rfl
  ·intro c u' q
   refine(I.hok c u' q).stay (λd v hcv y=>keep2 d v ?_ y) (λd y=>y) λd ys y=>y
   rcases hcv with rfl|z
   ·exact nT q
   ·exact nT z
 self:=λA i s Q E st h=>by
  obtain⟨hz,_⟩:=st
  exact wpAny_pyIter_zip hz h
def Ht(K:Í)(ta:TA):TI:=λσ H R=>ta σ H λvs H1=>∃a b,vs=[.ref a,.ref b]/\((∃xs ys,SqL K H1 a xs/\SqL K H1 b ys/\R (Ga K a b) H1)\/∃xs ys,SqT K H1 a xs/\SqT K H1 b ys/\R (Ag K a b) H1)
def Ay{X:Cx}{elts:List Expr}{kk:Nat}{tpos:Pos}{a b:Expr}{ta:TA}{p pos:Pos}(hg:Gl X "zip")(hm:X.mg "zip"=none)(ha:PA X [a,b] ta)(e2:starEach [a,b] X.env=(false,eval a X.env)::starEach [b] X.env:=by rfl)(e3:(backTo pos (starEach [b] X.env)).any (·.1)=false:=by rfl) :
  PI X (.Tuple elts kk tpos) (.Call (.Name "zip" p) [a,b] [] pos) (Ht X.K ta):=by
 intro pins s σ H R I h
 refine Call_ (iQ I hg hm PyProof.Rows.boot_zip (İ (thn (ha pos pins s σ H _ I h) λus s1 ⟨vs,H1,I1,r1,q1⟩=>?_) e2 e3))
 obtain⟨a,b,rfl,q1⟩:=q1
 obtain⟨u,u2,rfl,rx,ry⟩:=vals2 r1
 cases rx
 cases ry
 have fr:∀j,fj X pins H1 (s1.heap.objs.size+j):=λj=>I1.pB (ť _ _) (I1.hok.fresh (ť _ _))
 rcases q1 with ⟨xs,ys,hp,hq,k⟩|⟨xs,ys,hp,hq,k⟩
 ·obtain⟨its,rv,pl,_⟩:=I1.list hp
  obtain⟨its2,rv2,pl2,_⟩:=I1.list hq
  refine call_zip_2 pl.isList pl2.isList λh' hz hTI hTO hi1 hi2 hsz hk=>?_
  have lp:a<s1.heap.objs.size:=by obtain⟨o,e,_⟩:=pl.isList;exact Å e
  have lq:b<s1.heap.objs.size:=by obtain⟨o,e,_⟩:=pl2.isList;exact Å e
  have T:=wG (P:=X.prog) (w:=X.w) (K:=X.K) (elts:=elts) (kk:=kk) (pos:=tpos) (zipApart_new lp lq)
  refine T.self _ 0 _ _ _ ⟨hz,hTI,⟨_,_,hTO⟩,hi1,hi2⟩ ⟨_,_,_,_,H1,rfl,I1.kept (t':=s1.toks) hk,T,⟨hz,hTI,⟨_,_,hTO⟩,hi1,hi2⟩,λc hc=>?_,k⟩
  simp only[Ï,æ,or_false] at hc
  rcases hc with h|h|h|h|h
  ·rw[h];exact fr 4
  ·rw[h];exact fr 2
  ·rw[h];exact fr 3
  ·rw[h];exact fr 0
  ·rw[h];exact fr 1
 ·obtain⟨its,rv,pl,_⟩:=I1.tuple hp
  obtain⟨its2,rv2,pl2,_⟩:=I1.tuple hq
  refine vQ (show s1.heap.IsTuple a its.toArray from pl) (show s1.heap.IsTuple b its2.toArray from pl2) λh' Z hk=>?_
  have lp:a<s1.heap.objs.size:=by obtain⟨o,e,_⟩:=pl;exact Å e
  have lq:b<s1.heap.objs.size:=by obtain⟨o,e,_⟩:=pl2;exact Å e
  have T:=uK (P:=X.prog) (w:=X.w) (K:=X.K) (elts:=elts) (kk:=kk) (pos:=tpos) (zipApart_new lp lq)
  refine T.self _ 0 _ _ _ Z ⟨_,_,_,_,H1,rfl,I1.kept (t':=s1.toks) hk,T,Z,λc hc=>?_,k⟩
  simp only[Ï,æ,or_false] at hc
  rcases hc with h|h|h|h|h
  ·rw[h];exact fr 4
  ·rw[h];exact fr 2
  ·rw[h];exact fr 3
  ·rw[h];exact fr 0
  ·rw[h];exact fr 1
end L2
namespace Dl
open PySem L2 PyProof.Rows
variable [Gr]
section
variable {X:Cx}{tg:Expr}{pos:Pos}{ta:DA}
def uH{K:Í}{ok:Addr->Prop}{a b:Addr}{ds es:List D}:Wlk (λH=>Rp ok H (.ref a) (.tuple ds)/\Rp ok H (.ref b) (.tuple es)) (Ag K a b) ((ds.zip es).map prD) ok where
 go:=λi H r hi=>by
  obtain⟨b,vs,e,h,rs⟩:=r.1.bK
  cases e
  obtain⟨b2,vs2,e,h2,rs2⟩:=r.2.bK
  cases e
  rw[Ã,Ā] at hi
  have l1:i<vs.length:=by rw[rs.length];omega
  have l2:i<vs2.length:=by rw[rs2.length];omega
  exact⟨vs,vs2,vs[i],vs2[i],SqT.of h,SqT.of h2,by simp[l1],by simp[l2]⟩
 stop:=λH r=>by
  obtain⟨b,vs,e,h,rs⟩:=r.1.bK
  cases e
  obtain⟨b2,vs2,e,h2,rs2⟩:=r.2.bK
  cases e
  refine⟨vs,vs2,SqT.of h,SqT.of h2,?_⟩
  rw[Ã,Ā,rs.length,rs2.length]
  omega
 yld:=λi H x H' r y=>by
  obtain⟨t,v,v2,rfl,ht,rfl,y1,y2⟩:=y
  have sm:Same H (upd H t (.tup [v,v2])):=λb u q=>by rw[aj (ak q ht)];exact q
  refine⟨sm,λd hd=>?_⟩
  obtain⟨b,vs,e,h,rs⟩:=r.1.bK
  cases e
  obtain⟨b2,vs2,e,h2,rs2⟩:=r.2.bK
  cases e
  rw[Ú] at hd
  cases he:(ds.zip es)[i]? with
  |none=>rw[he] at hd;cases hd
  |some pq =>
   rw[he] at hd
   have e:=Ì hd
   subst e
   obtain⟨g1,g2⟩:=ŋ.mp he
   obtain⟨w1,hw1,rw1⟩:=rs.getD g1
   obtain⟨w2,hw2,rw2⟩:=rs2.getD g2
   have z1:=y1 vs (SqT.of h)
   rw[hw1] at z1
   cases z1
   have z2:=y2 vs2 (SqT.of h2)
   rw[hw2] at z2
   cases z2
   exact .tup ao (.cons (rw1.mono (λ_ o=>o) (λa o _ e=>sm a o e) λa xs e=>sm a _ e) (.cons (rw2.mono (λ_ o=>o) (λa o _ e=>sm a o e) λa xs e=>sm a _ e) .nil))
 stab:=λH H' r f t=>⟨r.1.aW (λa o n e=>⟨n,f a o n e⟩) t,r.2.aW (λa o n e=>⟨n,f a o n e⟩) t⟩
def Hs(ta:DA):DI:=λρ P=>ta ρ λks=>match ks with
 |[(k1,.list ds),(k2,.list es)]=>P (k1.join k2) ((ds.zip es).map prD)
 |[(k1,.tuple ds),(k2,.tuple es)]=>P (k1.join k2) ((ds.zip es).map prD)
 |_=>False
def pI{elts:List Expr}{kk:Nat}{tpos:Pos}{a b:Expr}{ps:Pos}(hm:X.mg "zip"=none)(ha:PDA X [a,b] ta)(hg:Gl X "zip":=by rfl)(e2:starEach [a,b] X.env=(false,eval a X.env)::starEach [b] X.env:=by rfl)(e3:(backTo pos (starEach [b] X.env)).any (·.1)=false:=by rfl):PDI X (.Tuple elts kk tpos) (.Call (.Name "zip" ps) [a,b] [] pos) (Hs ta):=PI.wk (Ay hg hm ha e2 e3) (by
 rintro σ H R ⟨p,H0,own,ρ,P,E,t,q⟩
 refine⟨p,H0,own,ρ,_,E,t,λks vs H1 h A r=>?_⟩
 split at h
 ·rename_i k1 ds k2 es
  obtain⟨v1,v2,rfl,r1,r2⟩:=wX r
  have r1:=dN A (bL k1 k2).1 r1
  have r2:=dN A (bL k1 k2).2 r2
  obtain⟨a,vs,e,_,ha,rs⟩:=Rp.bB (id r1)
  subst e
  obtain⟨b,vs2,e,_,hb,rs2⟩:=Rp.bB (id r2)
  subst e
  exact⟨a,b,rfl,.inl ⟨vs,vs2,SqL.of ha,SqL.of hb,q (k1.join k2) _ _ H1 _ h A wz ⟨rpA r1,rpA r2⟩⟩⟩
 ·rename_i k1 ds k2 es
  obtain⟨v1,v2,rfl,r1,r2⟩:=wX r
  have r1:=dN A (bL k1 k2).1 r1
  have r2:=dN A (bL k1 k2).2 r2
  obtain⟨a,vs,e,ha,rs⟩:=Rp.bK (id r1)
  subst e
  obtain⟨b,vs2,e,hb,rs2⟩:=Rp.bK (id r2)
  subst e
  exact⟨a,b,rfl,.inr ⟨vs,vs2,SqT.of ha,SqT.of hb,q (k1.join k2) _ _ H1 _ h A uH ⟨rpA r1,rpA r2⟩⟩⟩
 ·exact h.elim)
end
end Dl
namespace Wr
open PySem L2 PyProof.Rows Dl
variable [Gr] {X:Cx}{pos:Pos}{ta:DA}
def pI{elts:List Expr}{kk:Nat}{tpos:Pos}{a b:Expr}{ps:Pos}(hm:X.mg "zip"=none)(ha:WDA X [a,b] ta)(hg:Gl X "zip":=by rfl)(e2:starEach [a,b] X.env=(false,eval a X.env)::starEach [b] X.env:=by rfl)(e3:(backTo pos (starEach [b] X.env)).any (·.1)=false:=by rfl):WDI X (.Tuple elts kk tpos) (.Call (.Name "zip" ps) [a,b] [] pos) (Hs ta):=⟨Dl.pI hm ha.h hg e2 e3⟩
end Wr
namespace L2
open PySem PySem.Spec PyProof.Rows
open PySem.AutoSeq1 (wpAny_loadPart')
open PySem.MeetsSeq PySem.MeetsSeq3
section
variable {prog:Program}{w:World}{A:Around}{E:Value->Shared->Prop}{s:Shared}
end
section
variable {X:Cx}
end
end L2
namespace Dl
open PySem L2 PyProof.Rows
section
variable {X:Cx}{pos:Pos}{a:Expr}{t:DA} [Gr]
end
end Dl
namespace L2
open PySem PySem.Spec PyProof.Rows
section
variable {prog:Program}{w:World}{A:Around}{E:Value->Shared->Prop}{s:Shared}
end
section
variable {X:Cx}
end
end L2
namespace Dl
open PySem L2 PyProof.Rows
section
variable {X:Cx}{pos:Pos}{a e:Expr}{t:DA} [Gr]
end
end Dl
namespace L2
open PySem PyProof.Rows
def Asc(xs:Array Nat):Prop:=xs.toList.Pairwise (·<·)
structure Good(w:World)(t:SetTable):Prop where
 asc:Asc t.place
 dum:t.dummies=#[]
 led:t.led=!w.params.followText "set-order"
section
variable {w:World}{t:SetTable}
end
section
variable {P:Program}{w:World}{A:Around}{E:Value->Shared->Prop}{s:Shared}
end
section
variable {P:Program}{w:World}{A:Around}{R:Result->Shared->Prop}{I:Addr}{fp wr:List Addr}{G:Array GenState->Array GenState->Prop}{n:Nat}{W:Nat->Value->Prop}{St:Nat->Shared->Prop}
end
section
variable {P:Program}{w:World}{A:Around}{E:Value->Shared->Prop}{s:Shared}
end
section
variable {P:Program}{w:World}{A:Around}{E:Value->Shared->Prop}{s:Shared}{I a:Addr}{f:Value}{i n ep:Nat}{o:Obj}{es:Array (Int×Value)}{t:SetTable}
end
section
variable {P:Program}{w:World}{A:Around}{E:Value->Shared->Prop}{s:Shared}
variable {a:Addr}{i ep:Nat}{o:Obj}{es:Array (Int×Value)}{t:SetTable}
end
section
variable {P:Program}{w:World}{A:Around}{E:Value->Shared->Prop}{s:Shared}{I a:Addr}{ep:Nat}{o:Obj}{es:Array (Int×Value)}{t:SetTable}
end
end L2
namespace L2
open PySem PySem.Spec PyProof.Rows
section
variable {P:Program}{w:World}{A:Around}{E:Value->Shared->Prop}{s:Shared}{a:Addr}{S:Int->Bool}{n:Nat}
end
end L2
namespace L2
open PySem PyProof.Rows
section
variable {X:Cx}{pins:List (Addr×Obj)}{σ:List (Option V)}{H:Hp}{s:Shared}
end
end L2
namespace Dl
open PySem L2 PyProof.Rows
variable [Gr]
section
variable {X:Cx}{pos pos':Pos}{a:Expr}{t:DA}
end
end Dl
namespace Wr
open PySem L2 PyProof.Rows Dl
section
variable [Gr] {X:Cx}{pos pos':Pos}{a:Expr}{t:DA}
end
end Wr
namespace L2
open PySem PySem.Spec PyProof.Rows
def Fg(K:Í)(ta:TA):TI:=λσ H R=>ta σ H λvs H1=>∃a,vs=[.ref a]/\(((∃xs,SqT K H1 a xs)/\R (Ite K a) H1)\/((∃xs,SqL K H1 a xs)/\R (BZ K a) H1))
def xM{X:Cx}{elts:List Expr}{kk:Nat}{tpos:Pos}{a:Expr}{ta:TA}{p pos:Pos}(hg:Gl X "enumerate")(hm:X.mg "enumerate"=none)(ha:PA X [a] ta)(hs:starEach [a] X.env=[(false,eval a X.env)]:=by rfl):PI X (.Tuple elts kk tpos) (.Call (.Name "enumerate" p) [a] [] pos) (Fg X.K ta):=by
 intro pins s σ H R I h
 refine Call_ (iQ I hg hm boot_enumerate (İ (thn (ha pos pins s σ H _ I h) λus s1 ⟨vs,H1,I1,r1,q1⟩=>?_) hs rfl))
 obtain⟨b,e,q1⟩:=q1
 subst e
 obtain⟨u,rfl,rx⟩:=vals1 r1
 cases rx
 rcases q1 with ⟨⟨xs,hq⟩,q⟩|⟨⟨xs,hq⟩,q⟩
 ·obtain⟨its,rv,pt,hz⟩:=I1.tuple hq
  refine eX (show s1.heap.IsTuple b its.toArray from pt) λh' he hit hsz hk=>?_
  have I2:Inv X pins σ H1 { s1 with heap:=h' }:=I1.kept (t':=s1.toks) hk
  have T:Turn X.prog X.w X.K (.Tuple elts kk tpos) (Ite X.K b) [s1.heap.objs.size+1,s1.heap.objs.size] (s1.heap.objs.size+1) (λi h=>(∃old,IsEnum h (s1.heap.objs.size+1) s1.heap.objs.size i old)/\h.IsTupleIter s1.heap.objs.size b i):=uM b _ _ (ĸ (Ŋ _))
  exact T.self _ 0 _ _ _ ⟨⟨_,he⟩,hit⟩ ⟨_,_,_,_,H1,rfl,I2,T,⟨⟨_,he⟩,hit⟩,λc hc=>by
   rcases Ï.mp hc with rfl|hc
   ·exact I1.pB (Ń _) (I1.hok.fresh (Ń _))
   ·have z:c=s1.heap.objs.size:=by simpa using hc
    subst z
    exact I1.pB (Æ _) (I1.hok.fresh (Æ _)),q⟩
 ·obtain⟨its,rv,pt,hz⟩:=I1.list hq
  refine call_enumerate_list pt.isList λh' he hit hsz hk=>?_
  have I2:Inv X pins σ H1 { s1 with heap:=h' }:=I1.kept (t':=s1.toks) hk
  have T:Turn X.prog X.w X.K (.Tuple elts kk tpos) (BZ X.K b) [s1.heap.objs.size+1,s1.heap.objs.size] (s1.heap.objs.size+1) (λi h=>(∃old,IsEnum h (s1.heap.objs.size+1) s1.heap.objs.size i old)/\h.IsListIter s1.heap.objs.size b i):=rm b _ _ (ĸ (Ŋ _))
  exact T.self _ 0 _ _ _ ⟨⟨_,he⟩,hit⟩ ⟨_,_,_,_,H1,rfl,I2,T,⟨⟨_,he⟩,hit⟩,λc hc=>by
   rcases Ï.mp hc with rfl|hc
   ·exact I1.pB (Ń _) (I1.hok.fresh (Ń _))
   ·have z:c=s1.heap.objs.size:=by simpa using hc
    subst z
    exact I1.pB (Æ _) (I1.hok.fresh (Æ _)),q⟩
open AutoSeq1 in
section
variable {X:Cx}
end
end L2
namespace Dl
open PySem L2 PyProof.Rows
variable [Gr]
section
variable {X:Cx}{st:Stmt}{te:DE}{pos:Pos}{ta:DA}
def Hw(ta:DA):DI:=λρ P=>ta ρ λks=>match ks with
 |[(k,.tuple ds)]=>P k (iy ds)
 |[(k,.list ds)]=>P k (iy ds)
 |_=>False
def lF{elts:List Expr}{kk:Nat}{tpos:Pos}{a:Expr}{ps:Pos}(hm:X.mg "enumerate"=none)(ha:PDA X [a] ta)(hg:Gl X "enumerate":=by rfl)(hs:starEach [a] X.env=[(false,eval a X.env)]:=by rfl):PDI X (.Tuple elts kk tpos) (.Call (.Name "enumerate" ps) [a] [] pos) (Hw ta):=PI.wk (xM hg hm ha hs) (by
 rintro σ H R ⟨p,H0,own,ρ,P,E,t,q⟩
 refine⟨p,H0,own,ρ,_,E,t,λks vs H1 h A r=>?_⟩
 split at h
 ·rename_i k ds
  obtain⟨v,rfl,r'⟩:=bY r
  obtain⟨a,vs,e,ha,rs⟩:=Rp.bK r'
  subst e
  exact⟨a,rfl,.inl ⟨⟨vs,SqT.of ha⟩,q k _ _ H1 _ h A uJ (rpA r')⟩⟩
 ·rename_i k ds
  obtain⟨v,rfl,r'⟩:=bY r
  obtain⟨a,vs,e,_,ha,rs⟩:=Rp.bB r'
  subst e
  exact⟨a,rfl,.inr ⟨⟨vs,SqL.of ha⟩,q k _ _ H1 _ h A qY (rpA r')⟩⟩
 ·exact h.elim)
end
end Dl
namespace Wr
open PySem L2 PyProof.Rows Dl
section
variable [Gr] {X:Cx}{pos:Pos}{a:Expr}{ta t:DA}{te:DE}
def lF{elts:List Expr}{kk:Nat}{tpos pos:Pos}{a:Expr}{ps:Pos}(hm:X.mg "enumerate"=none)(ha:WDA X [a] ta)(hg:Gl X "enumerate":=by rfl)(hs:starEach [a] X.env=[(false,eval a X.env)]:=by rfl):WDI X (.Tuple elts kk tpos) (.Call (.Name "enumerate" ps) [a] [] pos) (Hw ta):=⟨Dl.lF hm ha.h hg hs⟩
end
end Wr
open Wr renaming bR → À,cD → Â,dv → É,iz → Ò,j7 → Ø,gq → à,iV → å,jO → ï,sI → ô,rJ → þ,nW → ą,pH → Ć,xY → Ē,nY → ĕ,dc → Ě,zM → ĝ,cL → Ġ,lG → ģ,pG → ī,j4 → ĵ,jE → ń,sO → ō,xX → ŕ,wty → ŗ,nU → Ř,lE → Ś,wv → ŝ,rG → Ŧ,yc → ũ,oh → ŵ,dcP → Ŷ,j6 → Ź,kj → ž
open Wr.WDSs renaming h → ā
open Dl renaming Cal → Ď,Bu → Į,Bn → ň
open L2 renaming Fq → Ī,qe → ś,xT → Ŝ,rF → Ŵ
open L2.V renaming int → Ŭ
namespace Nf
open PySem PySem.W PyProof.Rows
def jz(tb:String->Option Builtin)(p:Program)(w:World)(m:Nat)(ann:Option Value):Nat->SharedT->Thread->Option SharedT
 |0,_,_=>none
 |n+1,s,t=>match through t with
  |true=>some s
  |false=>match stepOk m ann t with
   |false=>none
   |true=>match stepT (denote tb) p w s t with
    |none=>none
    |some r=>jz tb p w m ann n r.1 r.2
def mG{tb:String->Option Builtin}{p:Program}{w:World}{m:Nat}{ann:Option Value}:∀{n:Nat}{s s':SharedT}{t:Thread},jz tb p w m ann n s t=some s'->topRun tb p w m ann n s.abs t=some s'.abs
 |0,_,_,_,h=>by cases h
 |n+1,s,s',t,h=>by
  unfold jz at h
  unfold topRun
  cases he:through t with
  |true=>rw[he] at h;cases h;rfl
  |false =>
   rw[he] at h
   cases hk:stepOk m ann t with
   |false=>rw[hk] at h;cases h
   |true =>
    rw[hk] at h
    cases hs:stepT (denote tb) p w s t with
    |none=>rw[hs] at h;cases h
    |some r=>obtain⟨s2,t2⟩:=r;rw[hs] at h;rw[stepT_spec hs];exact mG h
def lD(P:Params):List DictEntry:=match (ő P).data with|.dict es _=>es.toList|_=>[]
def cP(P:Params)(i:Nat):List DictEntry:=((lD P).drop i).take 16
def b0(P:Params):List DictEntry:=by
 refine(?f:(l:List DictEntry)->l=cP P 0->List DictEntry) ?l ?h
 case f=>exact λl _=>l
 case h=>unfold cP lD ő;dsimp only[Ň,Ņ];exact rfl
def b1(P:Params):List DictEntry:=by
 refine(?f:(l:List DictEntry)->l=cP P 16->List DictEntry) ?l ?h
 case f=>exact λl _=>l
 case h=>unfold cP lD ő;dsimp only[Ň,Ņ];exact rfl
def b2(P:Params):List DictEntry:=by
 refine(?f:(l:List DictEntry)->l=cP P 32->List DictEntry) ?l ?h
 case f=>exact λl _=>l
 case h=>unfold cP lD ő;dsimp only[Ň,Ņ];exact rfl
def b3(P:Params):List DictEntry:=by
 refine(?f:(l:List DictEntry)->l=cP P 48->List DictEntry) ?l ?h
 case f=>exact λl _=>l
 case h=>unfold cP lD ő;dsimp only[Ň,Ņ];exact rfl
def b4(P:Params):List DictEntry:=by
 refine(?f:(l:List DictEntry)->l=cP P 64->List DictEntry) ?l ?h
 case f=>exact λl _=>l
 case h=>unfold cP lD ő;dsimp only[Ň,Ņ];exact rfl
def b5(P:Params):List DictEntry:=by
 refine(?f:(l:List DictEntry)->l=cP P 80->List DictEntry) ?l ?h
 case f=>exact λl _=>l
 case h=>unfold cP lD ő;dsimp only[Ň,Ņ];exact rfl
def b6(P:Params):List DictEntry:=by
 refine(?f:(l:List DictEntry)->l=cP P 96->List DictEntry) ?l ?h
 case f=>exact λl _=>l
 case h=>unfold cP lD ő;dsimp only[Ň,Ņ];exact rfl
def b7(P:Params):List DictEntry:=by
 refine(?f:(l:List DictEntry)->l=cP P 112->List DictEntry) ?l ?h
 case f=>exact λl _=>l
 case h=>unfold cP lD ő;dsimp only[Ň,Ņ];exact rfl
def b8(P:Params):List DictEntry:=by
 refine(?f:(l:List DictEntry)->l=cP P 128->List DictEntry) ?l ?h
 case f=>exact λl _=>l
 case h=>unfold cP lD ő;dsimp only[Ň,Ņ];exact rfl
def b9(P:Params):List DictEntry:=by
 refine(?f:(l:List DictEntry)->l=cP P 144->List DictEntry) ?l ?h
 case f=>exact λl _=>l
 case h=>unfold cP lD ő;dsimp only[Ň,Ņ];exact rfl
def bo0(P:Params):Obj:={ cls:=.type "dict",data:=.dict ⟨b0 P++(b1 P++(b2 P++(b3 P++(b4 P++(b5 P++(b6 P++(b7 P++(b8 P++(b9 P)))))))))⟩ 159 }
def FQ:ő=bo0:=by funext P;kernel_rfl
def Ac(P:Params):Heap:={ objs:=⟨[bo0 P,boot_o_1 P,boot_o_2 P,boot_o_3 P,boot_o_4 P,boot_o_5 P,boot_o_6 P,boot_o_7 P,boot_o_8 P,boot_o_9 P,boot_o_10 P]⟩ }
def qR:Ĭ=Ac:=by
 funext P
 show Heap.mk ⟨ő P::_⟩ _=_
 rw[FQ]
 rfl
def qQ(P:Params):BT:=((((((((((BT.nil.ins 0 (bo0 P)).ins 1 (boot_o_1 P)).ins 2 (boot_o_2 P)).ins 3 (boot_o_3 P)).ins 4 (boot_o_4 P)).ins 5 (boot_o_5 P)).ins 6 (boot_o_6 P)).ins 7 (boot_o_7 P)).ins 8 (boot_o_8 P)).ins 9 (boot_o_9 P)).ins 10 (boot_o_10 P)
def CK:Life:={}
def v9(P:Params):absHeap (qQ P) 11 CK=Ĭ P:=by rw[qR];kernel_rfl
def rB(w:World)(os:OsState):SharedT:=⟨qQ w.params,11,CK,#[],boot_drawn,boot_toks,os⟩
def uO(w:World)(os:OsState):(rB w os).abs=⟨Ĭ w.params,#[],boot_drawn,boot_toks,os⟩:=by
 unfold rB SharedT.abs
 dsimp only
 rw[v9]
def tL(P:Params):=((Ĭ P).isNs mainGlobals,(Ĭ P).objs.size,(Ĭ P).nsMap mainGlobals "__annotations__")
def rD:tL=tL:=rfl
end Nf
name_quick sizeQ for Nf.tL by Nf.rD
namespace Nf
open PySem PySem.W PyProof.Rows
def wg(w:World):((Ĭ w.params).isNs mainGlobals,(Ĭ w.params).objs.size,(Ĭ w.params).nsMap mainGlobals "__annotations__")=(true,11,some (.ref 6)):=by
 show tL w.params=_
 rw[W.Fast.sizeQ_eq]
 kernel_rfl
def uR(p:Program)(N:Nat)(w:World)(os:OsState):=jz treeTable p w 11 (some (.ref 6)) N (rB w os) (topStub p)
def wV(p q:Program)(Xt:Shared->Bool)(w:World)(s:Shared) :=
 (staticsOk (importedModules p.main.body) (Ac w.params) s.heap&&namesBound p s.heap&&gensDone s&&laidKept (Ac w.params) s.heap,openSeen q [] (importedModules p.main.body) Xt true s)
def Bv{p q:Program}{Xt:Shared->Bool}{β:Type}{Yf:Shared->List β}{Ya:World->List β}{N:Nat}(k:Nat)(open_:∀w:World,(fencedOpening treeTable p w N).map (λs=>(s.heap,s.gens,s.drawn,s.toks))=some (Ĭ w.params,Array.mk [],boot_drawn,boot_toks))(look:∀(w:World) (os:OsState),(uR p N w os).map (λs=>wV p q Xt w s.abs)=some (true,openGood q []))(front:∀(w:World) (os:OsState),(uR p N w os).map (λs=>(Yf s.abs).take k)=some ((Ya w).take k))(back:∀(w:World) (os:OsState),(uR p N w os).map (λs=>(Yf s.abs).drop k)=some ((Ya w).drop k)):LeftO p q [] Xt Yf Ya N:=λw=>by
 obtain⟨⟨h,gs,d,j,os⟩,e,e'⟩:=ż.mp (open_ w)
 obtain⟨rfl,rfl,rfl,rfl⟩:h=Ĭ w.params/\gs=#[]/\d=boot_drawn/\j=boot_toks:=by simpa using e'
 obtain⟨z1,z2,z3⟩:_/\_/\_:=by simpa only[Prod.mk.injEq] using wg w
 obtain⟨s,hs,l⟩:=ż.mp (look w os)
 have l4:(Yf s.abs).take k=(Ya w).take k:=by
  have:=front w os
  rw[hs] at this
  exact Ì this
 have l5:(Yf s.abs).drop k=(Ya w).drop k:=by
  have:=back w os
  rw[hs] at this
  exact Ì this
 have l3:Yf s.abs=Ya w:=by rw[←List.take_append_drop k (Yf s.abs),l4,l5,List.take_append_drop]
 unfold wV at l
 rw[←qR] at l
 obtain⟨l1,l2⟩:=Prod.mk.inj l
 have r:=mG hs
 rw[uO] at r
 have t:topFrom treeTable p w N ⟨Ĭ w.params,#[],boot_drawn,boot_toks,os⟩=some s.abs:=by
  unfold topFrom
  dsimp only
  rw[z1,z2,z3,r]
  show(match staticsOk (importedModules p.main.body) (Ĭ w.params) s.abs.heap&&namesBound p s.abs.heap&&gensDone s.abs&&laidKept (Ĭ w.params) s.abs.heap with|true=>_|false=>_)=_
  rw[l1]
 unfold openEnds
 rw[e]
 show(topFrom treeTable p w N _).map _=_
 rw[t]
 exact congrArg some (Prod.ext l2 l3)
end Nf
namespace Nf
open PySem L2 PyProof.Rows Dl
def top(i:Nat):Stmt:=PySem.Challenge.pw_nofall_k63_webs_as_texts.main.body.getD i (.Pass ⟨0,0,0,0⟩)
structure Proper(n:Int)(l:List Int):Prop where
 one:1<=l.length
 few:(l.length:Int)<n
 rng:∀x∈l,0<=x/\x<n
 rise:l.Pairwise (·<·)
 n16:n<=16
def lv(l:List Int)(t:Tie):Bool:=decide (t.1∈l) != decide (t.2∈l)
def BW(d:D):cI d=.im d\/cI d=.sh d:=by
 unfold cI
 by_cases h:eG d=true
 ·rw[if_pos h];exact .inl rfl
 ·rw[if_neg h];exact .inr rfl
section
variable {P:Program}{w:World}{K:Í}{mg:Str->Option Value}{base:Heap}{f:Addr}{fd:FuncData}
def sc4:FnScope ["thing"] ["thing"] (aq (top 7)):=zC
def yq(F:Fun K "is_whole" "is_whole" (top 7) f fd)(B:ň mg):FnOk P w K mg base CX0 1 f fd ["thing"] (spD sG):=by
 refine F.ok sc4 Į (λcdv A outer s H vs Q E hr h=>?_)
 refine⟨_,gq (iV (kj (cL uh B.isinstance (dv 0) (nR (v:=.ty "int") rfl B.int boot_int rfl)) (cH (DY (cL eE B.isinstance (dv 0) (nR (v:=.ty "bool") rfl B.bool boot_bool rfl)))))),sH h ?_⟩
 rintro ds P ⟨d,rfl,q⟩
 unfold zV tD tIs
 refine wH (d:=d) rfl λk=>?_
 cases d <;> exact⟨rfl,q⟩
def sc5:FnScope ["limit","thing"] ["limit","thing"] (aq (top 8)):=zC
def yt(F:Fun K "is_below" "is_below" (top 8) f fd)(W:Ď P w K mg base 1 "is_whole" ["thing"] (spD sG)):FnOk P w K mg base CX0 2 f fd ["limit","thing"] (spD zE):=by
 refine F.ok sc5 Į (λcdv A outer s H vs Q E hr h=>?_)
 refine⟨_,gq (iV (kj (dc W hr (bR (dv 1) cD)) (cH (Bf j7 (dv 1) (dv 0))))),sH h ?_⟩
 rintro ds P ⟨m,d,rfl,q⟩
 unfold zV tD tFn dH
 refine wH (d:=d) rfl λk=>⟨d,rfl,?_⟩
 cases d with
 |int i =>
  have e:P (.bool (decide (0<=i/\i<m))):=q
  by_cases h0:(0:Int)<=i
  ·show if decide ((0:Int)<=i)=true then _ else _
   rw[decide_eq_true h0]
   refine aU (B:=True) ⟨rfl,?_⟩
   have e2:decide (0<=i/\i<m)=decide (i<m):=by simp[h0]
   rw[e2] at e
   exact e
  ·show if decide ((0:Int)<=i)=true then _ else _
   rw[decide_eq_false h0]
   refine aC (A:=True) ⟨rfl,?_⟩
   have e2:decide (0<=i/\i<m)=false:=by simp[h0]
   rw[e2] at e
   exact e
 |_=>exact⟨rfl,q⟩
end
end Nf
set_option maxHeartbeats 4000000
namespace Nf
open PySem L2 PyProof.Rows Dl
def PSs.wk{X:Cx}{ss:List Stmt}{t t':TS}(h:PSs X ss t)(w:∀D σ H,t' D σ H->t D σ H):PSs X ss t':=λpins s σ H D I q=>h pins s σ H D I (w D σ H q)
def bf(c:Addr)(a r:Int):List (Key×V):=[(.inr "script",.ref c),(.inr "at",.int a),(.inr "left",.int r)]
def GX(p sc:Addr)(ns:List Int)(b:Bool):Pn where
 fp:=λa=>a=p\/(b=true/\a=sc)
 PI:=λH=>(∃x y:Int,H p=some (.dK (bf sc x y)))/\(b=true->Rd H sc (.lst (ns.map Ŭ)))
 pv:=.ref p
 mono:=λH H' ⟨⟨x,y,h⟩,r⟩ k=>⟨⟨x,y,k _ _ (.inl (.inl rfl)) h⟩,λe=>(r e).elim (λz=>.inl (k _ _ (.inl (.inr ⟨e,rfl⟩)) z)) λ⟨o,z⟩=>.inr ⟨o,k _ _ (.inl (.inr ⟨e,rfl⟩)) z⟩⟩
 is:=λH a ⟨⟨x,y,h⟩,r⟩ hb=>by
  rcases hb with rfl|⟨e,rfl⟩
  ·exact⟨_,h,(λxs z=>(nomatch z)),λ⟨_,_,z⟩=>(nomatch z)⟩
  ·rcases r e with z|⟨o,z⟩
   ·exact⟨_,z,(λxs z=>(nomatch z)),λ⟨_,_,z⟩=>(nomatch z)⟩
   ·exact⟨_,z,(λxs z=>(nomatch z)),λ⟨_,_,z⟩=>(nomatch z)⟩
def CP(K:Í)(q:Pn):Prop:=∃p sc ns b,(b=true->p≠sc)/\(b=false->∀H,SqL K H sc (ns.map Ŭ))/\q=GX p sc ns b
def Dw{K:Í}{H:Hp}{sc:Addr}{ns:List Int}{b:Bool}(r:b=true->Rd H sc (.lst (ns.map Ŭ)))(hb:b=false->∀H,SqL K H sc (ns.map Ŭ)):SqL K H sc (ns.map Ŭ):=by
 cases b with
 |true=>exact .inl (r rfl)
 |false=>exact hb rfl H
def xg{H:Hp}{sc p:Addr}{u o:HO}(h:Rd H sc u)(n:p≠sc):Rd (upd H p o) sc u:=by
 rcases h with z|⟨o',z⟩
 ·exact .inl (by rw[aj (è n)];exact z)
 ·exact .inr ⟨o',by rw[aj (è n)];exact z⟩
def wD(c:Addr)(a r:Int):dJ (bf c a r) (.inr "script")=some (.ref c):=by
 unfold bf dJ
 simp
def Ge(c:Addr)(a r:Int):dJ (bf c a r) (.inr "at")=some (.int a):=by
 unfold bf dJ
 have h1:¬((ê ("script":Str):Key)=ê ("at":Str)):=by intro z;injection z with z;exact absurd z (by decide +kernel)
 simp[ħ,h1]
def v_left(c:Addr)(a r:Int):dJ (bf c a r) (.inr "left")=some (.int r):=by
 unfold bf dJ
 have h1:¬((ê ("script":Str):Key)=ê ("left":Str)):=by intro z;injection z with z;exact absurd z (by decide +kernel)
 have h2:¬((ê ("at":Str):Key)=ê ("left":Str)):=by intro z;injection z with z;exact absurd z (by decide +kernel)
 simp[ħ,h1,h2]
def Jb(c:Addr)(a r b:Int):putK (bf c a r) (.inr "at") (.int b)=bf c b r:=by
 unfold putK
 rw[if_pos (by rw[gC,Ge];rfl)]
 unfold bf
 have h1:¬((ê ("script":Str):Key)=ê ("at":Str)):=by intro z;injection z with z;exact absurd z (by decide +kernel)
 have h2:¬((ê ("left":Str):Key)=ê ("at":Str)):=by intro z;injection z with z;exact absurd z (by decide +kernel)
 simp[h1,h2]
def Eb(c:Addr)(a r b:Int):putK (bf c a r) (.inr "left") (.int b)=bf c a b:=by
 unfold putK
 rw[if_pos (by rw[gC,v_left];rfl)]
 unfold bf
 have h1:¬((ê ("script":Str):Key)=ê ("left":Str)):=by intro z;injection z with z;exact absurd z (by decide +kernel)
 have h2:¬((ê ("at":Str):Key)=ê ("left":Str)):=by intro z;injection z with z;exact absurd z (by decide +kernel)
 simp[h1,h2]
def uw(ds:List D)(P:D->Prop):Prop:=∃m:Int,ds=[.int m]/\0<m/\m<1073741824/\∀r:Int,0<=r->r<m->P (.int r)
def jL{C:Pn->Prop}{f:List D->(D->Prop)->Prop}{n:Nat}(hn:∀ds P,f ds P->ds.length=n:=by intro _ _ h;repeat (first|(obtain⟨rfl,_⟩:=h;rfl)|obtain⟨_,h⟩:=h)):∀vs H Q E,spP C f vs H Q E->vs.length=n+1:=λvs H Q E h=>by
 obtain⟨p,vs',ds,P,_,rfl,_,r,t,_⟩:=h
 rw[Ó,r.length,hn ds P t]
def Ep{x m:Int}(hm:0<m)(hb:m<=2 ^ 32):-(2 ^ 64)<x % m/\x % m<2 ^ 64:=by
 have h1:=ŭ x (b:=m) (by omega)
 have h2:=Ŗ x hm
 omega
def BP{i:Int}{ns:List Int}(h:(0:Int)<((ns.map Ŭ).length:Nat)):∃v:Int,atI (ns.map Ŭ) (i % (((ns.map Ŭ).length:Nat):Int))=some (.int v):=by
 rw[Ã] at h ⊢
 have h1:=ŭ i (b:=(ns.length:Int)) (by omega)
 have h2:=Ŗ i h
 have hk:(i % (ns.length:Int)).toNat<ns.length:=by omega
 have ek:i % (ns.length:Int)=(((i % (ns.length:Int)).toNat:Nat):Int):=by omega
 have q:atI (ns.map Ŭ) (((i % (ns.length:Int)).toNat:Nat):Int)=some (.int ns[(i % (ns.length:Int)).toNat]):=fO (by rw[Ú,Ý hk];rfl)
 rw[←ek] at q
 exact⟨_,q⟩
def iw{H:Hp}{p c:Addr}{a r:Int}(h:H p=some (.dK (bf c a r))):lU H p (.str "script") (some (.ref c)):=by
 have q:=lU.k (k:=ê ("script":Str)) h
 rw[wD] at q
 exact q
def Jk{H:Hp}{p c:Addr}{a r:Int}(h:H p=some (.dK (bf c a r))):lU H p (.str "at") (some (.int a)):=by
 have q:=lU.k (k:=ê ("at":Str)) h
 rw[Ge] at q
 exact q
def sy{H:Hp}{p c:Addr}{a r:Int}(h:H p=some (.dK (bf c a r))):lU H p (.str "left") (some (.int r)):=by
 have q:=lU.k (k:=ê ("left":Str)) h
 rw[v_left] at q
 exact q
def Ii{H:Hp}{p c:Addr}{a r:Int}(b:Int)(h:H p=some (.dK (bf c a r))):qX H p (.str "at") (.int b) (upd H p (.dK (bf c b r))):=by
 have q:=qX.k (k:=ê ("at":Str)) (v:=.int b) h (by show 3<sizeLine;rw[ä];decide)
 rw[Jb] at q
 exact q
def wF{H:Hp}{p c:Addr}{a r:Int}(b:Int)(h:H p=some (.dK (bf c a r))):qX H p (.str "left") (.int b) (upd H p (.dK (bf c a b))):=by
 have q:=qX.k (k:=ê ("left":Str)) (v:=.int b) h (by show 3<sizeLine;rw[ä];decide)
 rw[Eb] at q
 exact q
def Hx{k:Nat}{A:Around}(hr:Room k A):A.units+1<cLine:=by have:=hr.units;omega
def vd(c:Addr):gb [] [(ê ("script":Str),V.ref c),(ê ("at":Str),Ŭ 0),(ê ("left":Str),Ŭ 0)]=bf c 0 0:=by
 have h1:¬((ê ("script":Str):Key)=ê ("at":Str)):=by intro z;injection z with z;exact absurd z (by decide +kernel)
 have h2:¬((ê ("script":Str):Key)=ê ("left":Str)):=by intro z;injection z with z;exact absurd z (by decide +kernel)
 have h3:¬((ê ("at":Str):Key)=ê ("left":Str)):=by intro z;injection z with z;exact absurd z (by decide +kernel)
 simp[gb,putK,bf,h1,h2,h3]
def rC:Sp:=λvs H Q _=>∃sc,vs=[.ref sc]/\∀p H',H p=none->Same H H'->H' p=some (.dK (bf sc 0 0))->Q (.ref p) H'
def Fy{K:Í}{T:DS}{N:List Str}{H:Hp}{Q:VK}{sc:Addr}{ns:List Int}(hS:SqL K H sc (ns.map Ŭ))(q:∀H',Q (.bl true) H')(hN:2<=N.length)(body:T { nx:=λ_=>False,rt:=λd=>d=.bool true } (.any::.pen (CP K)::È (N.length - 2) .any)) :
  Gi (Df (pY rC [] E0 (wM (lV 0) Gp)) (qJ 1)) (g8 T) { nx:=λ_ H'=>Q .non H',rt:=Q } (L2.start N [.ref sc]) H:=by
 refine⟨_,rfl,sc,rfl,λp H1 hp sm hp1=>?_⟩
 show g8 T _ ((L2.start N [.ref sc]).set 1 (some (.ref p))) _
 have main:∀b,(b=true->p≠sc)->(b=false->∀H,SqL K H sc (ns.map Ŭ))->(b=true->Rd H1 sc (.lst (ns.map Ŭ)))->g8 T { nx:=λ_ H'=>Q .non H',rt:=Q } ((L2.start N [.ref sc]).set 1 (some (.ref p))) H1:=by
  intro b h1 h2 h3
  refine⟨GX p sc ns b,H1,λ_=>none,_,_,?_,body,⟨λ_ _ _ _ _ _ n=>n.elim,λd v H' n w=>?_,λ_ _ _ _ _ _ n=>n.elim,λ_ _ _ _ _ _ n=>n.elim⟩⟩
  ·have hl:(L2.start N [.ref sc]).length=N.length:=by unfold L2.start;simp;omega
   refine⟨λb o e _=>e,⟨⟨0,0,hp1⟩,h3⟩,λa r e=>(nomatch e),λj s e=>?_,by rw[List.length_set,hl,Ó,Ó,Š];omega,trivial⟩
   rcases j with _|_|j
   ·cases e;trivial
   ·cases e
    exact⟨ö (by rw[hl];omega),p,sc,ns,b,h1,h2,rfl⟩
   ·rw[Ę,Ę] at e
    have e2:=(List.mem_replicate.mp (Ù e)).2
    subst e2
    trivial
  ·have n:d=.bool true:=n
   subst n
   have r:=w.rp
   cases r
   exact q H'
 rcases hS with h|h
 ·have hn:p≠sc:=by
   rintro rfl
   rcases h with z|⟨o,z⟩ <;> rw[hp] at z <;> cases z
  exact main true (λ_=>hn) (λz=>nomatch z) λ_=>h.elim (λz=>.inl (sm _ _ z)) λ⟨o,z⟩=>.inr ⟨o,sm _ _ z⟩
 ·exact main false (λz=>nomatch z) (λ_ H=>.inr h) λz=>nomatch z
def tDr(K:Í)(p sc:Addr)(ns:List Int):TS:=λD σ H=>∃(a2 a5:Option V) (m i cell a r:Int),σ=[some (.ref p),some (.int m),a2,some (.int i),some (.int cell),a5]/\0<m/\m<1073741824/\H p=some (.dK (bf sc a r))/\SqL K H sc (ns.map Ŭ)/\∀r',0<=r'->r'<m->D.rt (.int r') H/\∀b,D.rt (.int r') (upd H p (.dK (bf sc a b)))
structure IsOrd(n:Int)(l:List Int):Prop where
 len:(l.length:Int)=n
 rng:∀x∈l,0<=x/\x<n
 nd:l.Nodup
def zu(ds:List D)(P:D->Prop):Prop:=∃n:Int,ds=[.int n]/\0<=n/\n<=64/\∀l,IsOrd n l->P (.list (l.map Þ))
def IsOrd.ins{k:Nat}{l:List Int}(h:IsOrd k l)(j:Nat):IsOrd ((k+1:Nat):Int) (l.take j++((k:Nat):Int)::l.drop j):=by
 have p:(l.take j++((k:Nat):Int)::l.drop j).Perm (((k:Nat):Int)::l):=by
  refine List.perm_middle.trans ?_
  rw[List.take_append_drop]
 refine⟨?_,λx hx=>?_,?_⟩
 ·rw[p.length_eq,Ó]
  have:=h.len
  omega
 ·rcases Ï.mp (p.mem_iff.mp hx) with z|z
  ·omega
  ·have:=h.rng x z
   omega
 ·refine p.symm.nodup ?_
  refine œ.mpr ⟨λz=>?_,h.nd⟩
  have:=h.rng _ z
  omega
section
variable {P:Program}{w:World}{K:Í}{mg:Str->Option Value}{base:Heap}{f:Addr}{fd:FuncData}
def Di:FnScope ["_law_script"] ["_law_script"] (aq (top 28)):=zC
def Ek(F:Fun K "_law_pen" "_law_pen" (top 28) f fd):FnOk P w K mg base CX0 1 f fd ["_law_script"] rC:=by
 refine F.ok Di (λvs H Q E h=>?_) (λcdv A outer s H vs Q E hr h=>?_)
 ·obtain⟨sc,rfl,_⟩:=h
  rfl
 obtain⟨sc,rfl,q⟩:=h
 refine⟨_,fG (jX (Bb (jY Ŵ (pv 0) (jY Ŵ Ŝ (jY Ŵ Ŝ Av))) rfl rfl (by intro z;cases z) (by show 3<=15;decide))),?_⟩
 intro p hp
 refine⟨_,rfl,ao,[(ê ("script":Str),.ref sc),(ê ("at":Str),.int 0),(ê ("left":Str),.int 0)],rfl,(by show 3<=15;decide),?_⟩
 rw[vd]
 exact q p _ hp (λb o e=>by rw[aj (ak e hp),aj (ak e hp)];exact e) ao
def tM:FnScope ["_law_pen_here","_law_many","_law_digit","_law_at","_law_cell","_law_number"] ["_law_pen_here","_law_many"] (aq (top 29)):=zC
def Bk(F:Fun K "_law_draw" "_law_draw" (top 29) f fd)(B:ň mg):FnOk P w K mg base CX0 1 f fd ["_law_pen_here","_law_many"] (spP (CP K) uw):=by
 refine F.ok tM jL (λcdv A outer s H vs Q E hr h=>?_)
 obtain⟨_,vs',ds,P,⟨p,sc,ns,b,hps,hbK,rfl⟩,rfl,⟨⟨a,r,hp⟩,hsc⟩,rp,⟨m,rfl,m0,m30,hP⟩,q0⟩:=h
 obtain rfl:vs'=[.int m]:=by
  cases rp with
  |cons h1 t=>cases h1;cases t;rfl
 have nd:=tM.nd
 have hu:=Hx hr
 refine⟨_,ś (tU (gM yj (cC hu (pv 0) Ŵ (λ_ _=>rfl)) Ŝ (cg _))
   (ś (cR (i:=2) nd rfl (Ş rfl) (bw dX (cC hu (pv 0) Ŵ (λ_ _=>rfl)) (pv 1)))
   (ś (nQ hu (pv 0) Ŵ (bw oN (cC hu (pv 0) Ŵ (λ_ _=>rfl)) (pv 1)) rfl)
   (fG (jX (pv 2))))) jB)
  (ś (cR (i:=3) nd rfl (Ş rfl) (cC hu (pv 0) Ŵ (λ_ _=>rfl)))
  (ś (nQ hu (pv 0) Ŵ (bw dY (pv 3) Ŝ) rfl)
  (ś (cR (i:=4) nd rfl (Ş rfl) (bw dY (bw iK Ŝ (pv 3)) Ŝ))
  (ś (tU (gM (Ei hr.units) (cC hu (pv 0) Ŵ (λ_ _=>rfl)) (xQ bZ) (cg _))
   (fG (cR (i:=4) nd rfl (Ş rfl) (xR o7 (cC hu (pv 0) Ŵ (λ_ _=>rfl)) (bw dX (pv 3) (bQ dB rfl B.len PySem.boot_len (aX (cC hu (pv 0) Ŵ (λ_ _=>rfl)) bZ))) (λ_ _=>rfl)))) jB)
  (PSs.wk (t':=tDr K p sc ns) (ś (tU (PW.pt (Dp (gM Ck (pv 3) (bQ dB rfl B.len PySem.boot_len (aX (cC hu (pv 0) Ŵ (λ_ _=>rfl)) bZ)) (cg _)) (Aq (gM G7 (bQ lQ rfl B.abs Dl.boot_abs (aX (pv 4) bZ)) (bw Eh Ŝ Ŝ) (cg _)))))
   (ś (nQ hu (pv 0) Ŵ (bw oN (bQ lQ rfl B.abs Dl.boot_abs (aX (pv 4) bZ)) (pv 1)) rfl)
   (fG (jX (bw dX (bQ lQ rfl B.abs Dl.boot_abs (aX (pv 4) bZ)) (pv 1))))) jB)
  (ś (cR (i:=5) nd rfl (Ş rfl) (bw dX (bw iK (bw dY (bw dY (bw dX (pv 4) Ŝ) (bw iK Ŝ (pv 3))) Ŝ) Ŝ) Ŝ))
  (ś (cR (i:=5) nd rfl (Ş rfl) (bw dX (bw dY (bw dY (bw iK (pv 5) (pv 5)) (bw iK Ŝ (pv 3))) Ŝ) Ŝ))
  (fG (jX (bw dX (bw oN (pv 5) Ŝ) (pv 1))))))) ?dr))))),?_⟩
 case dr =>
  rintro D σ H' ⟨a2,a5,m,i,cell,a,r,rfl,m0,m30,hp,hS,hq⟩
  have md:∀x:Int,0<=x % m/\x % m<m:=λx=>⟨ŭ _ (by omega),Ŗ _ m0⟩
  refine⟨_,rfl,_,rfl,p,_,rfl,iw hp,sc,_,rfl,.inl hS,_,_,rfl,rfl,_,rfl,Fd (λc1=>⟨_,rfl,cell,rfl,_,_,rfl,rfl,⟨by decide,by decide,by decide⟩,_,_,rfl,rfl,_,rfl,Fd (λc2=>?_) (λc2=>?_)⟩) (λc1=>aC ?_)⟩
  ·exact⟨_,rfl,cell,rfl,_,rfl,_,_,rfl,rfl,⟨m0,m30⟩,_,rfl,p,_,rfl,wF _ hp,_,rfl,cell,rfl,_,rfl,_,_,rfl,rfl,m0,(hq _ (md _).1 (md _).2).2 _⟩
  all_goals
   refine⟨_,rfl,_,_,rfl,rfl,(by show(0:Int)<2147483629;decide),_,rfl,_,_,rfl,rfl,.inl ⟨by decide,by decide⟩,_,_,rfl,rfl,_,_,rfl,rfl,_,_,rfl,rfl,.inr ⟨by decide,by decide⟩,_,_,rfl,rfl,(by show(0:Int)<2147483647;decide),?_⟩
   refine⟨_,rfl,_,rfl,_,_,rfl,rfl,.inl (Ep (by decide) (by decide)),_,rfl,_,_,rfl,rfl,.inl ⟨by decide,by decide⟩,_,_,rfl,rfl,_,_,rfl,rfl,_,_,rfl,rfl,(by show(0:Int)<2147483587;decide),?_⟩
   exact⟨_,rfl,_,_,rfl,rfl,⟨by decide,by decide⟩,_,rfl,_,_,rfl,rfl,m0,(hq _ (md _).1 (md _).2).1⟩
 have md:∀x:Int,0<=x % m/\x % m<m:=λx=>⟨ŭ _ (by omega),Ŗ _ m0⟩
 have fin:∀(H':Hp) (r:Int),0<=r->r<m->(∀b o,H b=some o->b≠p->H' b=some o)->(∃a l,H' p=some (.dK (bf sc a l)))->Q (.int r) H':=λH' r h1 h2 k ⟨a',l',e⟩ =>
  q0 _ _ _ (hP r h1 h2) (λb o e n=>k b o e λz=>n (.inl z)) ⟨⟨a',l',e⟩,λeb=>by
   rcases hsc eb with z|⟨o,z⟩
   ·exact .inl (k _ _ z (è (hps eb)))
   ·exact .inr ⟨o,k _ _ z (è (hps eb))⟩⟩ (.int r)
 have kU:∀(H1:Hp) (o:HO),(∀b o,H b=some o->b≠p->H1 b=some o)->∀b u,H b=some u->b≠p->upd H1 p o b=some u:=λH1 o k b u e n=>by rw[aj n];exact k b u e n
 refine⟨_,rfl,p,_,rfl,sy hp,_,_,rfl,rfl,_,rfl,Fd (λc1=>?_) (λc1=>?_)⟩
 ·exact⟨_,rfl,p,_,rfl,sy hp,_,rfl,_,_,rfl,rfl,m0,_,rfl,p,_,rfl,sy hp,_,rfl,_,_,rfl,rfl,⟨m0,m30⟩,_,rfl,p,_,rfl,wF _ hp,_,rfl,fin _ _ (md _).1 (md _).2 (kU _ _ λb o e _=>e) ⟨_,_,ao⟩⟩
 ·have hp1:upd H p (.dK (bf sc (a+1) r)) p=some (.dK (bf sc (a+1) r)):=ao
  have k1:=kU H (.dK (bf sc (a+1) r)) λb o e _=>e
  have r1:b=true->Rd (upd H p (.dK (bf sc (a+1) r))) sc (.lst (ns.map Ŭ)):=λe=>xg (hsc e) (hps e)
  refine⟨_,rfl,p,_,rfl,Jk hp,_,rfl,_,_,rfl,rfl,_,rfl,p,_,rfl,Ii _ hp,?_⟩
  refine⟨_,rfl,_,_,rfl,rfl,.inl ⟨by decide,by decide⟩,_,_,rfl,rfl,?_⟩
  refine⟨_,rfl,p,_,rfl,iw hp1,by decide,λz hz=>?_⟩
  have zp:p≠z:=λe=>by subst e;rw[hp1] at hz;cases hz
  have k2:∀b o,H b=some o->b≠p->upd (upd H p (.dK (bf sc (a+1) r))) z (.lst []) b=some o:=λb o e n=>by
   have e1:=k1 b o e n
   have bz:b≠z:=λy=>by subst y;rw[e1] at hz;cases hz
   rw[aj bz]
   exact e1
  have hp2:upd (upd H p (.dK (bf sc (a+1) r))) z (.lst []) p=some (.dK (bf sc (a+1) r)):=by rw[aj zp];exact hp1
  have r2:b=true->Rd (upd (upd H p (.dK (bf sc (a+1) r))) z (.lst [])) sc (.lst (ns.map Ŭ)):=λe=>xg (r1 e) (λy=>by
   subst y
   rcases r1 e with y|⟨o,y⟩ <;> rw[hz] at y <;> cases y)
  have hS2:SqL K (upd (upd H p (.dK (bf sc (a+1) r))) z (.lst [])) sc (ns.map Ŭ):=Dw r2 hbK
  have dr:∀cell,tDr K p sc ns { nx:=λ_ H'=>Q .non H',rt:=Q } [some (.ref p),some (.int m),none,some (.int a),some (.int cell),none] (upd (upd H p (.dK (bf sc (a+1) r))) z (.lst [])):=λcell =>
   ⟨_,_,m,a,cell,_,_,rfl,m0,m30,hp2,hS2,λr' h1 h2=>⟨fin _ _ h1 h2 k2 ⟨_,_,hp2⟩,λb=>fin _ _ h1 h2 (kU _ _ k2) ⟨_,_,ao⟩⟩⟩
  refine⟨iD ns,iD [],_,.flt hS2,.flt (l:=[]) (SqL.of ao),rfl,_,rfl,?_⟩
  rw[zG]
  by_cases hn:ns=[]
  ·subst hn
   exact aC (dr _)
  ·have c0:(0:Int)<(((ns.map Ŭ).length:Nat):Int):=by
    rw[Ã]
    have:=List.length_pos_iff.mpr hn
    omega
   rw[show(if true=true then !decide (ns=[]) else decide (ns=[]))=true by rw[decide_eq_false hn];rfl]
   obtain⟨v,hv⟩:=BP (i:=a) (ns:=ns) c0
   exact aU ⟨_,rfl,p,_,rfl,iw hp2,_,rfl,_,rfl,p,_,rfl,iw hp2,sc,_,rfl,.inl hS2,_,_,rfl,rfl,c0,sc,_,_,_,rfl,rfl,hS2,hv,dr v⟩
def qb:FnScope ["_law_pen_here","_law_n","_law_found","_law_k"] ["_law_pen_here","_law_n"] (aq (top 30)):=zC
def yr(F:Fun K "_law_order" "_law_order" (top 30) f fd)(B:ň mg)(T:Ď P w K mg base 1 "_law_draw" ["_law_pen_here","_law_many"] (spP (CP K) uw)):FnOk P w K mg base CX0 2 f fd ["_law_pen_here","_law_n"] (spP (CP K) zu):=by
 refine F.ok qb jL (λcdv A outer s H vs Q E hr h=>?_)
 have nd:=qb.nd
 refine⟨_,iz (pH (some 0) (cR (i:=2) nd rfl (Ş rfl) (jE cD)))
  (iz (gw ş rfl (cO B.range (bR (dv 1) cD)) (jO (tW (i:=3) nd rfl (Ş rfl)))
   (gq (vG (i:=2) (nP (tY PySem.F.plainAttrs_list PySem.F.slot_list_insert PySem.F.type_list_insert u6 (pv 2) (bR (dcP T hr (pv 0) (bR (Ea (dv 3) j7) cD)) (bR (dv 3) cD)))))))
  (gq (iV (dv 2)))),enterQ h ?_⟩
 rintro ds P ⟨n,rfl,n0,n16,q⟩
 refine⟨[.im (.int n),.any,.any],rfl,?_⟩
 refine⟨by decide,⟨by omega,by omega⟩,rfl,λ(i:Nat) ρ=>∃(l:List Int) (s:Sl),IsOrd i l/\s.region=none/\ρ=[.pen (CP K),.im (.int n),.dw 0 (.list (l.map Þ)),s],⟨[],.any,⟨rfl,λx hx=>(nomatch hx),.nil⟩,rfl,rfl⟩,?_,?_⟩
 ·rintro i d ρ hd ⟨l,s,hl,hs,rfl⟩
  obtain⟨hi,rfl⟩:=iT hd
  have hlen:=hl.len
  refine⟨rfl,_,rfl,by omega,by omega,λr r0 r1=>⟨rfl,r0,?_,?_,?_⟩⟩
  ·rw[Ã];omega
  ·rw[Ã];omega
  ·refine⟨l.take r.toNat++((i:Nat):Int)::l.drop r.toNat,.im (.int (0+((i:Nat):Int))),hl.ins r.toNat,rfl,?_⟩
   show [Sl.pen (CP K),Sl.im (.int n),Sl.dw 0 (.list ((l.map Þ).take r.toNat++Þ (0+((i:Nat):Int))::(l.map Þ).drop r.toNat)),Sl.im _]=_
   rw[ď,ð,List.map_take,List.map_drop,Int.zero_add]
 ·rintro ρ ⟨l,s,hl,hs,rfl⟩
  rw[mU] at hl
  have e:((n.toNat:Nat):Int)=n:=by omega
  rw[e] at hl
  exact⟨rfl,q l hl⟩
end
def OkT(n:Int)(t:Tie):Prop:=(0<=t.1/\t.1<n)/\(0<=t.2/\t.2<n)/\t.1≠t.2
def OkN(n:Int)(us:List Tie):Prop:=∀t∈us,OkT n t
def mmT(t:Tie):Tie:=(if t.2<t.1 then t.2 else t.1,if t.2 > t.1 then t.2 else t.1)
def zA(ds:List D)(P:D->Prop):Prop:=∃n t,ds=[.int n,pD t]/\OkT n t/\P (.bool true)
def zy(ds:List D)(P:D->Prop):Prop:=∃n us,ds=[.int n,.list (us.map pD)]/\1<=n/\n<=16/\us.length<=40/\OkN n us/\P (.bool true)
def Fv(ds:List D)(P:D->Prop):Prop:=∃n us,ds=[.int n,.list (us.map pD)]/\1<=n/\n<=16/\us.length<=40/\OkN n us/\P .none
def zj(ds:List D)(P:D->Prop):Prop:=∃n us,ds=[.int n,.list (us.map pD)]/\1<=n/\n<=16/\us.length<=40/\OkN n us/\∀vs:List Tie,vs.Perm (us.map mmT)->(vs.Pairwise λa b=>aA a<=aA b)->P (aR n vs)
def zx(ds:List D)(P:D->Prop):Prop:=∃n us,ds=[.int n,.list (us.map pD)]/\1<=n/\n<=16/\us.length<=40/\OkN n us/\∀vs:List Tie,vs.Perm us->(vs.Pairwise λa b=>aA a<=aA b)->P (aR n vs)
section
variable {P:Program}{w:World}{K:Í}{mg:Str->Option Value}{base:Heap}{f:Addr}{fd:FuncData}
def mL:FnScope ["n","thing"] ["n","thing"] (aq (top 9)):=zC
def uY(F:Fun K "is_tie" "is_tie" (top 9) f fd)(B:ň mg)(C_is_below:Ď P w K mg base 2 "is_below" ["limit","thing"] (spD zE)):FnOk P w K mg base CX0 3 f fd ["n","thing"] (spD zA):=by
 refine F.ok mL Į (λcdv A outer s H vs Q E hr h=>?_)
 have nd:=mL.nd
 refine⟨_,ā (Ò (ĝ (Wr.wpt (Ŧ (ĕ (ą (Ġ kit_tuple B.isinstance (É 1) (ŗ rfl B.tuple boot_tuple)))) (Ř (Wr.cT hr.units (Wr.dR B.len (À (É 1) Â)) Ø)))) (à (å ũ)) ô)
  (à (å (ž (Ě C_is_below hr (À (É 0) (À (Ē (É 1) Ø) Â))) (ž (Ě C_is_below hr (À (É 0) (À (Ē (É 1) Ø) Â))) (Wr.cH (Wr.ou hr.units (Ē (É 1) Ø) (Ē (É 1) Ø)))))))),bC h ?_⟩
 rintro ds P ⟨n,t,rfl,ok,q⟩
 refine⟨[.im (.int n),.im (pD t)],rfl,?_⟩
 obtain⟨⟨o1,o2⟩,⟨o3,o4⟩,o5⟩:=ok
 refine aC (A:=True) (aC (A:=True) ?_)
 refine⟨.int t.1,rfl,n,.int t.1,rfl,?_⟩
 show if decide (0<=t.1/\t.1<n)=true then _ else _
 rw[decide_eq_true ⟨o1,o2⟩]
 refine aU (B:=True) ⟨.int t.2,rfl,n,.int t.2,rfl,?_⟩
 show if decide (0<=t.2/\t.2<n)=true then _ else _
 rw[decide_eq_true ⟨o3,o4⟩]
 refine aU (B:=True) ⟨.int t.1,rfl,.int t.2,rfl,rfl,?_⟩
 show P (.bool (!decide (t.1=t.2)))
 rw[decide_eq_false o5]
 exact q
def gG:FnScope ["n","ties"] ["n","ties"] (aq (top 10)):=zC
def kJ:(["tie","n","ties"]:List Str).Nodup:=by decide +kernel
def oO{tk_MOST_PLACES:Tok}{tk_MOST_TIES:Tok}(F:Fun K "makes_web" "makes_web" (top 10) f fd)(B:ň mg)(g_MOST_PLACES:mg "MOST_PLACES"=some (.int 16 tk_MOST_PLACES))(g_MOST_TIES:mg "MOST_TIES"=some (.int 40 tk_MOST_TIES))(C_is_whole:Ď P w K mg base 1 "is_whole" ["thing"] (spD sG))(C_is_tie:Ď P w K mg base 3 "is_tie" ["n","thing"] (spD zA)):FnOk P w K mg base CX0 4 f fd ["n","ties"] (spD zy):=by
 refine F.ok gG Į (λcdv A outer s H vs Q E hr h=>?_)
 have nd:=gG.nd
 refine⟨_,ā (Ò (ĝ (Wr.wpt (Ŧ (ĕ (ą (Ě C_is_whole hr (À (É 0) Â)))) (Ř (ĕ (Wr.fH qm qm Ø (É 0) (Wr.dU rfl g_MOST_PLACES ⟨_,rfl⟩)))))) (à (å ũ)) ô)
  (Ò (ĝ (Wr.wpt (Ŧ (ĕ (ą (Wr.gQ B.isinstance (É 1) (ŗ rfl B.list boot_list) (ŗ rfl B.tuple boot_tuple)))) (Ř (Wr.nZ (Wr.dR B.len (À (É 1) Â)) (Wr.dU rfl g_MOST_TIES ⟨_,rfl⟩))))) (à (å ũ)) ô)
  (à (å (Wr.iJ rfl B.all Dl.boot_all (À (ŕ ["tie"] rfl (ō (É 1)) (λc=>(ï (i:=0) kJ rfl zQ)) (λc=>ī) (λc=>(Ě C_is_tie hr (À (É 1) (À (É 0) Â))))) Â)))))),bC h ?_⟩
 rintro ds P ⟨n,us,rfl,n1,n16,lu,ok,q⟩
 refine⟨[.im (.int n),.sh (.list (us.map pD))],?_,?_⟩
 ·rfl
 refine⟨.int n,rfl,aC (A:=True) ?_⟩
 show if decide ((1:Int)<=n)=true then _ else _
 rw[decide_eq_true n1]
 refine aU (B:=True) ?_
 show if (!decide (n<=16))=true then _ else _
 rw[decide_eq_true n16]
 refine aC (A:=True) (aC (A:=True) ?_)
 show if decide ((40:Int)<(((us.map pD).length:Nat):Int))=true then _ else _
 rw[Ã,decide_eq_false (by omega)]
 refine aC (A:=True) (lA us pD (λ_=>.bool true) .imm rfl (by omega) (λt ht A B hA=>aU (B:=True) ⟨n,t,rfl,ok t ht,rfl,hA⟩) ?_)
 refine⟨us.map λ_=>true,by rw[Č];rfl,rfl,?_⟩
 have e:(us.map λ_=>true).all id=true:=by rw[List.all_map];exact ø.mpr λ_ _=>rfl
 rw[e]
 exact q
def bW:FnScope ["n","ties"] ["n","ties"] (aq (top 11)):=zC
def fZ(F:Fun K "check_makes_web" "check_makes_web" (top 11) f fd)(B:ň mg)(C_makes_web:Ď P w K mg base 4 "makes_web" ["n","ties"] (spD zy)):FnOk P w K mg base CX0 5 f fd ["n","ties"] (spD Fv):=by
 refine F.ok bW Į (λcdv A outer s H vs Q E hr h=>?_)
 have nd:=bW.nd
 refine⟨_,ā (à (ĝ (ĕ (ą (Ě C_makes_web hr (À (É 0) (À (É 1) Â))))) (à Wr.eN) ô)),bC h ?_⟩
 rintro ds P ⟨n,us,rfl,n1,n16,lu,ok,q⟩
 refine⟨[.im (.int n),.sh (.list (us.map pD))],rfl,?_⟩
 exact⟨n,us,rfl,n1,n16,lu,ok,aC (A:=True) q⟩
def mK:FnScope ["n","ties"] ["n","ties"] (aq (top 12)):=zC
def qy:(["tie","n","ties"]:List Str).Nodup:=by decide +kernel
def uX(F:Fun K "web_of" "web_of" (top 12) f fd)(B:ň mg)(C_check_makes_web:Ď P w K mg base 5 "check_makes_web" ["n","ties"] (spD Fv)):FnOk P w K mg base CX0 6 f fd ["n","ties"] (spD zj):=by
 refine F.ok mK Į (λcdv A outer s H vs Q E hr h=>?_)
 have nd:=mK.nd
 refine⟨_,ā (Ò (Wr.jN (Ě C_check_makes_web hr (À (É 0) (À (É 1) Â))))
  (à (å (ĵ (À (É 0) (À (Wr.cU B.tuple (À (Wr.cJ B.sorted (À (ŕ ["tie"] rfl (ō (É 1)) (λc=>(ï (i:=0) qy rfl zQ)) (λc=>ī) (λc=>(ĵ (À (Wr.oA rfl B.min (À (É 0) Â)) (À (Wr.oF rfl B.max (À (É 0) Â)) Â))))) Â)) Â)) Â)))))),bC h ?_⟩
 rintro ds P ⟨n,us,rfl,n1,n16,lu,ok,q⟩
 refine⟨[.im (.int n),.sh (.list (us.map pD))],rfl,?_⟩
 refine⟨n,us,rfl,n1,n16,lu,ok,?_⟩
 refine lA us pD (λt=>pD (mmT t)) .imm rfl (by omega) (λt ht A B hA=>aU (B:=True) ⟨zK,rfl,hA⟩) ?_
 refine⟨us.map mmT,.inl (by rw[Č];rfl),by rw[Ã];omega,λt ht=>?_,λvs hp hs=>⟨zK,?_,q vs hp hs⟩⟩
 ·obtain⟨u,hu,rfl⟩:=ċ.mp ht
  obtain⟨⟨o1,o2⟩,⟨o3,o4⟩,o5⟩:=ok u hu
  unfold mmT jy
  dsimp only
  split <;> omega
 ·show(norm _ (aR n vs)).le .n0=true
  rw[bD (cF _ _)]
  rfl
def fP:FnScope ["n","ties"] ["n","ties"] (aq (top 13)):=zC
def jq:(["tie","n","ties"]:List Str).Nodup:=by decide +kernel
def lX(F:Fun K "one_way_of" "one_way_of" (top 13) f fd)(B:ň mg)(C_check_makes_web:Ď P w K mg base 5 "check_makes_web" ["n","ties"] (spD Fv)):FnOk P w K mg base CX0 6 f fd ["n","ties"] (spD zx):=by
 refine F.ok fP Į (λcdv A outer s H vs Q E hr h=>?_)
 have nd:=fP.nd
 refine⟨_,ā (Ò (Wr.jN (Ě C_check_makes_web hr (À (É 0) (À (É 1) Â))))
  (à (å (ĵ (À (É 0) (À (Wr.cU B.tuple (À (Wr.cJ B.sorted (À (ŕ ["tie"] rfl (ō (É 1)) (λc=>(ï (i:=0) jq rfl zQ)) (λc=>ī) (λc=>(ĵ (À (Ē (É 0) Ø) (À (Ē (É 0) Ø) Â))))) Â)) Â)) Â)))))),bC h ?_⟩
 rintro ds P ⟨n,us,rfl,n1,n16,lu,ok,q⟩
 refine⟨[.im (.int n),.sh (.list (us.map pD))],rfl,?_⟩
 refine⟨n,us,rfl,n1,n16,lu,ok,?_⟩
 refine lA us pD pD .imm rfl (by omega) (λt ht A B hA=>aU (B:=True) ⟨.int t.1,rfl,.int t.2,rfl,zK,rfl,hA⟩) ?_
 refine⟨us,.inl rfl,by omega,λt ht=>?_,λvs hp hs=>⟨zK,?_,q vs hp hs⟩⟩
 ·obtain⟨⟨o1,o2⟩,⟨o3,o4⟩,o5⟩:=ok t ht
  unfold jy
  omega
 ·show(norm _ (aR n vs)).le .n0=true
  rw[bD (cF _ _)]
  rfl
end
abbrev nS(k:Int):Str:=(toString k:Str)
def aO(w:Str)(t:Tie):Str:=(((w++" ")++nS t.1)++" ")++nS t.2
def bM(n:Int):Str:="places "++nS n
def aN(n:Int)(w:Str)(ts:List Tie):Str:=Œ "\n" (bM n::ts.map (aO w))
def pF(x:Str):Ű++x=x:=gF (by rw[bO];rfl)
def HX(k:Nat):Bool:=decide ((nS (k:Int)).length<=2)&&(decide (1<=(nS (k:Int)).length)&&(((nS (k:Int)).cps.toList.all λc=>!(ē ("0123456789":Str) ⟨#[c]⟩ 0 10 1).isEmpty)&&((nS (k:Int) == "0" || (nS (k:Int)).cps.toList.head? != some 48)&&(decide (PySem.intText? (nS (k:Int))=some (k:Int))&&(!(nS (k:Int)).cps.toList.contains 32&&!(nS (k:Int)).cps.toList.contains 10)))))
def Jq:∀k:Nat,k<17->HX k=true:=by decide +kernel
structure Dig(k:Int):Prop where
 l2:(nS k).length<=2
 l1:1<=(nS k).length
 fig:∀c∈(nS k).cps.toList,(!(ē ("0123456789":Str) ⟨#[c]⟩ 0 10 1).isEmpty)=true
 nz:nS k="0"\/(nS k).cps.toList.head?≠some 48
 int:PySem.intText? (nS k)=some k
 s32:32∉(nS k).cps.toList
 s10:10∉(nS k).cps.toList
def dig{k:Int}(h0:0<=k)(h1:k<=16):Dig k:=by
 obtain⟨n,rfl⟩:∃n:Nat,k=(n:Int):=⟨k.toNat,by omega⟩
 have h:=Jq n (by omega)
 unfold HX at h
 simp only[â,decide_eq_true_eq,Bool.or_eq_true,Bool.not_eq_true',ø,bne_iff_ne,beq_iff_eq] at h
 obtain⟨a,b,c,d,e,f,g⟩:=h
 exact⟨a,b,λx hx=>by rw[c x hx];rfl,d,e,λz=>by simp[z] at f,λz=>by simp[z] at g⟩
def vg(w:Str)(t:Tie):aO w t=Œ " " [w,nS t.1,nS t.2]:=by
 rw[fJ,ķ,ķ,join_one]
 unfold aO
 refine gF ?_
 simp only[bO,Ŀ]
def vB(n:Int):bM n=Œ " " ["places",nS n]:=by
 rw[fJ,ķ,join_one]
 unfold bM
 refine gF ?_
 simp only[bO]
 rfl
def qW(ts:List Tie):Prop:=∀t∈ts,(0<=t.1/\t.1<=16)/\0<=t.2/\t.2<=16
def fTL(ds:List D)(P:D->Prop):Prop:=∃(w:Str) (t:Tie),ds=[.str w,pD t]/\w.length<=10/\((0<=t.1/\t.1<=16)/\0<=t.2/\t.2<=16)/\P (.str (aO w t))
def Ft(ds:List D)(P:D->Prop):Prop:=∃(n:Int) (ts:List Tie) (w:Str),ds=[aR n ts,.str w]/\w.length<=10/\0<=n/\n<=16/\ts.length<=40/\qW ts/\P (.str (aN n w ts))
def BL(w:Str)(ds:List D)(P:D->Prop):Prop:=∃(n:Int) (ts:List Tie),ds=[aR n ts]/\0<=n/\n<=16/\ts.length<=40/\qW ts/\P (.str (aN n w ts))
def HS(ds:List D)(P:D->Prop):Prop:=∃k:Int,ds=[.str (nS k),.int 2]/\0<=k/\k<=16/\P (.bool true)
def HJ(ds:List D)(P:D->Prop):Prop:=∃(w:Str) (ks:List Int),ds=[.str (Œ " " (w::ks.map nS)),.str w,.int ((ks.length:Nat):Int)]/\w.length<=10/\32∉w.cps.toList/\ks.length<=2/\(∀k∈ks,0<=k/\k<=16)/\P (.tuple (ks.map Þ))
def zq(ds:List D)(P:D->Prop):Prop:=∃(n:Int) (ts:List Tie) (w:Str),ds=[.str (aN n w ts),.str w]/\w.length<=10/\32∉w.cps.toList/\10∉w.cps.toList/\0<=n/\n<=16/\ts.length<=40/\qW ts/\P (.list (.tuple [.int n]::ts.map pD))
def fRd(wd:Str)(g:Tie->Tie)(ds:List D)(P:D->Prop):Prop:=∃(n:Int) (ts:List Tie),ds=[.str (aN n wd ts)]/\1<=n/\n<=16/\ts.length<=40/\OkN n ts/\∀vs:List Tie,vs.Perm (ts.map g)->(vs.Pairwise λa b=>aA a<=aA b)->P (aR n vs)
def cj{k:Int}(h0:0<=k)(h1:k<=16):(nS k).length<=2:=(dig h0 h1).l2
def gj{k:Int}(h0:0<=k)(h1:k<=16):k.natAbs.log2<1920:=by
 have:=Nat.log2_le_self k.natAbs
 omega
def eF:∀(ys:List Str) {ds:List D},ds=ys.map ì->cB ds=true
 |[],_,rfl=>rfl
 |y::ys,_,rfl=>by
  show(true&&cB (ys.map ì))=true
  rw[eF ys rfl]
  rfl
def wN{ys:List Str}{B:Nat}(h:∀y∈ys,y.length<=B):(ys.map (·.length)).sum<=B * ys.length:=by
 induction ys with
 |nil=>simp
 |cons y ys ih =>
  have:=ih λz hz=>h z (Ð _ hz)
  have:=h y Ô
  rw[ð,List.sum_cons,Ó,Nat.mul_add]
  omega
def lg(sep:Str):∀ys:List Str,(Œ sep ys).length<=(ys.map (·.length)).sum+ys.length * sep.length
 |[]=>by rw[fJ,join_nil];exact Ģ _
 |[y]=>by rw[fJ,join_one,List.map_singleton,List.sum_singleton];omega
 |y::z::r=>by
  have:=lg sep (z::r)
  rw[fJ] at this ⊢
  rw[ķ,ė,ė,ð,List.sum_cons,Ó (as:=z::r),Nat.add_mul]
  omega
def fB{n:Int}{ts:List Tie}{w:Str}(n0:0<=n)(n1:n<=16)(lw:w.length<=10)(rg:qW ts):((bM n::ts.map (aO w)).map (·.length)).sum<=20 * (bM n::ts.map (aO w)).length:=wN λy hy=>by
 rcases Ï.mp hy with rfl|hy
 ·have l1:(nS n).length<=2:=cj n0 n1
  have e1:("places ":Str).length=7:=by decide
  unfold bM
  rw[ė]
  omega
 ·obtain⟨t,ht,rfl⟩:=ċ.mp hy
  obtain⟨⟨a0,a1⟩,b0,b1⟩:=rg t ht
  have l1:(nS t.1).length<=2:=cj a0 a1
  have l2:(nS t.2).length<=2:=cj b0 b1
  have e1:(" ":Str).length=1:=by decide
  unfold aO
  simp only[ė]
  omega
def eO{α:Type}(x:α)(xs:List α):dI (x::xs) (some 1) none=xs:=by
 unfold dI
 have e1:HT.sIx (x::xs).length 0 (some 1)=1:=by
  show(if (1:Int)<0 then ((1:Int)+(((x::xs).length:Nat):Int)).toNat else min (1:Int).toNat (x::xs).length)=1
  rw[if_neg (by decide),Ó]
  show min 1 (xs.length+1)=1
  omega
 have e3:HT.sIx (x::xs).length (x::xs).length none=(x::xs).length:=rfl
 rw[e1,e3,List.drop_one,List.tail_cons,List.take_of_length_le]
 rw[Ó]
 omega
def cW{k:Kd}{d1 d2:D}{ρ:List Sl}{Q:List Sl->Prop}{i j:Nat}(h:∀s5 s6,s5=p8 (norm (norm k d1) d1) d1->s6=p8 (norm (norm k d2) d2) d2->Q ((ρ.set i s5).set j s6)):o9 (gNm i) (o9 (gNm j) yP) k [d1,d2] ρ Q:=h _ _ rfl rfl
section
variable {P:Program}{w:World}{K:Í}{mg:Str->Option Value}{base:Heap}{f:Addr}{fd:FuncData}
def iZ:FnScope ["word","tie","a","b"] ["word","tie"] (aq (top 23)):=zC
def qp(F:Fun K "tie_line" "tie_line" (top 23) f fd)(B:ň mg):FnOk P w K mg base CX0 1 f fd ["word","tie"] (spD fTL):=by
 refine F.ok iZ Į (λcdv A outer s H vs Q E hr h=>?_)
 have nd:=iZ.nd
 refine⟨_,ā (Ò (Ć none (i:=2) nd rfl zQ (Ē (É 1) Ø))
  (Ò (Ć none (i:=3) nd rfl zQ (Ē (É 1) Ø))
  (à (å (Wr.tZ (Wr.pA (ŝ 0) (.str (Wr.pA (ŝ 2) (.str (Wr.pA (ŝ 3) .nil)))))))))),bC h ?_⟩
 rintro ds P ⟨wd,t,rfl,lw,⟨⟨a0,a1⟩,b0,b1⟩,q⟩
 refine⟨[.im (.str wd),.im (pD t),.any,.any],rfl,?_⟩
 refine⟨.int t.1,rfl,.int t.2,rfl,?_⟩
 have l1:(ğ (toString t.1)).length<=2:=cj a0 a1
 have l2:(ğ (toString t.2)).length<=2:=cj b0 b1
 have e1:(" ":Str).length=1:=by decide
 have e0:Ű.length=0:=rfl
 show zV (Dc [.inr 0,.inl " ",.inr 2,.inl " ",.inr 3]) _ [.im (.str wd),.im (pD t),.im (.int t.1),.im (.int t.2)]
 refine .inl ⟨wd,rfl,by omega,by rw[pF];omega,?_⟩
 rw[pF]
 refine⟨by simp only[ė];omega,.inr ⟨t.1,rfl,gj a0 a1,by simp only[ė];omega,by simp only[ė];omega,.inr ⟨t.2,rfl,gj b0 b1,by simp only[ė];omega,rfl,q⟩⟩⟩
def jV:FnScope ["web","word","places"] ["web","word"] (aq (top 24)):=zC
def oW:(["tie","web","word","places"]:List Str).Nodup:=by decide +kernel
def rP(F:Fun K "written" "written" (top 24) f fd)(B:ň mg)(C_tie_line:Ď P w K mg base 1 "tie_line" ["word","tie"] (spD fTL)):FnOk P w K mg base CX0 2 f fd ["web","word"] (spD Ft):=by
 refine F.ok jV Į (λcdv A outer s H vs Q E hr h=>?_)
 have nd:=jV.nd
 refine⟨_,ā (Ò (Ć none (i:=2) nd rfl zQ (Ē (É 0) Ø))
  (à (å (Wr.jF þ (À (ŵ (ń (À (Wr.tZ (.str (Wr.pA (ŝ 2) .nil))) Â)) (ŕ ["tie"] rfl (ō (Ē (É 0) Ø)) (λc=>(ï (i:=0) oW rfl zQ)) (λc=>ī) (λc=>(Ě C_tie_line hr (À (É 2) (À (É 0) Â)))))) Â))))),bC h ?_⟩
 rintro ds P ⟨n,ts,wd,rfl,lw,n0,n1,lt,rg,q⟩
 refine⟨[.im (aR n ts),.im (.str wd),.any],by show [cI (aR _ ts),_,_]=_;rw[pU];rfl,?_⟩
 refine⟨.int n,rfl,?_⟩
 have l1:(ğ (toString n)).length<=2:=cj n0 n1
 have e1:("places ":Str).length=7:=by decide
 have e0:Ű.length=0:=rfl
 have e2:("\n":Str).length=1:=by decide
 refine⟨_,rfl,by simp only[ė];omega,.inr ⟨n,rfl,gj n0 n1,by simp only[ė];omega,zK,.tuple (ts.map pD),rfl,?_⟩⟩
 refine lA ts pD (λt=>.str (aO wd t)) .imm rfl (by omega) (λt ht A B hA=>aU (B:=B) ⟨wd,t,rfl,lw,rg t ht,rfl,hA⟩) ?_
 have eL:ì (Ű++"places "++nS n)::ts.map (λt=>ì (aO wd t))=(bM n::ts.map (aO wd)).map ì:=by
  rw[pF,ð,Č]
  rfl
 refine⟨by show 1+(ts.map _).length<=1000;rw[Ã];omega,.inl ⟨eF (bM n::ts.map (aO wd)) eL,bM n::ts.map (aO wd),congrArg Ĥ eL,?_,rfl,q⟩⟩
 ·have:=fB (n:=n) (ts:=ts) (w:=wd) n0 n1 lw rg
  rw[Ó,Ã] at this ⊢
  rw[e2]
  omega
def jc:FnScope ["web"] ["web"] (aq (top 25)):=zC
def qt(F:Fun K "show_web" "show_web" (top 25) f fd)(B:ň mg)(C_written:Ď P w K mg base 2 "written" ["web","word"] (spD Ft)):FnOk P w K mg base CX0 3 f fd ["web"] (spD (BL "tie")):=by
 refine F.ok jc Į (λcdv A outer s H vs Q E hr h=>?_)
 have nd:=jc.nd
 refine⟨_,ā (à (å (Ě C_written hr (À (É 0) (À þ Â))))),bC h ?_⟩
 rintro ds P ⟨n,ts,rfl,n0,n1,lt,rg,q⟩
 refine⟨[.im (aR n ts)],by show [cI (aR _ ts)]=_;rw[pU],?_⟩
 exact⟨n,ts,"tie",rfl,by decide,n0,n1,lt,rg,rfl,q⟩
def dD:FnScope ["one"] ["one"] (aq (top 26)):=zC
def jm(F:Fun K "show_one_way" "show_one_way" (top 26) f fd)(B:ň mg)(C_written:Ď P w K mg base 2 "written" ["web","word"] (spD Ft)):FnOk P w K mg base CX0 3 f fd ["one"] (spD (BL "lead")):=by
 refine F.ok dD Į (λcdv A outer s H vs Q E hr h=>?_)
 have nd:=dD.nd
 refine⟨_,ā (à (å (Ě C_written hr (À (É 0) (À þ Â))))),bC h ?_⟩
 rintro ds P ⟨n,ts,rfl,n0,n1,lt,rg,q⟩
 refine⟨[.im (aR n ts)],by show [cI (aR _ ts)]=_;rw[pU],?_⟩
 exact⟨n,ts,"lead",rfl,by decide,n0,n1,lt,rg,rfl,q⟩
def fU:FnScope ["word","most"] ["word","most"] (aq (top 17)):=zC
def jr:(["sign","word","most"]:List Str).Nodup:=by decide +kernel
def lZ{tk_FIGURES:Tok}(F:Fun K "is_written" "is_written" (top 17) f fd)(B:ň mg)(g_FIGURES:mg "FIGURES"=some (.str "0123456789" tk_FIGURES)):FnOk P w K mg base CX0 1 f fd ["word","most"] (spD HS):=by
 refine F.ok fU Į (λcdv A outer s H vs Q E hr h=>?_)
 have nd:=fU.nd
 refine⟨_,ā (Ò (ĝ (Wr.wpt (Ŧ (ĕ (Wr.fH qm qm Ø (Wr.oJ B.len (À (É 0) Â)) (É 1))) (Ř (ĕ (ą (Wr.iJ rfl B.all Dl.boot_all (À (ŕ ["sign"] rfl (Wr.pJ (É 0)) (λc=>(ï (i:=0) jr rfl zQ)) (λc=>ī) (λc=>(Wr.rN (É 0) (Wr.j9 rfl g_FIGURES ⟨_,rfl⟩)))) Â))))))) (à (å ũ)) ô)
  (à (å (Wr.xW (Wr.dW hr.units (É 0) þ) (Wr.cH (Wr.ou hr.units (Wr.oK (É 0) Ø) þ)))))),bC h ?_⟩
 rintro ds P ⟨k,rfl,k0,k1,q⟩
 refine⟨[.im (.str (nS k)),.im (.int 2)],rfl,?_⟩
 have dg:=dig k0 k1
 have l1:=dg.l1
 have l2:=dg.l2
 refine⟨by omega,?_⟩
 show if decide ((1:Int)<=(((nS k).length:Nat):Int))=true then _ else _
 rw[decide_eq_true (by omega)]
 refine aU (B:=True) ?_
 show if (!decide ((((nS k).length:Nat):Int)<=2))=true then _ else _
 rw[decide_eq_true (by omega)]
 refine aC (A:=True) ?_
 refine lA (nS k).cps.toList (λc=>ì ⟨#[c]⟩) (λc=>.bool true) .imm rfl (by show(nS k).cps.toList.length<=1000;rw[é];show(nS k).length<=1000;omega) (λc hc A B hA=>aU (B:=B) ?_) ?_
 ·show(norm .imm (.bool (!(ē ("0123456789":Str) ⟨#[c]⟩ 0 10 1).isEmpty))).le .imm=true/\A (.bool (!(ē ("0123456789":Str) ⟨#[c]⟩ 0 10 1).isEmpty))
  rw[dg.fig c hc]
  exact⟨rfl,hA⟩
 refine⟨(nS k).cps.toList.map λ_=>true,by rw[Č];rfl,?_⟩
 have al:((nS k).cps.toList.map λ_=>true).all id=true:=ø.mpr λx hx=>by
  obtain⟨_,_,rfl⟩:=ċ.mp hx
  rfl
 show if (!((nS k).cps.toList.map λ_=>true).all id)=true then _ else _
 rw[al]
 refine aC (A:=True) ?_
 show if decide (nS k="0")=true then _ else _
 by_cases z:nS k="0"
 ·rw[decide_eq_true z]
  exact aU (B:=True) ⟨rfl,q⟩
 ·rw[decide_eq_false z]
  refine aC (A:=True) ?_
  have nz:=dg.nz.resolve_left z
  cases hc:(nS k).cps.toList with
  |nil =>
   have:(nS k).cps.toList.length=0:=by rw[hc];rfl
   rw[é] at this
   exact absurd (show(nS k).length=0 from this) (by omega)
  |cons c r =>
   have h24:=ä
   refine⟨c,by omega,by rw[hc];exact fO (xs:=c::r) (j:=0) rfl,rfl,?_⟩
   show P (.bool (!decide ((⟨#[c]⟩:Str)="0")))
   rw[hc] at nz
   have:¬((⟨#[c]⟩:Str)="0"):=λe=>nz (by
    have e2:=congrArg (λx:Str=>x.cps.toList) e
    have e3:[c]=[48]:=e2
    injection e3 with e3
    rw[e3]
    rfl)
   rw[decide_eq_false this]
   exact q
def fQ:FnScope ["line","word","count","words"] ["line","word","count"] (aq (top 18)):=zC
def dG:(["number","line","word","count","words"]:List Str).Nodup:=by decide +kernel
def lY{tk_MOST_FIGURES:Tok}(F:Fun K "numbers_of" "numbers_of" (top 18) f fd)(B:ň mg)(g_MOST_FIGURES:mg "MOST_FIGURES"=some (.int 2 tk_MOST_FIGURES))(C_is_written:Ď P w K mg base 1 "is_written" ["word","most"] (spD HS)):FnOk P w K mg base CX0 2 f fd ["line","word","count"] (spD HJ):=by
 refine F.ok fQ Į (λcdv A outer s H vs Q E hr h=>?_)
 have nd:=fQ.nd
 refine⟨_,ā (Ò (Ć none (i:=3) nd rfl zQ (Wr.gP (É 0) (À þ Â)))
  (Ò (ĝ (Wr.wpt (Ŧ (Wr.cT hr.units (Wr.oK (É 3) Ø) (É 1)) (Ř (Wr.cT hr.units (Wr.dR B.len (À (É 3) Â)) (ŵ (É 2) Ø))))) (à (å Wr.fY)) ô)
  (Ò (ĝ (ĕ (ą (Wr.iJ rfl B.all Dl.boot_all (À (ŕ ["number"] rfl (ō (Wr.n8 (É 3) (Wr.cX Ø) Wr.cY)) (λc=>(ï (i:=0) dG rfl zQ)) (λc=>ī) (λc=>(Ě C_is_written hr (À (É 0) (À (Wr.dU rfl g_MOST_FIGURES ⟨_,rfl⟩) Â))))) Â)))) (à (å Wr.fY)) ô)
  (à (å (Wr.cU B.tuple (À (ŕ ["number"] rfl (ō (Wr.n8 (É 3) (Wr.cX Ø) Wr.cY)) (λc=>(ï (i:=0) dG rfl zQ)) (λc=>ī) (λc=>(Wr.oM B.int boot_int (À (É 0) Â)))) Â))))))),bC h ?_⟩
 rintro ds P ⟨wd,ks,rfl,lw,sw,lk,rk,q⟩
 refine⟨[.im _,.im (.str wd),.im (.int ((ks.length:Nat):Int)),.any],rfl,?_⟩
 have sp:ţ (Œ " " (wd::ks.map nS)) " "=wd::ks.map nS:=jT (c:=32) (by simp) (λy hy=>by
  rcases Ï.mp hy with rfl|hy
  ·exact sw
  ·obtain⟨k,hk,rfl⟩:=ċ.mp hy
   exact(dig (rk k hk).1 (rk k hk).2).s32)
 have lj:(Œ " " (wd::ks.map nS)).length<=50:=by
  have a:=lg " " (wd::ks.map nS)
  have e1:(" ":Str).length=1:=by decide
  have b:=wN (ys:=ks.map nS) (B:=2) λy hy=>by
   obtain⟨k,hk,rfl⟩:=ċ.mp hy
   exact cj (rk k hk).1 (rk k hk).2
  rw[Ã] at b
  rw[ð,List.sum_cons,Ó,Ã,e1] at a
  omega
 have ct:dI ((wd::ks.map nS).map ì) (some 1) none=ks.map λk=>ì (nS k):=by
  rw[ð,eO,Č]
  rfl
 have im:cB (ks.map λk=>ì (nS k))=true:=eF (ks.map nS) (by rw[Č];rfl)
 refine⟨_,rfl,_,rfl,rfl,by omega,?_⟩
 rw[sp]
 show lJ _ _ _ [.im (.str (Œ " " (wd::ks.map nS))),.im (.str wd),.im (.int ((ks.length:Nat):Int)),.sn (.list ((wd::ks.map nS).map ì))]
 refine⟨.str wd,fO (xs:=(wd::ks.map nS).map ì) (j:=0) rfl,?_⟩
 show if (!decide (wd=wd))=true then _ else _
 rw[decide_eq_true rfl]
 refine aC (A:=True) ?_
 show if (!decide (((((wd::ks.map nS).map ì).length:Nat):Int)=((ks.length:Nat):Int)+1))=true then _ else _
 rw[decide_eq_true (by rw[Ã,Ó,Ã];omega)]
 refine aC (A:=True) (.inl ⟨by rw[ct];exact im,?_⟩)
 rw[ct]
 refine lA ks (λk=>ì (nS k)) (λ_=>.bool true) .imm rfl (by omega) (λk hk A B hA=>aU (B:=B) ⟨k,rfl,(rk k hk).1,(rk k hk).2,rfl,hA⟩) ?_
 refine⟨ks.map λ_=>true,by rw[Č];rfl,?_⟩
 have al:(ks.map λ_=>true).all id=true:=ø.mpr λx hx=>by
  obtain⟨_,_,rfl⟩:=ċ.mp hx
  rfl
 show if (!(ks.map λ_=>true).all id)=true then _ else _
 rw[al]
 refine aC (A:=True) (.inl ⟨by rw[ct];exact im,?_⟩)
 rw[ct]
 refine lA ks (λk=>ì (nS k)) (λk=>.int k) .imm rfl (by omega) (λk hk A B hA=>aU (B:=B) ⟨k,(dig (rk k hk).1 (rk k hk).2).int,by have:=cj (rk k hk).1 (rk k hk).2;omega,rfl,hA⟩) ?_
 refine⟨?_,q⟩
 show(norm _ (ć (ks.map Þ))).le .n0=true
 rw[bD (d:=ć (ks.map Þ)) (qI ks)]
 rfl
def jW:FnScope ["text","word","rows","number","line","row"] ["text","word"] (aq (top 19)):=zC
def rQ(F:Fun K "rows_of" "rows_of" (top 19) f fd)(B:ň mg)(m_str:mg "str"=none)(m_enumerate:mg "enumerate"=none)(C_numbers_of:Ď P w K mg base 2 "numbers_of" ["line","word","count"] (spD HJ)):FnOk P w K mg base CX0 3 f fd ["text","word"] (spD zq):=by
 refine F.ok jW Į (λcdv A outer s H vs Q E hr h=>?_)
 have nd:=jW.nd
 refine⟨_,ā (Ò (ĝ (ĕ (ą (Ġ oZ B.isinstance (É 0) (ŗ rfl m_str Dl.boot_str)))) (à Wr.eN) ô)
  (Ò (Ć (some 0) (i:=2) nd rfl zQ (ń Â))
  (Ò (Wr.gw ş rfl (Wr.lF m_enumerate (À (Wr.gP (É 0) (À þ Â)) Â)) (Wr.gA (n:=2) rfl (ģ (ï (i:=3) nd rfl zQ) (ģ (ï (i:=4) nd rfl zQ) Wr.cG))) (Ò (Ć none (i:=5) nd rfl zQ (Wr.j8 (Wr.nZ (É 3) Ø) (Ě C_numbers_of hr (À (É 4) (À (É 1) (À Ø Â)))) (Ě C_numbers_of hr (À (É 4) (À þ (À Ø Â))))))
  (Ò (ĝ (Wr.jD (É 5) Wr.fY) (à Wr.eN) ô)
  (Ò (Wr.bU (ŝ 2) (À (É 5) Â)) (Ś [3,4,5] ô)))))
  (Ś [3,4,5] (à (å (É 2))))))),bC h ?_⟩
 rintro ds P ⟨n,ts,wd,rfl,lw,sw,s10,n0,n1,lt,rg,q⟩
 refine⟨[.im _,.im (.str wd),.any,.any,.any,.any],rfl,?_⟩
 have sp:ţ (aN n wd ts) "\n"=bM n::ts.map (aO wd):=jT (c:=10) (by simp) (λy hy=>by
  rcases Ï.mp hy with rfl|hy
  ·unfold bM
   rw[bO]
   exact λz=>(õ.mp z).elim (by decide) (dig n0 n1).s10
  ·obtain⟨t,ht,rfl⟩:=ċ.mp hy
   obtain⟨⟨a0,a1⟩,b0,b1⟩:=rg t ht
   unfold aO
   simp only[bO,List.mem_append,not_or]
   exact⟨⟨⟨⟨s10,by decide⟩,(dig a0 a1).s10⟩,by decide⟩,(dig b0 b1).s10⟩)
 have lj:(aN n wd ts).length<=5000:=by
  have a:=lg "\n" (bM n::ts.map (aO wd))
  have e1:("\n":Str).length=1:=by decide
  have b:=fB (n:=n) (ts:=ts) (w:=wd) n0 n1 lw rg
  rw[Ó,Ã] at a b
  rw[e1] at a
  unfold aN
  omega
 refine aC (A:=True) ⟨zK,_,rfl,_,rfl,rfl,by omega,?_⟩
 rw[sp]
 have ll:((bM n::ts.map (aO wd)).map ì).length=1+ts.length:=by rw[Ã,Ó,Ã];omega
 refine⟨rfl,λ(i:Nat) ρ=>ρ=[.im (.str (aN n wd ts)),.im (.str wd),.dw 0 (.list ((ć [.int n]::ts.map pD).take i)),.any,.any,.any],rfl,?_,?_⟩
 ·rintro i d ρ hd rfl
  rw[iU,Ú] at hd
  have tk:∀(v:D),(ć [.int n]::ts.map pD)[i]?=some v->(ć [.int n]::ts.map pD).take i++[v]=(ć [.int n]::ts.map pD).take (i+1):=λv hv=>by rw[Ÿ,hv];rfl
  have lk:((ć [.int n]::ts.map pD).take i).length<=41:=by rw[ņ,Ó,Ã];omega
  cases i with
  |zero =>
   cases hd
   refine⟨rfl,cW λs3 s4 e3 e4=>?_⟩
   have e3:s3=.im (.int ((0:Nat):Int)):=e3
   have e4:s4=.im (.str (bM n)):=e4
   subst e3 e4
   refine aC (A:=True) ⟨"places",[n],by rw[vB];rfl,by decide,by decide,(show 1<=2 by decide),λk hk=>by rw[Ĵ.mp hk];exact⟨n0,n1⟩,?_⟩
   refine aC (A:=True) ⟨rfl,by omega,?_⟩
   show([.im (.str (aN n wd ts)),.im (.str wd),.dw 0 (.list ((ć [.int n]::ts.map pD).take 0++[.tuple [.int n]])),.any,.any,.any]:List Sl)=_
   rw[tk _ rfl]
  |succ j =>
   cases ht:ts[j]? with
   |none =>
    rw[Ę,Ú,ht] at hd
    cases hd
   |some t =>
    rw[Ę,Ú,ht] at hd
    cases hd
    obtain⟨⟨a0,a1⟩,b0,b1⟩:=rg t (Ù ht)
    refine⟨rfl,cW λs3 s4 e3 e4=>?_⟩
    have e3:s3=.im (.int ((j+1:Nat):Int)):=e3
    have e4:s4=.im (.str (aO wd t)):=e4
    subst e3 e4
    show if decide ((0:Int)<((j+1:Nat):Int))=true then _ else _
    rw[decide_eq_true (by omega)]
    refine aU (B:=True) ⟨wd,[t.1,t.2],by rw[vg];rfl,lw,sw,(show 2<=2 by decide),λk hk=>?_,?_⟩
    ·simp only[Ï,æ,or_false] at hk
     rcases hk with rfl|rfl
     ·exact⟨a0,a1⟩
     ·exact⟨b0,b1⟩
    refine aC (A:=True) ⟨rfl,by omega,?_⟩
    show([.im (.str (aN n wd ts)),.im (.str wd),.dw 0 (.list ((ć [.int n]::ts.map pD).take (j+1)++[pD t])),.any,.any,.any]:List Sl)=_
    rw[tk (pD t) (by rw[Ę,Ú,ht];rfl)]
 ·rintro ρ rfl
  refine⟨rfl,?_⟩
  rw[List.take_of_length_le (by unfold iy;rw[Ã,List.length_zipIdx,ll,Ó,Ã];omega)]
  exact q
def jd:FnScope ["text","rows"] ["text"] (aq (top 20)):=zC
def qu(F:Fun K "read_web" "read_web" (top 20) f fd)(B:ň mg)(C_rows_of:Ď P w K mg base 3 "rows_of" ["text","word"] (spD zq))(C_web_of:Ď P w K mg base 6 "web_of" ["n","ties"] (spD zj)):FnOk P w K mg base CX0 7 f fd ["text"] (spD (fRd "tie" mmT)):=by
 refine F.ok jd Į (λcdv A outer s H vs Q E hr h=>?_)
 have nd:=jd.nd
 refine⟨_,ā (Ò (Ć none (i:=1) nd rfl zQ (Ě C_rows_of hr (À (É 0) (À þ Â))))
  (à (å (Ě C_web_of hr (À (Ē (Ē (É 1) Ø) Ø) (À (Wr.qj (É 1) (Wr.cX Ø) Wr.cY) Â)))))),bC h ?_⟩
 rintro ds P ⟨n,ts,rfl,n1,n16,lt,ok,q⟩
 refine⟨[.im (.str (aN n "tie" ts)),.any],rfl,?_⟩
 have rg:qW ts:=λt ht=>by have:=ok t ht;exact⟨⟨this.1.1,by have:=this.1.2;omega⟩,this.2.1.1,by have:=this.2.1.2;omega⟩
 refine⟨n,ts,"tie",rfl,by decide,by decide,by decide,by omega,n16,lt,rg,?_⟩
 refine⟨.tuple [.int n],fO (xs:=ć [.int n]::ts.map pD) (j:=0) rfl,.int n,rfl,.inl ⟨by rw[eO];exact cN ts,?_⟩⟩
 rw[eO]
 refine⟨n,ts,rfl,n1,n16,lt,ok,λvs hp hs=>⟨?_,q vs hp hs⟩⟩
 show(norm _ (aR n vs)).le .n0=true
 rw[bD (cF _ _)]
 rfl
def dF:FnScope ["text","rows"] ["text"] (aq (top 21)):=zC
def jo(F:Fun K "read_one_way" "read_one_way" (top 21) f fd)(B:ň mg)(C_rows_of:Ď P w K mg base 3 "rows_of" ["text","word"] (spD zq))(C_one_way_of:Ď P w K mg base 6 "one_way_of" ["n","ties"] (spD zx)):FnOk P w K mg base CX0 7 f fd ["text"] (spD (fRd "lead" id)):=by
 refine F.ok dF Į (λcdv A outer s H vs Q E hr h=>?_)
 have nd:=dF.nd
 refine⟨_,ā (Ò (Ć none (i:=1) nd rfl zQ (Ě C_rows_of hr (À (É 0) (À þ Â))))
  (à (å (Ě C_one_way_of hr (À (Ē (Ē (É 1) Ø) Ø) (À (Wr.qj (É 1) (Wr.cX Ø) Wr.cY) Â)))))),bC h ?_⟩
 rintro ds P ⟨n,ts,rfl,n1,n16,lt,ok,q⟩
 refine⟨[.im (.str (aN n "lead" ts)),.any],rfl,?_⟩
 have rg:qW ts:=λt ht=>by have:=ok t ht;exact⟨⟨this.1.1,by have:=this.1.2;omega⟩,this.2.1.1,by have:=this.2.1.2;omega⟩
 refine⟨n,ts,"lead",rfl,by decide,by decide,by decide,by omega,n16,lt,rg,?_⟩
 refine⟨.tuple [.int n],fO (xs:=ć [.int n]::ts.map pD) (j:=0) rfl,.int n,rfl,.inl ⟨by rw[eO];exact cN ts,?_⟩⟩
 rw[eO]
 refine⟨n,ts,rfl,n1,n16,lt,ok,λvs hp hs=>⟨?_,q vs (by rw[List.map_id];exact hp) hs⟩⟩
 show(norm _ (aR n vs)).le .n0=true
 rw[bD (cF _ _)]
 rfl
end
def yJ(d:D):Prop:=d=.none\/(∃b,d=.bool b)\/(∃i,d=.int i)\/∃z,d=.str z
def GA:Nat->D->Prop
 |0,d=>yJ d
 |k+1,d=>yJ d\/∃ds:List D,(d=.list ds\/d=.tuple ds)/\ds.length<=100/\∀x∈ds,GA k x
def fAl:Nat->List D->(D->Prop)->Prop
 |0,_,_=>False
 |k+1,ds,P=>∃d,ds=[d,d]/\GA k d/\P (.bool true)
def gW{k:Kd}{T:D}(h:k=.imm\/k=.shr):norm k T=.imm\/norm k T=.shr:=by
 by_cases i:eG T=true
 ·exact .inl (bD i)
 ·rw[kI i]
  exact h
def wQ{k:Kd}{d:D}{s:Sl}(hk:k=.imm\/k=.shr)(e:s=p8 (norm (norm k d) d) d):s=.im d\/s=.sh d:=by
 subst e
 rcases gW (gW (T:=d) hk) with h|h
 ·exact .inl (by rw[h];rfl)
 ·exact .inr (by rw[h];rfl)
section
variable {P:Program}{w:World}{K:Í}{mg:Str->Option Value}{base:Heap}{f:Addr}{fd:FuncData}{kk LL:Nat}
def cQ:FnScope ["_law_found","_law_due"] ["_law_found","_law_due"] (aq (top 31)):=zC
def dZ:(["_law_one","_law_other","_law_found","_law_due"]:List Str).Nodup:=by decide +kernel
def uZ(F:Fun K "_law_alike" "_law_alike" (top 31) f fd)(B:ň mg)(m_zip:mg "zip"=none)(m_str:mg "str"=none)(C__law_alike:Ď P w K mg base LL "_law_alike" ["_law_found","_law_due"] (spD (fAl kk))):FnOk P w K mg base CX0 LL.succ f fd ["_law_found","_law_due"] (spD (fAl (kk+1))):=by
 refine F.ok cQ Į (λcdv A outer s H vs Q E hr h=>?_)
 have nd:=cQ.nd
 refine⟨_,ā (Ò (ĝ (Wr.jD (É 1) Wr.fY) (à (å (Wr.rM (É 0) Wr.fY))) ô)
  (Ò (ĝ (ą (Wr.gQ B.isinstance (É 1) (ŗ rfl B.list boot_list) (ŗ rfl B.tuple boot_tuple))) (Ò (ĝ (Wr.wpt (Ŧ (ĕ (ą (Wr.gQ B.isinstance (É 0) (ŗ rfl B.list boot_list) (ŗ rfl B.tuple boot_tuple)))) (Ř (Wr.cT hr.units (Ġ qG B.isinstance (É 0) (ŗ rfl B.list boot_list)) (Ġ qG B.isinstance (É 1) (ŗ rfl B.list boot_list)))))) (à (å ũ)) ô)
  (à (å (ž (Wr.dW hr.units (Wr.dR B.len (À (É 0) Â)) (Wr.dR B.len (À (É 1) Â))) (Wr.cH (Wr.iJ rfl B.all Dl.boot_all (À (ŕ ["_law_one","_law_other"] rfl (Wr.pI m_zip (À (É 0) (À (É 1) Â))) (λc=>(Wr.gA (n:=2) rfl (ģ (ï (i:=0) dZ rfl zQ) (ģ (ï (i:=1) dZ rfl zQ) Wr.cG)))) (λc=>ī) (λc=>(Ě (hk:=Æ _) C__law_alike hr (À (É 0) (À (É 1) Â))))) Â))))))) ô)
  (Ò (ĝ (Wr.wpt (Ŧ (ą (Ġ eE B.isinstance (É 1) (ŗ rfl B.bool boot_bool))) (Ř (ą (Ġ eE B.isinstance (É 0) (ŗ rfl B.bool boot_bool)))))) (à (å (ž (Ġ eE B.isinstance (É 1) (ŗ rfl B.bool boot_bool)) (ž (Ġ eE B.isinstance (É 0) (ŗ rfl B.bool boot_bool)) (Wr.cH (Wr.dW hr.units (É 0) (É 1))))))) ô)
  (Ò (ĝ (ą (Ġ oZ B.isinstance (É 1) (ŗ rfl m_str Dl.boot_str))) (à (å (ž (Ġ oZ B.isinstance (É 0) (ŗ rfl m_str Dl.boot_str)) (Wr.cH (Wr.dW hr.units (É 0) (É 1)))))) ô)
  (à (å (ž (Ġ uh B.isinstance (É 0) (ŗ rfl B.int boot_int)) (Wr.cH (Wr.dW hr.units (É 0) (É 1)))))))))),bC h ?_⟩
 rintro ds P ⟨d,rfl,g,q⟩
 refine⟨[cI d,cI d],rfl,?_⟩
 have leaf:yJ d\/∃ds:List D,(d=.list ds\/d=.tuple ds)/\ds.length<=100/\∃k,kk=k+1/\∀x∈ds,GA k x:=by
  cases kk with
  |zero=>exact .inl g
  |succ k =>
   rcases g with g|⟨ds,h1,h2,h3⟩
   ·exact .inl g
   ·exact .inr ⟨ds,h1,h2,k,rfl,h3⟩
 rcases leaf with (rfl|⟨b,rfl⟩|⟨i,rfl⟩|⟨z,rfl⟩)|⟨ds,rfl|rfl,lk,k,rfl,gk⟩
 ·exact aU (B:=True) ⟨rfl,q⟩
 ·refine aC (A:=True) (aC (A:=True) (aU (B:=True) (aU (B:=True) (aU (B:=True) ?_))))
  show _/\P (.bool (decide (b=b)))
  rw[decide_eq_true rfl]
  exact⟨rfl,q⟩
 ·refine aC (A:=True) (aC (A:=True) (aC (A:=True) (aC (A:=True) (aC (A:=True) (aU (B:=True) ?_)))))
  show _/\P (.bool (decide (i=i)))
  rw[decide_eq_true rfl]
  exact⟨rfl,q⟩
 ·refine aC (A:=True) (aC (A:=True) (aC (A:=True) (aC (A:=True) (aU (B:=True) (aU (B:=True) ?_)))))
  show _/\P (.bool (decide (z=z)))
  rw[decide_eq_true rfl]
  exact⟨rfl,q⟩
 ·refine aC (A:=True) (aU (B:=True) (aC (A:=True) (aC (A:=True) ?_)))
  show if decide (((ds.length:Nat):Int)=((ds.length:Nat):Int))=true then _ else _
  rw[decide_eq_true rfl]
  refine aU (B:=True) ?_
  refine⟨by rw[Ã,Ā];omega,.imm,λi ys=>ys=(ds.take i).map λ_=>PyData.bool true,rfl,λi d ys hd hy=>?_,λys hy=>?_⟩
  ·subst hy
   rw[Ú] at hd
   cases hi:ds[i]? with
   |none =>
    rw[show(ds.zip ds)[i]?=none by rw[Ō,Ā];rw[Ō] at hi;omega] at hd
    cases hd
   |some x =>
    rw[ŋ (z:=(x,x)) |>.mpr ⟨hi,hi⟩] at hd
    cases hd
    refine⟨rfl,cW λs0 s1 e0 e1=>?_⟩
    have e2:s1=s0:=e1.trans e0.symm
    subst e2
    rcases wQ (gW (.inr rfl)) e0 with rfl|rfl
    all_goals exact aU (B:=True) ⟨x,rfl,gk x (Ù hi),rfl,(yG _ hi).symm⟩
  dsimp only at hy
  rw[show((ds.zip ds).map prD).length=ds.length by rw[Ã,Ā];omega,Ž] at hy
  subst hy
  refine⟨ds.map λ_=>true,by rw[Č];rfl,?_⟩
  refine⟨rfl,?_⟩
  rw[show(ds.map λ_=>true).all id=true from ø.mpr λx hx=>by
   obtain⟨_,_,rfl⟩:=ċ.mp hx
   rfl]
  exact q
 ·rcases BW (.tuple ds) with e|e
  all_goals
   rw[e]
   refine aC (A:=True) (aU (B:=True) (aC (A:=True) (aC (A:=True) ?_)))
   show if decide (((ds.length:Nat):Int)=((ds.length:Nat):Int))=true then _ else _
   rw[decide_eq_true rfl]
   refine aU (B:=True) ?_
   refine⟨by rw[Ã,Ā];omega,.imm,λi ys=>ys=(ds.take i).map λ_=>PyData.bool true,rfl,λi d ys hd hy=>?_,λys hy=>?_⟩
   ·subst hy
    rw[Ú] at hd
    cases hi:ds[i]? with
    |none =>
     rw[show(ds.zip ds)[i]?=none by rw[Ō,Ā];rw[Ō] at hi;omega] at hd
     cases hd
    |some x =>
     rw[ŋ (z:=(x,x)) |>.mpr ⟨hi,hi⟩] at hd
     cases hd
     refine⟨rfl,cW λs0 s1 e0 e1=>?_⟩
     have e2:s1=s0:=e1.trans e0.symm
     subst e2
     rcases wQ (gW (by first|exact .inl rfl|exact .inr rfl)) e0 with rfl|rfl
     all_goals exact aU (B:=True) ⟨x,rfl,gk x (Ù hi),rfl,(yG _ hi).symm⟩
   dsimp only at hy
   rw[show((ds.zip ds).map prD).length=ds.length by rw[Ã,Ā];omega,Ž] at hy
   subst hy
   refine⟨ds.map λ_=>true,by rw[Č];rfl,?_⟩
   refine⟨rfl,?_⟩
   rw[show(ds.map λ_=>true).all id=true from ø.mpr λx hx=>by
    obtain⟨_,_,rfl⟩:=ċ.mp hx
    rfl]
   exact q
def u5(F:Fun K "_law_alike" "_law_alike" (top 31) f fd):FnOk P w K mg base CX0 1 f fd ["_law_found","_law_due"] (spD (fAl 0)) :=
 F.ok cQ (Į λds P h=>h.elim) (λcdv A outer s H vs Q E hr h=>by
  obtain⟨_,_,_,t,_⟩:=h
  exact t.elim)
def yu(k:Nat)(F:Fun K "_law_alike" "_law_alike" (top 31) f fd)(B:ň mg)(m_zip:mg "zip"=none)(m_str:mg "str"=none)(b:Binds K fd ["_law_found","_law_due"] [])(m:mg "_law_alike"=some (.ref f)):FnOk P w K mg base CX0 (k+1) f fd ["_law_found","_law_due"] (spD (fAl k)):=by
 induction k with
 |zero=>exact u5 F
 |succ k ih=>exact uZ F B m_zip m_str ⟨f,fd,ih,b,F.kp,m⟩
def u0(F:Fun K "_law_alike" "_law_alike" (top 31) f fd)(B:ň mg)(m_zip:mg "zip"=none)(m_str:mg "str"=none)(b:Binds K fd ["_law_found","_law_due"] [])(m:mg "_law_alike"=some (.ref f)):FnOk P w K mg base CX0 5 f fd ["_law_found","_law_due"] (spD (fAl 4)):=yu 4 F B m_zip m_str b m
end
def HF(ds:List D)(P:D->Prop):Prop:=∃n:Int,ds=[.int n]/\1<=n/\n<=16/\∀ts:List Tie,ts.length<=40->OkN n ts->P (.list (ts.map pD))
def HD(ds:List D)(P:D->Prop):Prop:=∃(n:Int) (w:Str) (d:D) (ts:List Tie),ds=[.int n,.str w,d]/\(d=.list (ts.map pD)\/d=.tuple (ts.map pD))/\w.length<=10/\0<=n/\n<=16/\ts.length<=40/\qW ts/\P (.str (aN n w ts))
def HN(ds:List D)(P:D->Prop):Prop:=∃ts:List Tie,ds=[.list (ts.map pD)]/\ts.length<=40/\∀us:List Tie,us.Perm ts->P (.list (us.map pD))
def BX(ts:List Tie):cI (.tuple (ts.map pD))=.im (.tuple (ts.map pD)):=by
 unfold cI
 exact if_pos (cN ts)
def Er{a r n:Int}(a0:0<=a)(a1:a<n)(r0:0<=r)(r1:r<n - 1):a≠(a+1+r) % n:=λe=>by
 by_cases h:a+1+r<n
 ·rw[Int.emod_eq_of_lt (by omega) h] at e
  omega
 ·have e2:(a+1+r) % n=a+1+r - n:=by
   rw[←Int.sub_emod_right,Int.emod_eq_of_lt (by omega) (by omega)]
  omega
def yd{n:Int}{l:List Int}{ts:List Tie}(h:IsOrd n l)(e:n=((ts.length:Nat):Int)):(l.map λx=>ts.getD x.toNat (0,0)).Perm ts:=by
 have ln:=h.len
 have nd:(l.map Int.toNat).Nodup:=List.pairwise_map.mpr (h.nd.imp_of_mem λha hb hne z=>hne (by
  have:=h.rng _ ha
  have:=h.rng _ hb
  omega))
 have sub:∀x∈l.map Int.toNat,x∈ã ts.length:=λx hx=>by
  obtain⟨y,hy,rfl⟩:=ċ.mp hx
  have:=h.rng y hy
  exact List.mem_range.mpr (by omega)
 have hp:(l.map Int.toNat).Perm (ã ts.length):=(List.perm_ext_iff_of_nodup nd List.nodup_range).mpr λx=>⟨sub x,λhx=>by
  apply Classical.byContradiction
  intro hn
  have:=(œ.mpr ⟨hn,nd⟩).length_le_of_subset (l₂:=ã ts.length) λy hy=>by
   rcases Ï.mp hy with rfl|hy
   ·exact hx
   ·exact sub y hy
  rw[Ó,Ã,List.length_range] at this
  omega⟩
 have hm:=hp.map λi=>ts.getD i (0,0)
 rw[Č] at hm
 refine hm.trans (List.Perm.of_eq (List.ext_getElem (by simp) λi h1 h2=>?_))
 rw[List.getElem_map,List.getElem_range,č,Ý h2]
 rfl
section
variable {P:Program}{w:World}{K:Í}{mg:Str->Option Value}{base:Heap}{f:Addr}{fd:FuncData}
def gH:FnScope ["_law_pen_here","_law_n","_law_found","_law_most","_law_k","_law_a"] ["_law_pen_here","_law_n"] (aq (top 32)):=zC
def oR(F:Fun K "_law_pairs" "_law_pairs" (top 32) f fd)(B:ň mg)(C__law_draw:Ď P w K mg base 1 "_law_draw" ["_law_pen_here","_law_many"] (spP (CP K) uw)):FnOk P w K mg base CX0 2 f fd ["_law_pen_here","_law_n"] (spP (CP K) HF):=by
 refine F.ok gH jL (λcdv A outer s H vs Q E hr h=>?_)
 have nd:=gH.nd
 refine⟨_,ā (Ò (Ć (some 0) (i:=2) nd rfl zQ (ń Â))
  (Ò (Ć none (i:=3) nd rfl zQ (Ē (ń (À Ø (À Ø Â))) (Wr.jG B.int boot_int (À (Wr.dW hr.units (Ŷ C__law_draw hr (ŝ 0) (À Ø Â)) Ø) Â))))
  (Ò (Wr.gw ş rfl (Wr.cO B.range (À (Wr.j5 (Ŷ C__law_draw hr (ŝ 0) (À (É 3) Â)) (Wr.jG B.int boot_int (À (Wr.xZ (É 1) Ø) Â))) Â)) (ï (i:=4) nd rfl zQ) (Ò (Ć none (i:=5) nd rfl zQ (Ŷ C__law_draw hr (ŝ 0) (À (É 1) Â)))
  (Ò (Wr.bU (ŝ 2) (À (ĵ (À (É 5) (À (Wr.rK (ŵ (ŵ (É 5) Ø) (Ŷ C__law_draw hr (ŝ 0) (À (Wr.rH (É 1) Ø) Â))) (É 1)) Â))) Â)) (Ś [4,5] ô))))
  (Ś [4,5] (à (å (É 2))))))),enterQ h ?_⟩
 rintro ds P ⟨n,rfl,n1,n16,q⟩
 refine⟨[.im (.int n),.any,.any,.any,.any],rfl,?_⟩
 refine⟨zK,zK,rfl,4,rfl,by decide,by decide,λr r0 r1=>?_⟩
 obtain⟨m,hm,m0,m1⟩:∃m:Int,atI [Þ 9,Þ 41] (if decide (r=0)=true then 1 else 0)=some (.int m)/\1<=m/\m<=41:=by
  by_cases c:r=0
  ·rw[decide_eq_true c]
   exact⟨41,rfl,by decide,by decide⟩
  ·rw[decide_eq_false c]
   exact⟨9,rfl,by decide,by decide⟩
 refine⟨.int m,hm,rfl,m,rfl,by omega,by omega,λr2 a0 a1=>?_⟩
 refine⟨.inl ⟨by omega,by omega⟩,?_⟩
 show _/\_
 generalize hc:r2 * (if decide (1<n)=true then 1 else 0)=c
 have c0:0<=c/\c<=40/\(0<c->1<n):=by
  rw[←hc]
  by_cases z:1<n
  ·rw[decide_eq_true z,if_pos rfl,Int.mul_one]
   exact⟨by omega,by omega,λ_=>z⟩
  ·rw[decide_eq_false z,if_neg (by decide),Int.mul_zero]
   exact⟨by decide,by decide,λy=>absurd y (by decide)⟩
 refine⟨⟨by omega,by omega⟩,rfl,λ(i:Nat) ρ=>∃ts:List Tie,ρ=[.pen (CP K),.im (.int n),.dw 0 (.list (ts.map pD)),.im (.int m),.any,.any]/\ts.length=i/\OkN n ts,⟨[],rfl,rfl,λt ht=>nomatch ht⟩,?_,?_⟩
 ·rintro i d ρ hd ⟨ts,rfl,lt,ok⟩
  obtain⟨hi,rfl⟩:=iT hd
  have n2:1<n:=c0.2.2 (by omega)
  refine⟨rfl,n,rfl,by omega,by omega,λa a0 a1=>?_⟩
  refine⟨rfl,n - 1,rfl,by omega,by omega,λb b0 b1=>?_⟩
  have md0:=ŭ (a+1+b) (b:=n) (by omega)
  have md1:=Ŗ (a+1+b) (b:=n) (by omega)
  refine⟨by omega,zK,rfl,by rw[Ã];omega,ts++[(a,(a+1+b) % n)],?_,by rw[Ü,List.length_singleton,lt],λt ht=>?_⟩
  ·show([.pen (CP K),.im (.int n),.dw 0 (.list (ts.map pD++[pD (a,(a+1+b) % n)])),.im (.int m),.any,.any]:List Sl)=_
   rw[ď]
   rfl
  ·rcases õ.mp ht with z|z
   ·exact ok t z
   ·rw[Ĵ.mp z]
    exact⟨⟨a0,a1⟩,⟨md0,md1⟩,Er a0 a1 b0 b1⟩
 ·rintro ρ ⟨ts,rfl,lt,ok⟩
  rw[mU] at lt
  exact⟨rfl,q ts (by omega) ok⟩
def je:FnScope ["_law_n","_law_word","_law_pairs_here"] ["_law_n","_law_word","_law_pairs_here"] (aq (top 33)):=zC
def fV:(["_law_a","_law_b","_law_n","_law_word","_law_pairs_here"]:List Str).Nodup:=by decide +kernel
def qw(F:Fun K "_law_text" "_law_text" (top 33) f fd)(B:ň mg)(m_str:mg "str"=none):FnOk P w K mg base CX0 1 f fd ["_law_n","_law_word","_law_pairs_here"] (spD HD):=by
 refine F.ok je Į (λcdv A outer s H vs Q E hr h=>?_)
 have nd:=je.nd
 refine⟨_,ā (à (å (Wr.jF þ (À (Ź (ń (À (Ź þ (Wr.gO m_str (À (É 0) Â))) Â)) (ŕ ["_law_a","_law_b"] rfl (ō (É 2)) (λc=>(Wr.gA (n:=2) rfl (ģ (ï (i:=0) fV rfl zQ) (ģ (ï (i:=1) fV rfl zQ) Wr.cG)))) (λc=>ī) (λc=>(Ź (Ź (Ź (Ź (É 3) þ) (Wr.gO m_str (À (É 0) Â))) þ) (Wr.gO m_str (À (É 1) Â)))))) Â)))),bC h ?_⟩
 rintro ds P ⟨n,wd,d,ts,rfl,e,lw,n0,n1,lt,rg,q⟩
 have l1:(ğ (toString n)).length<=2:=cj n0 n1
 have e1:("places ":Str).length=7:=by decide
 have e2:("\n":Str).length=1:=by decide
 have e3:(" ":Str).length=1:=by decide
 have eL:ì ("places "++nS n)::ts.map (λt=>ì (aO wd t))=(bM n::ts.map (aO wd)).map ì:=by
  rw[ð,Č]
  rfl
 have st:∀t∈ts,∀(A:D->Prop),A (.str (aO wd t))->wd.length+(" ":Str).length<=100000/\t.1.natAbs.log2<1920/\(wd++" ").length+(nS t.1).length<=100000/\(wd++" "++nS t.1).length+(" ":Str).length<=100000/\t.2.natAbs.log2<1920/\(wd++" "++nS t.1++" ").length+(nS t.2).length<=100000/\A (.str (aO wd t)):=λt ht A hA=>by
  obtain⟨⟨a0,a1⟩,b0,b1⟩:=rg t ht
  have m1:(nS t.1).length<=2:=cj a0 a1
  have m2:(nS t.2).length<=2:=cj b0 b1
  refine⟨by omega,gj a0 a1,?_,?_,gj b0 b1,?_,hA⟩ <;> simp only[ė] <;> omega
 rcases e with rfl|rfl
 ·refine⟨[.im (.int n),.im (.str wd),.sh (.list (ts.map pD))],rfl,?_⟩
  refine⟨_,rfl,gj n0 n1,by omega,zK,?_⟩
  refine lA ts pD (λt=>.str (aO wd t)) .imm rfl (by omega) (λt ht A B hA=>⟨rfl,cW λs0 s1 e0 e1=>?_⟩) ?_
  ·have e0:s0=.im (.int t.1):=e0
   have e1:s1=.im (.int t.2):=e1
   subst e0 e1
   obtain⟨w1,w2,w3,w4,w5,w6,w7⟩:=st t ht A hA
   exact aU (B:=B) ⟨w1,w2,w3,w4,w5,w6,rfl,w7⟩
  refine⟨by show 1+(ts.map _).length<=1000;rw[Ã];omega,.inl ⟨eF (bM n::ts.map (aO wd)) eL,bM n::ts.map (aO wd),congrArg Ĥ eL,?_,rfl,q⟩⟩
  have:=fB (n:=n) (ts:=ts) (w:=wd) n0 n1 lw rg
  rw[Ó,Ã] at this ⊢
  rw[e2]
  omega
 ·refine⟨[.im (.int n),.im (.str wd),.im (.tuple (ts.map pD))],?_,?_⟩
  ·show [_,_,cI (.tuple (ts.map pD))]=_
   rw[BX]
   rfl
  refine⟨_,rfl,gj n0 n1,by omega,zK,?_⟩
  refine lA ts pD (λt=>.str (aO wd t)) .imm rfl (by omega) (λt ht A B hA=>⟨rfl,cW λs0 s1 e0 e1=>?_⟩) ?_
  ·have e0:s0=.im (.int t.1):=e0
   have e1:s1=.im (.int t.2):=e1
   subst e0 e1
   obtain⟨w1,w2,w3,w4,w5,w6,w7⟩:=st t ht A hA
   exact aU (B:=B) ⟨w1,w2,w3,w4,w5,w6,rfl,w7⟩
  refine⟨by show 1+(ts.map _).length<=1000;rw[Ã];omega,.inl ⟨eF (bM n::ts.map (aO wd)) eL,bM n::ts.map (aO wd),congrArg Ĥ eL,?_,rfl,q⟩⟩
  have:=fB (n:=n) (ts:=ts) (w:=wd) n0 n1 lw rg
  rw[Ó,Ã] at this ⊢
  rw[e2]
  omega
def gJ:FnScope ["_law_pen_here","_law_pairs_here"] ["_law_pen_here","_law_pairs_here"] (aq (top 34)):=zC
def kO:(["_law_k","_law_pen_here","_law_pairs_here"]:List Str).Nodup:=by decide +kernel
def oU(F:Fun K "_law_mixed" "_law_mixed" (top 34) f fd)(B:ň mg)(C__law_order:Ď P w K mg base 2 "_law_order" ["_law_pen_here","_law_n"] (spP (CP K) zu)):FnOk P w K mg base CX0 3 f fd ["_law_pen_here","_law_pairs_here"] (spP (CP K) HN):=by
 refine F.ok gJ jL (λcdv A outer s H vs Q E hr h=>?_)
 have nd:=gJ.nd
 refine⟨_,ā (à (å (ŕ ["_law_k"] rfl (ō (Ŷ C__law_order hr (ŝ 0) (À (Wr.dR B.len (À (É 1) Â)) Â))) (λc=>(ï (i:=0) kO rfl zQ)) (λc=>ī) (λc=>(Ē (É 2) (É 0)))))),enterQ h ?_⟩
 rintro ds P ⟨ts,rfl,lt,q⟩
 refine⟨[.sh (.list (ts.map pD))],rfl,?_⟩
 refine⟨rfl,((ts.length:Nat):Int),by show [Þ (((ts.map pD).length:Nat):Int)]=_;rw[Ã],by omega,by omega,λl hl=>?_⟩
 have ll:=hl.len
 have nt:∀x∈l,x.toNat<ts.length:=λx hx=>by have:=hl.rng x hx;omega
 refine lA l Þ (λx=>pD (ts.getD x.toNat (0,0))) .imm rfl (by omega) (λx hx A B hA=>aU (B:=B) ⟨_,?_,rfl,hA⟩) ?_
 ·have h:=nt x hx
  have:=hl.rng x hx
  have:=fO (xs:=ts.map pD) (j:=x.toNat) (v:=pD (ts.getD x.toNat (0,0))) (by rw[Ú,Ý h,č,Ý h];rfl)
  rwa [show((x.toNat:Nat):Int)=x by omega] at this
 have e:l.map (λx=>pD (ts.getD x.toNat (0,0)))=(l.map λx=>ts.getD x.toNat (0,0)).map pD:=by rw[Č];rfl
 rw[e]
 exact⟨rfl,q _ (yd hl rfl)⟩
end
def zU{P:DEnds}{ρ:List Sl}{rg:Option Nat}{i:Nat}{k:Kd}{d:D}{s:Sl}(e:stK rg ρ i (norm k d) d=some s)(h:P.nx (ρ.set i s)):vJ i rg (λ_ P=>P k d) P ρ:=by
 unfold vJ
 dsimp only
 rw[e]
 exact h
def vL{α:Type}(l:List α){m:Int}(h0:0<=m)(h1:m<=l.length):dI l none (some m)=l.take m.toNat:=by
 unfold dI
 have e1:HT.sIx l.length 0 none=0:=rfl
 have e2:HT.sIx l.length l.length (some m)=m.toNat:=by
  show(if m<0 then (m+((l.length:Nat):Int)).toNat else min m.toNat l.length)=m.toNat
  rw[if_neg (by omega)]
  omega
 rw[e1,e2,List.drop_zero,Nat.sub_zero]
def wO{ρ:List Sl}{i:Nat}{k:Kd}{d:D}(h:eG d=true):stK none ρ i (norm k d) d=some (.im d):=by
 rw[bD h]
 rfl
abbrev Sorted(ts:List Tie):Prop:=ts.Pairwise λa b=>aA a<=aA b
structure Ent where
 n:Int
 us:List Tie
 ts:List Tie
def Ent.D(e:Ent):Dl.D:=.list [.str (aN e.n "tie" e.us),aR e.n e.ts]
structure EntOk(e:Ent):Prop where
 n1:1<=e.n
 n16:e.n<=16
 lu:e.us.length<=40
 ok:OkN e.n e.us
 pm:e.ts.Perm (e.us.map mmT)
 so:Sorted e.ts
def yE{n:Int}{ts:List Tie}(h:OkN n ts):OkN n (ts.map mmT):=λt ht=>by
 obtain⟨u,hu,rfl⟩:=ċ.mp ht
 obtain⟨⟨o1,o2⟩,⟨o3,o4⟩,o5⟩:=h u hu
 unfold mmT OkT
 dsimp only
 split <;> split <;> omega
def Ho{n:Int}{ts:List Tie}(h:OkN n ts):∀t∈ts.map mmT,t.1<t.2:=λt ht=>by
 obtain⟨u,hu,rfl⟩:=ċ.mp ht
 obtain⟨_,_,o5⟩:=h u hu
 unfold mmT
 dsimp only
 split <;> split <;> omega
def Cy{ts:List Tie}(h:∀t∈ts,t.1<t.2):ts.map mmT=ts:=by
 have:ts.map mmT=ts.map id:=List.map_congr_left λt ht=>by
  have:=h t ht
  unfold mmT
  rw[if_neg (by omega),if_pos (by omega)]
  rfl
 rw[this,List.map_id]
def gU{n:Int}{a b:List Tie}(h:OkN n a)(p:b.Perm a):OkN n b:=λt ht=>h t (p.mem_iff.mp ht)
def jH{n:Int}{a:List Tie}(h:OkN n a)(n16:n<=16):∀t∈a,jy t:=λt ht=>by
 obtain⟨o1,o2,_⟩:=h t ht
 exact⟨by omega,by omega⟩
def mQ{n:Int}{a:List Tie}(h:OkN n a)(n16:n<=16):qW a:=λt ht=>by
 obtain⟨o1,o2,_⟩:=h t ht
 exact⟨⟨by omega,by omega⟩,by omega,by omega⟩
def jA{n:Int}{a b c:List Tie}(h:OkN n c)(n16:n<=16)(pa:a.Perm c)(pb:b.Perm c)(sa:Sorted a)(sb:Sorted b):a=b :=
 List.Perm.eq_of_pairwise (λx y hx hy h1 h2=>by
  have na:=jH h n16 x (pa.mem_iff.mp hx)
  have nb:=jH h n16 y (pb.mem_iff.mp hy)
  unfold aA at h1 h2
  unfold jy at na nb
  exact Prod.ext (by omega) (by omega)) sa sb (pa.trans pb.symm)
def yQ(z:Str):GA 3 (.str z):=.inl (.inr (.inr (.inr ⟨z,rfl⟩)))
def su{n:Int}{ts:List Tie}(h:ts.length<=40):GA 3 (aR n ts):=.inr ⟨_,.inr rfl,(show 2<=100 by decide),λx hx=>by
 simp only[Ï,æ,or_false] at hx
 rcases hx with rfl|rfl
 ·exact .inl (.inr (.inr (.inl ⟨n,rfl⟩)))
 ·refine .inr ⟨_,.inr rfl,by rw[Ã];omega,λx hx=>?_⟩
  obtain⟨t,ht,rfl⟩:=ċ.mp hx
  refine .inr ⟨_,.inr rfl,(show 2<=100 by decide),λx hx=>?_⟩
  simp only[Ï,æ,or_false] at hx
  rcases hx with rfl|rfl
  ·exact .inr (.inr (.inl ⟨_,rfl⟩))
  ·exact .inr (.inr (.inl ⟨_,rfl⟩))⟩
section
variable {P:Program}{w:World}{K:Í}{mg:Str->Option Value}{base:Heap}{f:Addr}{fd:FuncData}
def wW:FnScope ["_law_script","_law_pen_here","_law_due","_law_turn","_law_n","_law_ties","_law_led","_law_web","_law_one","_law_text_here","_law_turned"] ["_law_script"] (aq (top 35)):=zC
def gY:(["_law_a","_law_b","_law_script","_law_pen_here","_law_due","_law_turn","_law_n","_law_ties","_law_led","_law_web","_law_one","_law_text_here","_law_turned"]:List Str).Nodup:=by decide +kernel
def El(F:Fun K "law" "law" (top 35) f fd)(B:ň mg)(C__law_pen:Ď P w K mg base 1 "_law_pen" ["_law_script"] rC)(C__law_draw:Ď P w K mg base 1 "_law_draw" ["_law_pen_here","_law_many"] (spP (CP K) uw))(C__law_pairs:Ď P w K mg base 2 "_law_pairs" ["_law_pen_here","_law_n"] (spP (CP K) HF))(C__law_text:Ď P w K mg base 1 "_law_text" ["_law_n","_law_word","_law_pairs_here"] (spD HD))(C__law_alike:Ď P w K mg base 5 "_law_alike" ["_law_found","_law_due"] (spD (fAl 4)))(C_show_one_way:Ď P w K mg base 3 "show_one_way" ["one"] (spD (BL "lead")))(C_show_web:Ď P w K mg base 3 "show_web" ["web"] (spD (BL "tie")))(C__law_mixed:Ď P w K mg base 3 "_law_mixed" ["_law_pen_here","_law_pairs_here"] (spP (CP K) HN))(C_read_one_way:Ď P w K mg base 7 "read_one_way" ["text"] (spD (fRd "lead" id)))(C_read_web:Ď P w K mg base 7 "read_web" ["text"] (spD (fRd "tie" mmT))):FnOk P w K mg base CX0 8 f fd ["_law_script"] (tG K):=by
 refine F.ok wW (λvs H Q E h=>by obtain⟨a,ns,rfl,_⟩:=h;rfl) (λcdv A outer s H vs Q E hr h=>?_)
 obtain⟨sc,ns,rfl,hS,q⟩:=h
 have nd:=wW.nd
 refine⟨_,(ś (cR (i:=1) nd rfl zQ (pcS C__law_pen hr (aX (pv 0) bZ) (by decide) rfl (by decide) rfl rfl)) (ā (Ò (Ć (some 0) (i:=2) nd rfl zQ (ń Â))
  (Ò (Wr.gw ş rfl (Wr.cO B.range (À Ø Â)) (ï (i:=3) nd rfl zQ) (Ò (Ć none (i:=4) nd rfl zQ (Ē (ń (À (ŵ Ø (Ŷ C__law_draw hr (ŝ 1) (À Ø Â))) (À Ø (À (ŵ Ø (Ŷ C__law_draw hr (ŝ 1) (À Ø Â))) Â)))) (Ŷ C__law_draw hr (ŝ 1) (À Ø Â))))
  (Ò (Ć none (i:=5) nd rfl zQ (Wr.cJ B.sorted (À (ŕ ["_law_a","_law_b"] rfl (ō (Ŷ C__law_pairs hr (ŝ 1) (À (É 4) Â))) (λc=>(Wr.gA (n:=2) rfl (ģ (ï (i:=0) gY rfl zQ) (ģ (ï (i:=1) gY rfl zQ) Wr.cG)))) (λc=>ī) (λc=>(ĵ (À (Wr.oE rfl B.min (À (É 0) (À (É 1) Â))) (À (Wr.oG rfl B.max (À (É 0) (À (É 1) Â))) Â))))) Â)))
  (Ò (Ć none (i:=6) nd rfl zQ (Wr.cJ B.sorted (À (Ŷ C__law_pairs hr (ŝ 1) (À (É 4) Â)) Â)))
  (Ò (Ć none (i:=7) nd rfl zQ (ĵ (À (É 4) (À (Wr.cU B.tuple (À (É 5) Â)) Â))))
  (Ò (Ć none (i:=8) nd rfl zQ (ĵ (À (É 4) (À (Wr.cU B.tuple (À (É 6) Â)) Â))))
  (Ò (Ć none (i:=9) nd rfl zQ (Ě C__law_text hr (À (É 4) (À þ (À (É 5) Â)))))
  (Ò (ĝ (Wr.wpt (Ŧ (ĕ (ą (Ě C__law_alike hr (À (Ě C_show_web hr (À (É 7) Â)) (À (É 9) Â))))) (Ř (ĕ (ą (Ě C__law_alike hr (À (Ě C_show_one_way hr (À (É 8) Â)) (À (Ě C__law_text hr (À (É 4) (À þ (À (É 6) Â)))) Â)))))))) (à (å ũ)) ô)
  (Ò (Ć none (i:=10) nd rfl zQ (Ě C__law_text hr (À (É 4) (À þ (À (ŕ ["_law_a","_law_b"] rfl (ō (Ŷ C__law_mixed hr (ŝ 1) (À (É 5) Â))) (λc=>(Wr.gA (n:=2) rfl (ģ (ï (i:=0) gY rfl zQ) (ģ (ï (i:=1) gY rfl zQ) Wr.cG)))) (λc=>ī) (λc=>(Ē (ń (À (ĵ (À (É 0) (À (É 1) Â))) (À (ĵ (À (É 1) (À (É 0) Â))) Â))) (Ŷ C__law_draw hr (ŝ 3) (À Ø Â))))) Â)))))
  (Ò (Wr.bU (ŝ 2) (À (ń (À (É 9) (À (É 7) Â))) Â))
  (Ò (Wr.bU (ŝ 2) (À (ń (À (É 10) (À (É 7) Â))) Â))
  (Ò (ĝ (ĕ (ą (Ě C__law_alike hr (À (Ě C_read_one_way hr (À (Ě C__law_text hr (À (É 4) (À þ (À (É 6) Â)))) Â)) (À (É 8) Â))))) (à (å ũ)) ô)
  (Ò (ĝ (ĕ (ą (Ě C__law_alike hr (À (Ě C_read_one_way hr (À (Ě C__law_text hr (À (É 4) (À þ (À (Ŷ C__law_mixed hr (ŝ 1) (À (É 6) Â)) Â)))) Â)) (À (É 8) Â))))) (à (å ũ)) ô) (Ś [3,4,5,6,7,8,9,10] ô))))))))))))))
  (Ś [3,4,5,6,7,8,9,10] (Wr.sJ 2 (Ò (Wr.gw ş rfl (ō (ŵ (É 2) (Wr.qj (É 2) Wr.cY (Wr.cX Ø)))) (Wr.sS (n:=2) rfl (ģ (ï (i:=9) nd rfl zQ) (ģ (ï (i:=7) nd rfl zQ) Wr.cG))) (Ò (ĝ (Wr.wpt (Ŧ (ĕ (ą (Ě C__law_alike hr (À (Ě C_read_web hr (À (É 9) Â)) (À (É 7) Â))))) (Ř (Wr.cT hr.units (Ě C_show_web hr (À (Ě C_read_web hr (À (É 9) Â)) Â)) (Ě C__law_text hr (À (Ē (É 7) Ø) (À þ (À (Ē (É 7) Ø) Â)))))))) (à (å ũ)) ô) (Ś [7,9] ô)))
  (Ś [7,9] (à (å ũ)))))))))),Fy hS q (by decide) ?_⟩
 refine⟨zK,⟨by decide,by decide⟩,rfl,λ(i:Nat) ρ=>∃L:List Ent,ρ=[.any,.pen (CP K),.dw 0 (.list (L.map Ent.D)),.any,.any,.any,.any,.any,.any,.any,.any]/\L.length=2 * i/\∀e∈L,EntOk e,⟨[],rfl,rfl,λe he=>nomatch he⟩,?_,?_⟩
 ·rintro i d ρ hd ⟨L,rfl,lL,okL⟩
  obtain⟨hi,rfl⟩:=iT hd
  have hi:i<2:=hi
  refine⟨rfl,8,rfl,by decide,by decide,λr1 a0 a1=>⟨rfl,8,rfl,by decide,by decide,λr2 b0 b1=>⟨zK,rfl,3,rfl,by decide,by decide,λr3 c0 c1=>?_⟩⟩⟩
  obtain⟨n,hn,n1,n16⟩:∃n:Int,atI [Þ (1+r1),.int 16,.int (9+r2)] r3=some (.int n)/\1<=n/\n<=16:=by
   have:r3=0\/r3=1\/r3=2:=by omega
   rcases this with rfl|rfl|rfl
   ·exact⟨_,rfl,by omega,by omega⟩
   ·exact⟨_,rfl,by omega,by omega⟩
   ·exact⟨_,rfl,by omega,by omega⟩
  refine⟨.int n,hn,?_⟩
  refine⟨rfl,n,rfl,n1,n16,λts0 lt0 ok0=>?_⟩
  refine lA ts0 pD (λt=>pD (mmT t)) .imm rfl (by omega) (λt ht A B hA=>⟨rfl,cW λs0 s1 e0 e1=>?_⟩) ?_
  ·have e0:s0=.im (.int t.1):=e0
   have e1:s1=.im (.int t.2):=e1
   subst e0 e1
   exact aU (B:=B) ⟨zK,rfl,hA⟩
  refine⟨ts0.map mmT,.inl (by rw[Č];rfl),by rw[Ã];omega,jH (yE ok0) n16,λts hp hs=>?_⟩
  have okt:=gU (yE ok0) hp
  have ltt:ts.length<=40:=by rw[hp.length_eq,Ã];exact lt0
  have lts:∀t∈ts,t.1<t.2:=λt ht=>Ho ok0 t (hp.mem_iff.mp ht)
  refine⟨rfl,n,rfl,n1,n16,λled0 ld0 okd0=>⟨led0,.inl rfl,by omega,jH okd0 n16,λled hpl hsl=>?_⟩⟩
  have okl:=gU okd0 hpl
  have ltl:led.length<=40:=by rw[hpl.length_eq];exact ld0
  show lJ _ _ _ [.any,.pen (CP K),.dw 0 (.list (L.map Ent.D)),.im (.int (0+((i:Nat):Int))),.im (.int n),.sn (.list (ts.map pD)),.sn (.list (led.map pD)),.any,.any,.any,.any]
  refine⟨zK,?_⟩
  show vJ 7 none (λ_ Q=>Q _ (aR n ts)) _ [.any,.pen (CP K),.dw 0 (.list (L.map Ent.D)),.im (.int (0+((i:Nat):Int))),.im (.int n),.sn (.list (ts.map pD)),.sn (.list (led.map pD)),.any,.any,.any,.any]
  refine zU (wO (cF n ts)) ?_
  show lJ _ _ _ [.any,.pen (CP K),.dw 0 (.list (L.map Ent.D)),.im (.int (0+((i:Nat):Int))),.im (.int n),.sn (.list (ts.map pD)),.sn (.list (led.map pD)),.im (aR n ts),.any,.any,.any]
  refine⟨zK,?_⟩
  show vJ 8 none (λ_ Q=>Q _ (aR n led)) _ [.any,.pen (CP K),.dw 0 (.list (L.map Ent.D)),.im (.int (0+((i:Nat):Int))),.im (.int n),.sn (.list (ts.map pD)),.sn (.list (led.map pD)),.im (aR n ts),.any,.any,.any]
  refine zU (wO (cF n led)) ?_
  show lJ _ _ _ [.any,.pen (CP K),.dw 0 (.list (L.map Ent.D)),.im (.int (0+((i:Nat):Int))),.im (.int n),.sn (.list (ts.map pD)),.sn (.list (led.map pD)),.im (aR n ts),.im (aR n led),.any,.any]
  have rgt:=mQ okt n16
  have rgl:=mQ okl n16
  refine⟨n,"tie",.list (ts.map pD),ts,rfl,.inl rfl,by decide,by omega,n16,ltt,rgt,?_⟩
  show lJ _ _ _ [.any,.pen (CP K),.dw 0 (.list (L.map Ent.D)),.im (.int (0+((i:Nat):Int))),.im (.int n),.sn (.list (ts.map pD)),.sn (.list (led.map pD)),.im (aR n ts),.im (aR n led),.im (.str (aN n "tie" ts)),.any]
  refine⟨n,ts,rfl,by omega,n16,ltt,rgt,.str (aN n "tie" ts),rfl,yQ _,aC (A:=True) ?_⟩
  refine⟨n,led,rfl,by omega,n16,ltl,rgl,n,"lead",.list (led.map pD),led,rfl,.inl rfl,by decide,by omega,n16,ltl,rgl,.str (aN n "lead" led),rfl,yQ _,aC (A:=True) ?_⟩
  show lJ _ _ _ [.any,.pen (CP K),.dw 0 (.list (L.map Ent.D)),.im (.int (0+((i:Nat):Int))),.im (.int n),.sn (.list (ts.map pD)),.sn (.list (led.map pD)),.im (aR n ts),.im (aR n led),.im (.str (aN n "tie" ts)),.any]
  refine⟨rfl,ts,rfl,ltt,λus hpu=>?_⟩
  have oku:=gU okt hpu
  have ltu:us.length<=40:=by rw[hpu.length_eq];exact ltt
  refine⟨by rw[Ã];omega,.imm,λj ys=>∃vs:List Tie,ys=vs.map pD/\vs.length=j/\OkN n vs/\vs.map mmT=(us.take j).map mmT,⟨[],rfl,rfl,λt ht=>(nomatch ht),rfl⟩,?_,?_⟩
  ·rintro j d ys hd ⟨vs,rfl,lv,okv,ev⟩
   obtain⟨t,ht,rfl⟩:=ud hd
   have ot:=oku t (Ù ht)
   refine⟨rfl,cW λs0 s1 e0 e1=>?_⟩
   have e0:s0=.im (.int t.1):=e0
   have e1:s1=.im (.int t.2):=e1
   subst e0 e1
   have tk:(us.take (j+1)).map mmT=(us.take j).map mmT++[mmT t]:=by rw[Ÿ,ht,ď];rfl
   refine aU (B:=True) ⟨zK,zK,zK,rfl,2,rfl,by decide,by decide,λr r0 r1=>?_⟩
   have:r=0\/r=1:=by omega
   rcases this with rfl|rfl
   ·refine⟨pD t,rfl,rfl,vs++[t],?_,by rw[Ü,lv];rfl,λu hu=>?_,?_⟩
    ·rw[ď]
     rfl
    ·rcases õ.mp hu with z|z
     ·exact okv u z
     ·rw[Ĵ.mp z]
      exact ot
    ·rw[ď,ev,tk]
     rfl
   ·refine⟨pD (t.2,t.1),rfl,rfl,vs++[(t.2,t.1)],?_,by rw[Ü,lv];rfl,λu hu=>?_,?_⟩
    ·rw[ď]
     rfl
    ·rcases õ.mp hu with z|z
     ·exact okv u z
     ·rw[Ĵ.mp z]
      exact⟨ot.2.1,ot.1,λz=>ot.2.2 z.symm⟩
    ·rw[ď,ev,tk]
     congr 1
     show [mmT (t.2,t.1)]=[mmT t]
     have:=ot.2.2
     unfold mmT
     dsimp only
     congr 2 <;> (split <;> split <;> omega)
  rintro ys ⟨vs,rfl,lv,okv,ev⟩
  rw[Ã] at lv ev
  rw[Ž] at ev
  refine⟨n,"tie",.list (vs.map pD),vs,rfl,.inl rfl,by decide,by omega,n16,by omega,mQ okv n16,?_⟩
  have e1:EntOk ⟨n,ts,ts⟩:=⟨n1,n16,ltt,okt,by rw[Cy lts],hs⟩
  have e2:EntOk ⟨n,vs,ts⟩:=⟨n1,n16,by show vs.length<=40;omega,okv,by
   show ts.Perm (vs.map mmT)
   rw[ev]
   have:=hpu.symm.map mmT
   rwa [Cy lts] at this,hs⟩
  show lJ _ _ _ [.any,.pen (CP K),.dw 0 (.list (L.map Ent.D)),.im (.int (0+((i:Nat):Int))),.im (.int n),.sn (.list (ts.map pD)),.sn (.list (led.map pD)),.im (aR n ts),.im (aR n led),.im (.str (aN n "tie" ts)),.im (.str (aN n "tie" vs))]
  refine⟨zK,rfl,by rw[Ã];omega,?_⟩
  show lJ _ _ _ [.any,.pen (CP K),.dw 0 (.list (L.map Ent.D++[Ent.D ⟨n,ts,ts⟩])),.im (.int (0+((i:Nat):Int))),.im (.int n),.sn (.list (ts.map pD)),.sn (.list (led.map pD)),.im (aR n ts),.im (aR n led),.im (.str (aN n "tie" ts)),.im (.str (aN n "tie" vs))]
  refine⟨zK,rfl,by rw[Ü,Ã];show L.length+1<1000;omega,?_⟩
  show lJ _ _ _ [.any,.pen (CP K),.dw 0 (.list ((L.map Ent.D++[Ent.D ⟨n,ts,ts⟩])++[Ent.D ⟨n,vs,ts⟩])),.im (.int (0+((i:Nat):Int))),.im (.int n),.sn (.list (ts.map pD)),.sn (.list (led.map pD)),.im (aR n ts),.im (aR n led),.im (.str (aN n "tie" ts)),.im (.str (aN n "tie" vs))]
  refine⟨n,"lead",.list (led.map pD),led,rfl,.inl rfl,by decide,by omega,n16,ltl,rgl,n,led,rfl,n1,n16,ltl,okl,λxs hx hsx=>?_⟩
  have ex:xs=led:=jA okl n16 (by rwa [List.map_id] at hx) (ŧ _) hsx hsl
  subst ex
  refine⟨aR n xs,rfl,su ltl,aC (A:=True) ?_⟩
  refine⟨rfl,xs,rfl,ltl,λus2 hp2=>?_⟩
  have ok2:=gU okl hp2
  have lt2:us2.length<=40:=by rw[hp2.length_eq];exact ltl
  refine⟨n,"lead",.list (us2.map pD),us2,rfl,.inl rfl,by decide,by omega,n16,lt2,mQ ok2 n16,n,us2,rfl,n1,n16,lt2,ok2,λys hy hsy=>?_⟩
  have ey:ys=xs:=jA okl n16 (by rw[List.map_id] at hy;exact hy.trans hp2) (ŧ _) hsy hsl
  subst ey
  refine⟨aR n ys,rfl,su ltl,aC (A:=True) ⟨L++[⟨n,ts,ts⟩,⟨n,vs,ts⟩],?_,?_,λe he=>?_⟩⟩
  ·show([.any,.pen (CP K),.dw 0 (.list ((L.map Ent.D++[Ent.D ⟨n,ts,ts⟩])++[Ent.D ⟨n,vs,ts⟩])),.any,.any,.any,.any,.any,.any,.any,.any]:List Sl)=_
   rw[ď,Ŀ]
   rfl
  ·rw[Ü,lL]
   show 2 * i+2=2 * (i+1)
   omega
  ·rcases õ.mp he with z|z
   ·exact okL e z
   ·simp only[Ï,æ,or_false] at z
    rcases z with rfl|rfl
    ·exact e1
    ·exact e2
 ·rintro ρ ⟨L,rfl,lL,okL⟩
  have lL:L.length=4:=lL
  have ct:dI (L.map Ent.D) none (some 2)=(L.take 2).map Ent.D:=by
   rw[vL (L.map Ent.D) (m:=2) (by decide) (by rw[Ã];omega),List.map_take]
   rfl
  refine⟨rfl,?_⟩
  show _\/_
  refine .inr ⟨by rw[ct,Ã,Ã,ņ];omega,.inr ?_⟩
  rw[ct,←ď]
  refine BK (L++L.take 2) Ent.D (λρ=>ρ=[.any,.pen (CP K),.sn (.list (L.map Ent.D)),.any,.any,.any,.any,.any,.any,.any,.any]) rfl rfl rfl ?_ ?_
  ·rintro e he ρ rfl
   have ok:EntOk e:=okL e ((õ.mp he).elim id List.mem_of_mem_take)
   refine⟨rfl,cW λs9 s7 h9 h7=>?_⟩
   have h9:s9=.im (.str (aN e.n "tie" e.us)):=h9
   have h7:s7=.im (aR e.n e.ts):=by rw[h7,bD (cF e.n e.ts)];rfl
   subst h9 h7
   have okt:OkN e.n e.ts:=gU (yE ok.ok) ok.pm
   have ltt:e.ts.length<=40:=by rw[ok.pm.length_eq,Ã];exact ok.lu
   have n1:=ok.n1
   refine⟨e.n,e.us,rfl,ok.n1,ok.n16,ok.lu,ok.ok,λvs hv hs=>?_⟩
   have ev:vs=e.ts:=jA okt ok.n16 (hv.trans ok.pm.symm) (ŧ _) hs ok.so
   subst ev
   refine⟨aR e.n e.ts,rfl,su ltt,aC (A:=True) ?_⟩
   refine⟨e.n,e.us,rfl,ok.n1,ok.n16,ok.lu,ok.ok,λvs hv hs=>?_⟩
   have ev:vs=e.ts:=jA okt ok.n16 (hv.trans ok.pm.symm) (ŧ _) hs ok.so
   subst ev
   refine⟨e.n,e.ts,rfl,by omega,ok.n16,ltt,mQ okt ok.n16,.int e.n,rfl,.tuple (e.ts.map pD),rfl,e.n,"tie",.tuple (e.ts.map pD),e.ts,rfl,.inr rfl,by decide,by omega,ok.n16,ltt,mQ okt ok.n16,?_⟩
   show if (!decide (aN e.n "tie" e.ts=aN e.n "tie" e.ts))=true then _ else _
   rw[decide_eq_true rfl]
   exact aC (A:=True) rfl
  ·rintro ρ rfl
   exact⟨rfl,rfl⟩
end
def len1{α:Type}:∀us:List α,us.length=1->∃a,us=[a]
 |[a],_=>⟨a,rfl⟩
def len2{α:Type}:∀us:List α,us.length=2->∃a b,us=[a,b]
 |[a,b],_=>⟨a,b,rfl⟩
def Jh{α:Type}:∀us:List α,us.length=3->∃a b c,us=[a,b,c]
 |[a,b,c],_=>⟨a,b,c,rfl⟩
def aB{K:Í}{f:Addr}{oc:Value}{od:Option Addr}{fd:FuncData}{sl:Array (Option Value)}(l:K.lookup f=some ⟨oc,od,.func fd,sl⟩):ŷ K (.ref f)=true:=by
 unfold ŷ
 simp only[l]
def aH{P:Program}{w:World}{K:Í}{mg:Str->Option Value}{base:Heap}{k:Nat}{x:Str}{st:Stmt}{f:Addr}{fd:FuncData}{ps:List Str}{sp:Sp}(F:Fun K x x st f fd)(b:Binds K fd ps [])(m:mg x=some (.ref f))(h:FnOk P w K mg base CX0 k f fd ps sp) :
  Ď P w K mg base k x ps sp:=⟨f,fd,h,b,F.kp,m⟩
abbrev zl(K:Í)(f:Addr)(x:Str)(st:Stmt)(oc:Value)(od:Option Addr)(kV dc pm:Value)(an:Option Addr)(cd ct:Value)(sl:Array (Option Value)):Prop:=K.lookup f=some ⟨oc,od,.func (W.fnOf x x (fL st) (cZ st) (aq st) .none kV dc pm an cd ct),sl⟩
abbrev za(K:Í)(x:Str)(f:Addr):Prop:=W.nsIn K mainGlobals x=some (some (.ref f))
abbrev zc(K:Í)(x:Str)(cd:Value):Prop:=W.codeIn K cd x=true
abbrev zn(K:Í)(x:Str):Prop:=W.nsIn K mainGlobals x=some none
def all_mk{l:W.OpenLaw}{w:World}{K:Í}{h:Heap}{mg:Str->Option Value}{fa f0 f1 f2 f3 f4 f5 f6 f7 f8 f9 f10 f11 f12 f13 f14 f15 f16 f17 f18 f19 f20 f21 f22 f23:Addr}(X:K.In h)(G:h.Ns mainGlobals mg)(hfa:mg "law"=some (.ref fa)){od0 an0 od1 an1 od2 an2 od3 an3 od4 an4 od5 an5 od6 an6 od7 an7 od8 an8 od9 an9 od10 an10 od11 an11 od12 an12 od13 an13 od14 an14 od15 an15 od16 an16 od17 an17 od18 an18 od19 an19 od20 an20 od21 an21 od22 an22 od23 an23:Option Addr}{sl0 sl1 sl2 sl3 sl4 sl5 sl6 sl7 sl8 sl9 sl10 sl11 sl12 sl13 sl14 sl15 sl16 sl17 sl18 sl19 sl20 sl21 sl22 sl23:Array (Option Value)}{oc0 kV0 dc0 pm0 cd0 ct0 oc1 kV1 dc1 pm1 cd1 ct1 oc2 kV2 dc2 pm2 cd2 ct2 oc3 kV3 dc3 pm3 cd3 ct3 oc4 kV4 dc4 pm4 cd4 ct4 oc5 kV5 dc5 pm5 cd5 ct5 oc6 kV6 dc6 pm6 cd6 ct6 oc7 kV7 dc7 pm7 cd7 ct7 oc8 kV8 dc8 pm8 cd8 ct8 oc9 kV9 dc9 pm9 cd9 ct9 oc10 kV10 dc10 pm10 cd10 ct10 oc11 kV11 dc11 pm11 cd11 ct11 oc12 kV12 dc12 pm12 cd12 ct12 oc13 kV13 dc13 pm13 cd13 ct13 oc14 kV14 dc14 pm14 cd14 ct14 oc15 kV15 dc15 pm15 cd15 ct15 oc16 kV16 dc16 pm16 cd16 ct16 oc17 kV17 dc17 pm17 cd17 ct17 oc18 kV18 dc18 pm18 cd18 ct18 oc19 kV19 dc19 pm19 cd19 ct19 oc20 kV20 dc20 pm20 cd20 ct20 oc21 kV21 dc21 pm21 cd21 ct21 oc22 kV22 dc22 pm22 cd22 ct22 oc23 kV23 dc23 pm23 cd23 ct23:Value}{tk_MOST_PLACES tk_MOST_TIES tk_FIGURES tk_MOST_FIGURES:Tok}(a0:za K "is_whole" f0)(l0:zl K f0 "is_whole" (top 7) oc0 od0 kV0 dc0 pm0 an0 cd0 ct0 sl0)(c0:zc K "is_whole" cd0)(a1:za K "is_below" f1)(l1:zl K f1 "is_below" (top 8) oc1 od1 kV1 dc1 pm1 an1 cd1 ct1 sl1)(c1:zc K "is_below" cd1)(a2:za K "is_tie" f2)(l2:zl K f2 "is_tie" (top 9) oc2 od2 kV2 dc2 pm2 an2 cd2 ct2 sl2)(c2:zc K "is_tie" cd2)(a3:za K "makes_web" f3)(l3:zl K f3 "makes_web" (top 10) oc3 od3 kV3 dc3 pm3 an3 cd3 ct3 sl3)(c3:zc K "makes_web" cd3)(a4:za K "check_makes_web" f4)(l4:zl K f4 "check_makes_web" (top 11) oc4 od4 kV4 dc4 pm4 an4 cd4 ct4 sl4)(c4:zc K "check_makes_web" cd4)(a5:za K "web_of" f5)(l5:zl K f5 "web_of" (top 12) oc5 od5 kV5 dc5 pm5 an5 cd5 ct5 sl5)(c5:zc K "web_of" cd5)(a6:za K "one_way_of" f6)(l6:zl K f6 "one_way_of" (top 13) oc6 od6 kV6 dc6 pm6 an6 cd6 ct6 sl6)(c6:zc K "one_way_of" cd6)(a7:za K "is_written" f7)(l7:zl K f7 "is_written" (top 17) oc7 od7 kV7 dc7 pm7 an7 cd7 ct7 sl7)(c7:zc K "is_written" cd7)(a8:za K "numbers_of" f8)(l8:zl K f8 "numbers_of" (top 18) oc8 od8 kV8 dc8 pm8 an8 cd8 ct8 sl8)(c8:zc K "numbers_of" cd8)(a9:za K "rows_of" f9)(l9:zl K f9 "rows_of" (top 19) oc9 od9 kV9 dc9 pm9 an9 cd9 ct9 sl9)(c9:zc K "rows_of" cd9)(a10:za K "read_web" f10)(l10:zl K f10 "read_web" (top 20) oc10 od10 kV10 dc10 pm10 an10 cd10 ct10 sl10)(c10:zc K "read_web" cd10)(a11:za K "read_one_way" f11)(l11:zl K f11 "read_one_way" (top 21) oc11 od11 kV11 dc11 pm11 an11 cd11 ct11 sl11)(c11:zc K "read_one_way" cd11)(a12:za K "tie_line" f12)(l12:zl K f12 "tie_line" (top 23) oc12 od12 kV12 dc12 pm12 an12 cd12 ct12 sl12)(c12:zc K "tie_line" cd12)(a13:za K "written" f13)(l13:zl K f13 "written" (top 24) oc13 od13 kV13 dc13 pm13 an13 cd13 ct13 sl13)(c13:zc K "written" cd13)(a14:za K "show_web" f14)(l14:zl K f14 "show_web" (top 25) oc14 od14 kV14 dc14 pm14 an14 cd14 ct14 sl14)(c14:zc K "show_web" cd14)(a15:za K "show_one_way" f15)(l15:zl K f15 "show_one_way" (top 26) oc15 od15 kV15 dc15 pm15 an15 cd15 ct15 sl15)(c15:zc K "show_one_way" cd15)(a16:za K "_law_pen" f16)(l16:zl K f16 "_law_pen" (top 28) oc16 od16 kV16 dc16 pm16 an16 cd16 ct16 sl16)(c16:zc K "_law_pen" cd16)(a17:za K "_law_draw" f17)(l17:zl K f17 "_law_draw" (top 29) oc17 od17 kV17 dc17 pm17 an17 cd17 ct17 sl17)(c17:zc K "_law_draw" cd17)(a18:za K "_law_order" f18)(l18:zl K f18 "_law_order" (top 30) oc18 od18 kV18 dc18 pm18 an18 cd18 ct18 sl18)(c18:zc K "_law_order" cd18)(a19:za K "_law_alike" f19)(l19:zl K f19 "_law_alike" (top 31) oc19 od19 kV19 dc19 pm19 an19 cd19 ct19 sl19)(c19:zc K "_law_alike" cd19)(a20:za K "_law_pairs" f20)(l20:zl K f20 "_law_pairs" (top 32) oc20 od20 kV20 dc20 pm20 an20 cd20 ct20 sl20)(c20:zc K "_law_pairs" cd20)(a21:za K "_law_text" f21)(l21:zl K f21 "_law_text" (top 33) oc21 od21 kV21 dc21 pm21 an21 cd21 ct21 sl21)(c21:zc K "_law_text" cd21)(a22:za K "_law_mixed" f22)(l22:zl K f22 "_law_mixed" (top 34) oc22 od22 kV22 dc22 pm22 an22 cd22 ct22 sl22)(c22:zc K "_law_mixed" cd22)(a23:za K "law" f23)(l23:zl K f23 "law" (top 35) oc23 od23 kV23 dc23 pm23 an23 cd23 ct23 sl23)(c23:zc K "law" cd23)(g_MOST_PLACES:W.nsIn K mainGlobals "MOST_PLACES"=some (some (.int 16 tk_MOST_PLACES)))(g_MOST_TIES:W.nsIn K mainGlobals "MOST_TIES"=some (some (.int 40 tk_MOST_TIES)))(g_FIGURES:W.nsIn K mainGlobals "FIGURES"=some (some (.str "0123456789" tk_FIGURES)))(g_MOST_FIGURES:W.nsIn K mainGlobals "MOST_FIGURES"=some (some (.int 2 tk_MOST_FIGURES)))(z0:zn K "isinstance")(z1:zn K "int")(z2:zn K "bool")(z3:zn K "tuple")(z4:zn K "list")(z5:zn K "len")(z6:zn K "all")(z7:zn K "min")(z8:zn K "max")(z9:zn K "sorted")(z10:zn K "range")(z11:zn K "abs")(z12:zn K "str")(z13:zn K "enumerate")(z14:zn K "zip")
  :
  ∃fd:FuncData,(∀(s:Shared) (v:Value),BindsTo s fd ⟨[v],[]⟩ [("_law_script",v)])/\∀base:Heap,K.In base->base.Ns mainGlobals mg->FnOk l.prog w K mg base CX0 8 fa fd ["_law_script"] (tG K):=by
 have e:=hfa.symm.trans (ü X G a23)
 cases e
 have F0:=Ī (st:=top 7) l0 c0 (aB l0)
 have b0:=F0.binds (ps:=["thing"])
 have m0:=ü X G a0
 have F1:=Ī (st:=top 8) l1 c1 (aB l1)
 have b1:=F1.binds (ps:=["limit","thing"])
 have m1:=ü X G a1
 have F2:=Ī (st:=top 9) l2 c2 (aB l2)
 have b2:=F2.binds (ps:=["n","thing"])
 have m2:=ü X G a2
 have F3:=Ī (st:=top 10) l3 c3 (aB l3)
 have b3:=F3.binds (ps:=["n","ties"])
 have m3:=ü X G a3
 have F4:=Ī (st:=top 11) l4 c4 (aB l4)
 have b4:=F4.binds (ps:=["n","ties"])
 have m4:=ü X G a4
 have F5:=Ī (st:=top 12) l5 c5 (aB l5)
 have b5:=F5.binds (ps:=["n","ties"])
 have m5:=ü X G a5
 have F6:=Ī (st:=top 13) l6 c6 (aB l6)
 have b6:=F6.binds (ps:=["n","ties"])
 have m6:=ü X G a6
 have F7:=Ī (st:=top 17) l7 c7 (aB l7)
 have b7:=F7.binds (ps:=["word","most"])
 have m7:=ü X G a7
 have F8:=Ī (st:=top 18) l8 c8 (aB l8)
 have b8:=F8.binds (ps:=["line","word","count"])
 have m8:=ü X G a8
 have F9:=Ī (st:=top 19) l9 c9 (aB l9)
 have b9:=F9.binds (ps:=["text","word"])
 have m9:=ü X G a9
 have F10:=Ī (st:=top 20) l10 c10 (aB l10)
 have b10:=F10.binds (ps:=["text"])
 have m10:=ü X G a10
 have F11:=Ī (st:=top 21) l11 c11 (aB l11)
 have b11:=F11.binds (ps:=["text"])
 have m11:=ü X G a11
 have F12:=Ī (st:=top 23) l12 c12 (aB l12)
 have b12:=F12.binds (ps:=["word","tie"])
 have m12:=ü X G a12
 have F13:=Ī (st:=top 24) l13 c13 (aB l13)
 have b13:=F13.binds (ps:=["web","word"])
 have m13:=ü X G a13
 have F14:=Ī (st:=top 25) l14 c14 (aB l14)
 have b14:=F14.binds (ps:=["web"])
 have m14:=ü X G a14
 have F15:=Ī (st:=top 26) l15 c15 (aB l15)
 have b15:=F15.binds (ps:=["one"])
 have m15:=ü X G a15
 have F16:=Ī (st:=top 28) l16 c16 (aB l16)
 have b16:=F16.binds (ps:=["_law_script"])
 have m16:=ü X G a16
 have F17:=Ī (st:=top 29) l17 c17 (aB l17)
 have b17:=F17.binds (ps:=["_law_pen_here","_law_many"])
 have m17:=ü X G a17
 have F18:=Ī (st:=top 30) l18 c18 (aB l18)
 have b18:=F18.binds (ps:=["_law_pen_here","_law_n"])
 have m18:=ü X G a18
 have F19:=Ī (st:=top 31) l19 c19 (aB l19)
 have b19:=F19.binds (ps:=["_law_found","_law_due"])
 have m19:=ü X G a19
 have F20:=Ī (st:=top 32) l20 c20 (aB l20)
 have b20:=F20.binds (ps:=["_law_pen_here","_law_n"])
 have m20:=ü X G a20
 have F21:=Ī (st:=top 33) l21 c21 (aB l21)
 have b21:=F21.binds (ps:=["_law_n","_law_word","_law_pairs_here"])
 have m21:=ü X G a21
 have F22:=Ī (st:=top 34) l22 c22 (aB l22)
 have b22:=F22.binds (ps:=["_law_pen_here","_law_pairs_here"])
 have m22:=ü X G a22
 have F23:=Ī (st:=top 35) l23 c23 (aB l23)
 have B:ň mg:=⟨û X G z0,û X G z1,û X G z2,û X G z3,û X G z4,û X G z5,û X G z6,û X G z7,û X G z8,û X G z9,û X G z10,û X G z11⟩
 have N12:=û X G z12
 have N13:=û X G z13
 have N14:=û X G z14
 refine⟨W.fnOf "law" "law" (fL (top 35)) (cZ (top 35)) (aq (top 35)) .none kV23 dc23 pm23 an23 cd23 ct23,λs v=>.of_eq rfl,λbase _ _=>?_⟩
 have C0:=aH F0 b0 m0 (yq (P:=l.prog) (w:=w) (base:=base) F0 B)
 have C1:=aH F1 b1 m1 (yt (P:=l.prog) (w:=w) (base:=base) F1 C0)
 have C2:=aH F2 b2 m2 (uY (P:=l.prog) (w:=w) (base:=base) F2 B C1)
 have C3:=aH F3 b3 m3 (oO (P:=l.prog) (w:=w) (base:=base) F3 B (ü X G g_MOST_PLACES) (ü X G g_MOST_TIES) C0 C2)
 have C4:=aH F4 b4 m4 (fZ (P:=l.prog) (w:=w) (base:=base) F4 B C3)
 have C5:=aH F5 b5 m5 (uX (P:=l.prog) (w:=w) (base:=base) F5 B C4)
 have C6:=aH F6 b6 m6 (lX (P:=l.prog) (w:=w) (base:=base) F6 B C4)
 have C7:=aH F7 b7 m7 (lZ (P:=l.prog) (w:=w) (base:=base) F7 B (ü X G g_FIGURES))
 have C8:=aH F8 b8 m8 (lY (P:=l.prog) (w:=w) (base:=base) F8 B (ü X G g_MOST_FIGURES) C7)
 have C9:=aH F9 b9 m9 (rQ (P:=l.prog) (w:=w) (base:=base) F9 B N12 N13 C8)
 have C10:=aH F10 b10 m10 (qu (P:=l.prog) (w:=w) (base:=base) F10 B C9 C5)
 have C11:=aH F11 b11 m11 (jo (P:=l.prog) (w:=w) (base:=base) F11 B C9 C6)
 have C12:=aH F12 b12 m12 (qp (P:=l.prog) (w:=w) (base:=base) F12 B)
 have C13:=aH F13 b13 m13 (rP (P:=l.prog) (w:=w) (base:=base) F13 B C12)
 have C14:=aH F14 b14 m14 (qt (P:=l.prog) (w:=w) (base:=base) F14 B C13)
 have C15:=aH F15 b15 m15 (jm (P:=l.prog) (w:=w) (base:=base) F15 B C13)
 have C16:=aH F16 b16 m16 (Ek (P:=l.prog) (w:=w) (base:=base) F16 )
 have C17:=aH F17 b17 m17 (Bk (P:=l.prog) (w:=w) (base:=base) F17 B)
 have C18:=aH F18 b18 m18 (yr (P:=l.prog) (w:=w) (base:=base) F18 B C17)
 have C19:=aH F19 b19 m19 (u0 (P:=l.prog) (w:=w) (base:=base) F19 B N14 N12 b19 m19)
 have C20:=aH F20 b20 m20 (oR (P:=l.prog) (w:=w) (base:=base) F20 B C17)
 have C21:=aH F21 b21 m21 (qw (P:=l.prog) (w:=w) (base:=base) F21 B N12)
 have C22:=aH F22 b22 m22 (oU (P:=l.prog) (w:=w) (base:=base) F22 B C18)
 exact El F23 B C16 C17 C20 C21 C19 C15 C14 C22 C11 C10
def walk{l:W.OpenLaw}{q:Program}{loose:List Str}{XP:(Str->Option Value)->Heap->Prop}{YP:World->Heap->Prop}{d:DefRec}{K:Params->Í}(hn:l.most=some 63)(hdf:d.params.defaults=[])(hY:∀(w:World) (h:Heap),YP w h->(K w.params).In h)(F:∀(w:World) (mg:Str->Option Value) (fa:Addr) (h:Heap),(K w.params).In h->h.Ns mainGlobals mg->mg d.name=some (.ref fa) ->
   ∃fd:FuncData,(∀(s:Shared) (u:Value),BindsTo s fd ⟨[u],[]⟩ [("_law_script",u)])/\∀base:Heap,(K w.params).In base->base.Ns mainGlobals mg->FnOk l.prog w (K w.params) mg base CX0 8 fa fd ["_law_script"] (tG (K w.params))) :
  W.WalkO q loose XP YP l.row.toRowW d [] (λf vs=>PySem.call f vs) :=
 L2.Ah (n:=63) (k:=8) (x:="_law_script") (CX:=λ_=>CX0) (sp:=λw=>tG (K w.params)) hn (by decide) hdf ⟨rfl,by decide,by decide,rfl⟩ hY F (λ_ _ a ns hl hO hS=>⟨a,ns,rfl,hS,λ_=>rfl⟩) λ_ _ _ _ _ z=>z
end Nf
namespace Nf
open PySem PySem.W PyProof.Rows
def mW:List Nat:=[1,2,3,5,6,7,8,9,10,11,12,13,15,16,17,18,19,20,21,23,24,25,26,28,29,30,31,32,33,34,35]
def qD(p:Program)(w:World)(os:OsState):=(uR p 2960 w os).map (λs=>wV p (view p mW) (λs=>xlAt (view p mW) [] s&&recOk [] s) w s.abs)
def goodW(p:Program):=some (true,openGood (view p mW) [])
def frF(fr:Frag)(k:Nat):=some ((fr.map λp=>some p.2).take k)
def frB(fr:Frag)(k:Nat):=some ((fr.map λp=>some p.2).drop k)
def lC(p:Program)(w:World)(os:OsState)(as:List Addr)(k:Nat):=(uR p 2960 w os).map (λs=>(as.map s.abs.heap.get?).take k)
def qT(p:Program)(w:World)(os:OsState)(as:List Addr)(k:Nat):=(uR p 2960 w os).map (λs=>(as.map s.abs.heap.get?).drop k)
def rU:qD=qD:=rfl
def rZ:goodW=goodW:=rfl
def qK:lC=lC:=rfl
def sX:qT=qT:=rfl
end Nf
lay_quick Nf.qD Nf.goodW Nf.lC Nf.qT
name_quick lookQ for Nf.qD by Nf.rU
name_quick goodQ for Nf.goodW by Nf.rZ
name_quick frontQ for Nf.lC by Nf.qK
name_quick backQ for Nf.qT by Nf.sX
set_option maxHeartbeats 0 in
def Nf.Bq(w:PySem.World)(os:PySem.OsState):Nf.qD ß w os=Nf.goodW ß:=by
 rw[PySem.W.Fast.lookQ_eq,PySem.W.Fast.goodQ_eq]
 kernel_rfl
def Nf.well:PySem.Challenge.rw_nofall_k63_webs_as_texts.wellSaid=true:=by kernel_rfl
open PySem PySem.W PyProof.Rows
local macro_rules
 |`(tactic| k_qdec)=>`(tactic| fail)
local macro_rules
 |`(tactic| o_head (kmHook $k $a $e $t))=>`(tactic| o_head (kHook (λP=>List.append (List.map (λa=>(a,PySem.W.tabObj #[])) $t) ($k P)) (List.append $t $a) (λ_=>by kernel_rfl)))
local macro_rules
 |`(tactic| o_head (kHook $k $a $e))=>`(tactic| (
  refine holds_open (q:=view ß Nf.mW) (loose:=[]) (Xt:=λs=>xlAt (view ß Nf.mW) [] s&&recOk [] s) (XP:=XL (view ß Nf.mW) []) (Yf:=Hook.obs (kHook $k $a $e)) (Ya:=Hook.val (kHook $k $a $e)) (YP:=Hook.says (kHook $k $a $e)) (N:=2960) ?hl (Hook.of (kHook $k $a $e)) (Hook.keeps (kHook $k $a $e)) (λs e=>xl_of s (Bool.and_eq_true_iff.mp e).1) XL.keeps (by rfl) (by rfl) (by rfl) (λs e=>recFacts_of (Bool.and_eq_true_iff.mp e).2) (by rfl) (by first|assumption|decide +kernel) (by decide +kernel) ⟨rfl,rfl,rfl,rfl,rfl,by decide +kernel⟩ ?hw ?hc))
set_option maxRecDepth 100000 in
set_option maxHeartbeats 0 in
theorem PySem.Challenge.cw_nofall_k63_webs_as_texts_holds : PySem.Challenge.rw_nofall_k63_webs_as_texts.Holds := by
 w_on;refine PySem.W.holds_law Nf.well λsaid=>?_;k_head
 ·refine Nf.Bv 90 (boot_open (by kernel_rfl) rfl (λs=>by kernel_rfl)) Nf.Bq (λw os=>?_) (λw os=>?_)
  ·show Nf.lC ß w os _ 90=Nf.frF _ 90
   rw[PySem.W.Fast.frontQ_eq]
   kernel_rfl
  ·show Nf.qT ß w os _ 90=Nf.frB _ 90
   rw[PySem.W.Fast.backQ_eq]
   kernel_rfl
 ·w_witness2
 k_fill
 refine Nf.walk (l:=PySem.Challenge.rw_nofall_k63_webs_as_texts) rfl rfl (λw h Y=>PySem.W.kIn_of Y) ?F
 case F =>
  intro w mg fa h KX G hmg
  refine' Nf.all_mk KX G hmg ?a0 ?l0 ?c0 ?a1 ?l1 ?c1 ?a2 ?l2 ?c2 ?a3 ?l3 ?c3 ?a4 ?l4 ?c4 ?a5 ?l5 ?c5 ?a6 ?l6 ?c6 ?a7 ?l7 ?c7 ?a8 ?l8 ?c8 ?a9 ?l9 ?c9 ?a10 ?l10 ?c10 ?a11 ?l11 ?c11 ?a12 ?l12 ?c12 ?a13 ?l13 ?c13 ?a14 ?l14 ?c14 ?a15 ?l15 ?c15 ?a16 ?l16 ?c16 ?a17 ?l17 ?c17 ?a18 ?l18 ?c18 ?a19 ?l19 ?c19 ?a20 ?l20 ?c20 ?a21 ?l21 ?c21 ?a22 ?l22 ?c22 ?a23 ?l23 ?c23 ?g_MOST_PLACES ?g_MOST_TIES ?g_FIGURES ?g_MOST_FIGURES ?z0 ?z1 ?z2 ?z3 ?z4 ?z5 ?z6 ?z7 ?z8 ?z9 ?z10 ?z11 ?z12 ?z13 ?z14
  any_goals (show _=_;k_is)
  all_goals rfl
end
