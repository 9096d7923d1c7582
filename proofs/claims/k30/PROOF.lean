import PyProof.Rows.All
import Wide.All
import OpenK.AllK
import Wide.FinOn
import Lean
import PyProof.EqAt
import PyProof.EqKinds
import PyProof.TupleCall
import PySem.Challenge.RW_nofall_k30_whatever_two_things
set_option genSizeOf false
set_option genSizeOfSpec false
set_option Elab.async false
set_option linter.all false
set_option maxRecDepth 100000
open List renaming mem_cons_self → À,length_map → Á,mem_cons_of_mem → Ä,length_append → Æ,replicate → È,getD_eq_getElem?_getD → Ê,getElem?_eq_getElem → Ì,size_toArray → Ñ,mem_of_getElem? → Ò,mem_cons → Ó,getElem?_eq_some_iff → Ö,length_cons → Ù,range → Û,length_singleton → Ü,mem_map → Ý,map_append → Þ,mem_append_right → â,map_cons → ã,mem_append → ä,getElem?_map → è,getElem?_append_right → ê,mem_singleton → ï,getElem?_append_left → ñ,sum_cons → ò,lookup_cons → ó,map_map → õ,append_nil → ø,length_drop → û,all_eq_true → ü,length_take → ă,take_length → ĉ,mem_filter → Ċ,mem_range → ċ,getElem?_set_self → ē,mem_append_left → Ě,replicate_succ → Ğ,length_replicate → Ģ,map → Ĥ,length_dropLast → ĥ,getElem_mem → Ħ,map_congr_left → Ĭ,mem_replicate → Ĵ,toArray → ĵ,take_add_one → ĺ,getElem?_replicate → Ļ,flatten_cons → ļ,pairwise_cons → Ń,find?_cons → Ŋ,length_range → Ō,getElem?_set_ne → ō,map_drop → Ő,pairwise_append → Ş,mem_of_mem_take → ş,mem_of_mem_drop → Š,getElem?_of_mem → š,take → Ţ,drop_eq_getElem_cons → Ŧ,filterMap_cons → Ũ,nodup_cons → ŭ,mem_filterMap → Ů,lookup → Ű,getElem?_cons_succ → ű,drop → Ų,take_of_length_le → Ÿ,map_dropLast → Ź,flatMap_cons → ź,append_assoc → Ż
open PySem.PyData renaming int → Ã,eqv → ý,list → ÿ,tuple → č,canLayAll0 → ĩ,depthAll → ī
open PySem renaming wpAny_bind → Å,wpAny_pure → Ô,sizeLine_eq → é,mem_of_lookup → ĕ,wpAny_loadPart' → ĝ,wpAny_truthy_bool → Į,wpAny_mono → į,wpAny_holding → ņ,wpAny_Call_Name_kw → ň,wpAny_passesOwn → ŝ,codeAny_builtin → ŷ
open Nat renaming le_refl → É,ne_of_lt → á,lt_of_lt_of_le → æ,le_trans → î,zero_le → ô,lt_irrefl → Ā,pow_le_pow_right → ā,lt_succ_of_lt → Ă,le_succ → ĸ,pow_succ → ŀ,two_pow_pos → ŋ,lt_or_ge → Ŏ,lt_succ_self → Ŗ,ne_of_gt → ž
open Bool renaming and_eq_true → Ë,false_ne_true → Ð,eq_iff_iff → ě,false_eq_true → ģ,not_eq_true' → Ž
open PySem.Heap renaming lt_size → Î,get?_push_of_some → Ï,get?_push_size → ß,size_update → ď,get?_push_ne → Đ,get?_update_other → Ŀ,size_push → ł
open Int renaming toNat_natCast → Ø,le_refl → ć
open PySem.W renaming Frag → Ú,mg_none_of → ę,boot_heap → ő,kia_one → Ū,boot_o_0 → ū
open PySem.Obj renaming mapSeq → à
open Option.some renaming inj → ç
open PySem.Challenge renaming pw_nofall_k30_whatever_two_things → í
open PySem.Str renaming ofString → ð
open PySem.NameKind renaming free → ù,cell → ą
open PySem.F renaming plainAttrs_list → þ,type_list_append → İ,slot_list_append → Ĳ,type_list_extend → Ť,slot_list_extend → ť
open Classical renaming byContradiction → Ć
open Sum renaming inr → Ĉ,inl → Ņ
open PySem.Value renaming type → Ď,none → đ,int → Ĝ,ref → ğ
open PySem.PassesOwn renaming never → Ē
open Or renaming inl → Ė
open ForInStep renaming yield → Ę
open Ne renaming symm → ġ
open Array renaming length_toList → Ī
open PySem.Builtin.SmallTypes renaming ownedTupleIsFree → ĳ,nextOf → Ŕ
open PyProof.Rows renaming callWith_type1 → ķ,step_dedup → Ŭ,listUpdate_at → ŵ
open False renaming elim → Ľ
open True renaming intro → ŏ
open PySem.Builtin.List renaming listExtendWith → ŕ,listTooLong → Ŝ
open PySem.Builtin.Slice renaming slicePlaces → Ś
open PySem.Builtin.Tuple renaming tupleExact → ś
open Option renaming isSome_iff_exists → ŧ
open PySem.Builtin renaming bitAnd → ů
open List.cons renaming sizeOf_spec → Ŵ
noncomputable section
namespace L2
open PySem PySem.Spec PyProof.Rows
def zK{n:Nat}(h:Nat.ble n 1000=true:=by rfl):n<=1000:=Nat.le_of_ble_eq_true h
abbrev Key:=Sum Int Str
def rM:Key->Value->Bool
 |.inl k,v=>Value.isInt k v
 |.inr x,v=>Value.isStrOf x v
def WX(w:World):Key->Int
 |.inl k=>hashInt k
 |.inr x=>hashStr w x
def bf:∀{k:Key}{v:Value},rM k v=true->(∃i t,k=Ņ i/\v=Ĝ i t)\/(∃x t,k=Ĉ x/\v=Value.str x t)
 |.inl i,v,h=>by
  obtain⟨t,e⟩:=Value.isInt_shape (k:=i) (v:=v) h
  exact .inl ⟨i,t,rfl,e⟩
 |.inr x,v,h=>by
  obtain⟨t,e⟩:=Value.isStrOf_shape (x:=x) (v:=v) h
  exact .inr ⟨x,t,rfl,e⟩
def Gg(i:Int)(t:Tok):rM (.inl i) (.int i t)=true:=by simp[rM,Value.isInt]
def Gf(x:Str)(t:Tok):rM (.inr x) (.str x t)=true:=by simp[rM,Value.isStrOf]
def RN(a b:Int):decide ((Ņ a:Key)=Ņ b)=(a == b):=by
 by_cases e:a=b
 ·subst e;simp
 ·have h:¬(Ņ a:Key)=Ņ b:=λq=>e (Sum.inl.inj q)
  rw[decide_eq_false h]
  exact(beq_eq_false_iff_ne.mpr e).symm
def RK(a b:Str):decide ((Ĉ a:Key)=Ĉ b)=decide (a=b):=by
 by_cases e:a=b
 ·subst e;simp
 ·have h:¬(Ĉ a:Key)=Ĉ b:=λq=>e (Sum.inr.inj q)
  rw[decide_eq_false h,decide_eq_false e]
def RM(a:Int)(b:Str):decide ((Ņ a:Key)=Ĉ b)=false:=decide_eq_false (λq=>nomatch q)
def RL(a:Str)(b:Int):decide ((Ĉ a:Key)=Ņ b)=false:=decide_eq_false (λq=>nomatch q)
def bC(prog:Program)(w:World):PySem.KeyKind prog w Key where
 is:=rM
 hash:=WX w
 inj:=λv a b ha hb=>by
  rcases bf ha with ⟨i,t,rfl,rfl⟩|⟨x,t,rfl,rfl⟩
  ·rcases bf hb with ⟨j,u,rfl,e⟩|⟨y,u,rfl,e⟩
   ·injection e with e1 _;rw[e1]
   ·exact nomatch e
  ·rcases bf hb with ⟨j,u,rfl,e⟩|⟨y,u,rfl,e⟩
   ·exact nomatch e
   ·injection e with e1 _;rw[e1]
 byValue:=λk v h=>by
  rcases bf h with ⟨i,t,rfl,rfl⟩|⟨x,t,rfl,rfl⟩ <;> rfl
 pyHash:=λhv h=>by
  rcases bf hv with ⟨i,t,rfl,rfl⟩|⟨x,t,rfl,rfl⟩
  ·exact wpAny_pyHash_int h
  ·exact wpAny_pyHash_str h
 eqBool:=λhu hv h=>by
  rcases bf hu with ⟨i,t,rfl,rfl⟩|⟨x,t,rfl,rfl⟩
  ·rcases bf hv with ⟨j,u,rfl,rfl⟩|⟨y,u,rfl,rfl⟩
   ·rw[RN] at h;exact wpAny_eqBool_int h
   ·rw[RM] at h;exact SeqAt.EqAt.int_str i t y u _ _ _ _ h
  ·rcases bf hv with ⟨j,u,rfl,rfl⟩|⟨y,u,rfl,rfl⟩
   ·rw[RL] at h;exact SeqAt.EqAt.str_int x t j u _ _ _ _ h
   ·rw[RK] at h;exact wpAny_eqBool_str h
 «strs»:=λk x t v h=>by
  rcases bf h with ⟨i,u,rfl,e⟩|⟨y,u,rfl,e⟩
  ·exact nomatch e
  ·injection e with e1 _
   subst e1
   cases v <;> rfl
def yI(prog:Program)(w:World)(i:Int)(t:Tok):(bC prog w).is (.inl i) (.int i t)=true:=Gg i t
def yH(prog:Program)(w:World)(x:Str)(t:Tok):(bC prog w).is (.inr x) (.str x t)=true:=Gf x t
inductive V where
 |non|bl (b:Bool)|int (i:Int)|str (x:Str)|byt (b:Array UInt8)|flt (b:UInt64)|ref (a:Addr)|ty (n:String)
 deriving DecidableEq
def RelV:V->Value->Prop
 |.non,u=>u=đ
 |.bl b,u=>u=Value.bool b
 |.int i,u=>∃t,u=Ĝ i t
 |.str x,u=>∃t,u=Value.str x t
 |.byt b,u=>∃t,u=Value.bytes b t
 |.flt b,u=>∃t,u=Value.float b t
 |.ref a,u=>u=ğ a
 |.ty n,u=>u=Ď n
abbrev Vals:List V->List Value->Prop:=Paired RelV
def Vals.length{xs:List V}{us:List Value}(r:Vals xs us):xs.length=us.length:=Paired.length r
def Vals.get:∀{xs:List V}{us:List Value}{i:Nat}{x:V},Vals xs us->xs[i]?=some x->∃u,us[i]?=some u/\RelV x u
 |_,_,_,_,.nil,e=>by simp at e
 |_,_,0,_,.cons r _,e=>by simp at e;subst e;exact⟨_,rfl,r⟩
 |_,_,i+1,x,.cons _ t,e=>by
  obtain⟨u,h1,h2⟩:=Vals.get (i:=i) (x:=x) t (by simpa using e)
  exact⟨u,by simpa using h1,h2⟩
def Vals.set{x:V}{u:Value}(r:RelV x u):∀{xs:List V}{us:List Value} (i:Nat),Vals xs us->Vals (xs.set i x) (us.set i u)
 |_,_,_,.nil=>.nil
 |_,_,0,.cons _ t=>.cons r t
 |_,_,i+1,.cons q t=>.cons q (Vals.set r i t)
def Vals.append:∀{xs ys:List V}{us ws:List Value},Vals xs us->Vals ys ws->Vals (xs++ys) (us++ws)
 |_,_,_,_,.nil,s=>s
 |_,_,_,_,.cons r t,s=>.cons r (Vals.append t s)
def Vals.take:∀{xs:List V}{us:List Value} (n:Nat),Vals xs us->Vals (xs.take n) (us.take n)
 |_,_,0,_=>.nil
 |_,_,_+1,.nil=>.nil
 |_,_,n+1,.cons r t=>.cons r (Vals.take n t)
def Vals.drop:∀{xs:List V}{us:List Value} (n:Nat),Vals xs us->Vals (xs.drop n) (us.drop n)
 |_,_,0,r=>r
 |_,_,_+1,.nil=>.nil
 |_,_,n+1,.cons _ t=>Vals.drop n t
def sG:Option V->Option Value->Prop
 |some v,some u=>RelV v u
 |none,none=>True
 |_,_=>False
def KV{κ:Type}:List (κ×V)->List (κ×Value)->Prop:=Paired λ(p:κ×V) (q:κ×Value)=>p.1=q.1/\RelV p.2 q.2
def kV:Key->V
 |.inl i=>.int i
 |.inr x=>.str x
inductive HO where
 |lst (xs:List V)
 |tup (xs:List V)
 |dK (kvs:List (Key×V))|dT (kvs:List (List Key×V))
 |set (S:Int->Bool) (n:Nat)
 |ins (C dx:Addr) (fs:List (Str×V))
 |own (x:Addr)
 |xd (fs:List (Str×V))
 |met (f x:Addr)
 |rng (lo hi:Int)
 |frz (o:Obj) (u:HO)
 |tbl (ps:Array Value)
 |ext (φ:Heap->Prop)
abbrev Hp:=Addr->Option HO
def upd(H:Hp)(a:Addr)(o:HO):Hp:=λb=>if b=a then some o else H b
def au{H:Hp}{a:Addr}{o:HO}:upd H a o a=some o:=by unfold upd;rw[if_pos rfl]
def aq{H:Hp}{a b:Addr}{o:HO}(h:b≠a):upd H a o b=H b:=by unfold upd;rw[if_neg h]
def Pa{H:Hp}{a b:Addr}{o u:HO}(h:H a=some o)(h':H b=some u)(d:o≠u):a≠b:=by
 intro e;subst e;rw[h] at h';exact d (ç h')
def aD{H:Hp}{a b:Addr}{o:HO}(h:H a=some o)(h':H b=none):a≠b:=by
 intro e;subst e;rw[h] at h';cases h'
section
variable (P:Program) (w:World)
def aX(H:Hp)(h:Heap)(a:Addr):HO->Prop
 |.lst xs=>xs.length<=sizeLine/\∃(its:List Value) (n:Nat),Vals xs its/\h.get? a=some { cls:=.type "list",data:=.seq its.toArray n }
 |.tup xs=>xs.length<=sizeLine/\∃its:List Value,Vals xs its/\IsTup h a its.toArray
 |.dK kvs=>kvs.length<=sizeLine/\(a == sysModules)=false/\∃vs,KV kvs vs/\h.DictOf (bC P w) a vs
 |.dT kvs=>kvs.length<=sizeLine/\(a == sysModules)=false/\∃xs:List (List Key×Addr×Value),
   Paired (λ(p:List Key×V) (q:List Key×Addr×Value)=>p.1=q.1/\H q.2.1=some (.tup (p.1.map kV))/\RelV p.2 q.2.2) kvs xs /\
   ∃o es ep,h.get? a=some o/\o.ExactDict/\o.data=.dict es ep/\es.toList=xs.map (entryOfKey (tupleKind (bC P w)))/\(xs.map (·.1)).Nodup
 |.set S n=>h.SetOf (intKind P w) a S n
 |.ins C dx fs=>H dx=some (.own a)/\fs.length<=1000/\dx≠a/\h.get? a=some (W.instObj C dx) /\
   ∃mA,h.Ns1 dx mA/\(∀f,sG (fs.lookup f) (mA f))/\PySem.Within mA (fs.map (·.1))
 |.own _=>∃o,h.get? a=some o
 |.xd fs=>∃mA,h.Ns1 a mA/\∀f,sG (fs.lookup f) (mA f)
 |.rng lo hi=>∃t u v,h.get? a=some { cls:=.type "range",data:=.fields #[.int lo t,.int hi u,.int 1 v] }
 |.frz o u=>h.get? a=some o/\aX H h a u
 |.tbl ps=>h.get? a=some { cls:=.none,data:=.fields ps }
 |.met f x=>h.get? a=some (W.methodObj (.ref f) (.ref x))
 |.ext φ=>φ h/\(∃o,h.get? a=some o)/\∀h1 h2:Heap,φ h1->(∀o,h1.get? a=some o->h2.get? a=some o)->φ h2
def HOk(H:Hp)(h:Heap):Prop:=∀a o,H a=some o->aX P w H h a o
end
section
variable {P:Program}{w:World}{H H':Hp}{h h':Heap}{a:Addr}{o:HO}
def aX.lt(x:aX P w H h a o):a<h.objs.size:=by
 cases o with
 |lst xs=>obtain⟨_,_,_,_,e⟩:=x;exact Î e
 |tup xs=>obtain⟨_,_,_,p⟩:=x;exact p.lt
 |dK kvs=>obtain⟨_,_,_,_,o,_,_,e,_⟩:=x;exact Î e
 |dT kvs=>obtain⟨_,_,_,_,o,_,_,e,_⟩:=x;exact Î e
 |set S n=>obtain⟨o,_,_,_,e,_⟩:=x;exact Î e
 |ins C dx fs=>obtain⟨_,_,_,e,_⟩:=x;exact Î e
 |own y=>obtain⟨_,e⟩:=x;exact Î e
 |xd fs=>obtain⟨_,⟨_,_,_,e,_⟩,_⟩:=x;exact Î e
 |rng lo hi=>obtain⟨_,_,_,e⟩:=x;exact Î e
 |frz ob u=>obtain⟨e,_⟩:=x;exact Î e
 |tbl ps=>exact Î (show h.get? a=some _ from x)
 |met f y=>exact Î (show h.get? a=some _ from x)
 |ext φ=>obtain⟨_,⟨_,e⟩,_⟩:=x;exact Î e
def Paired.Ba{α β:Type}{F G:α->β->Prop}:∀{l₁:List α}{l₂:List β},Paired F l₁ l₂->(∀a b,F a b->G a b)->Paired G l₁ l₂
 |_,_,.nil,_=>.nil
 |_,_,.cons r t,f=>.cons (f _ _ r) (Paired.Ba t f)
def aX.stay(x:aX P w H h a o)(k:∀b u,(b=a\/H b=some (.own a))->h.get? b=some u->h'.get? b=some u)(ho:∀b,H b=some (.own a)->H' b=some (.own a))(ht:∀b xs,H b=some (.tup xs)->H' b=some (.tup xs)):aX P w H' h' a o:=by
 induction o with
 |lst xs=>obtain⟨z,its,n,r,e⟩:=x;exact⟨z,its,n,r,k _ _ (.inl rfl) e⟩
 |tup xs=>obtain⟨z,its,r,ob,e,c⟩:=x;exact⟨z,its,r,ob,k _ _ (.inl rfl) e,c⟩
 |dK kvs=>obtain⟨z,y,vs,r,ob,es,ep,e,c⟩:=x;exact⟨z,y,vs,r,ob,es,ep,k _ _ (.inl rfl) e,c⟩
 |dT kvs =>
  obtain⟨z,y,xs,r,ob,es,ep,e,c⟩:=x
  exact⟨z,y,xs,Paired.Ba r λp q z=>⟨z.1,ht _ _ z.2.1,z.2.2⟩,ob,es,ep,k _ _ (.inl rfl) e,c⟩
 |set S n=>obtain⟨ob,es,ep,t,e,c⟩:=x;exact⟨ob,es,ep,t,k _ _ (.inl rfl) e,c⟩
 |ins C dx fs =>
  obtain⟨d,z,ne,e,mA,⟨od,es,ep,e2,c⟩,r⟩:=x
  exact⟨ho _ d,z,ne,k _ _ (.inl rfl) e,mA,⟨od,es,ep,k _ _ (.inr d) e2,c⟩,r⟩
 |own y=>obtain⟨ob,e⟩:=x;exact⟨ob,k _ _ (.inl rfl) e⟩
 |xd fs=>obtain⟨mA,⟨od,es,ep,e,c⟩,r⟩:=x;exact⟨mA,⟨od,es,ep,k _ _ (.inl rfl) e,c⟩,r⟩
 |rng lo hi=>obtain⟨t,u,v,e⟩:=x;exact⟨t,u,v,k _ _ (.inl rfl) e⟩
 |frz ob u ih=>obtain⟨e,q⟩:=x;exact⟨k _ _ (.inl rfl) e,ih q⟩
 |tbl ps =>
  have e:h.get? a=some { cls:=.none,data:=.fields ps }:=x
  show h'.get? a=some { cls:=.none,data:=.fields ps }
  exact k a _ (.inl rfl) e
 |met f y =>
  have e:h.get? a=some (W.methodObj (.ref f) (.ref y)):=x
  show h'.get? a=some (W.methodObj (.ref f) (.ref y))
  exact k a _ (.inl rfl) e
 |ext φ=>obtain⟨p,⟨o,e⟩,st⟩:=x;exact⟨st _ _ p λo q=>k _ _ (.inl rfl) q,⟨o,k _ _ (.inl rfl) e⟩,st⟩
def HOk.lt(x:HOk P w H h)(e:H a=some o):a<h.objs.size:=(x a o e).lt
def HOk.fresh(x:HOk P w H h)(e:h.objs.size<=a):H a=none:=by
 cases q:H a with
 |none=>rfl
 |some u=>exact absurd (æ (x.lt q) e) (Ā _)
def HOk.kept(x:HOk P w H h)(k:∀b u,h.get? b=some u->h'.get? b=some u):HOk P w H h':=λa o e =>
 (x a o e).stay (λb u _ q=>k b u q) (λ_ q=>q) λ_ _ q=>q
def HOk.laid(x:HOk P w H h)(k:∀b u,h.get? b=some u->h'.get? b=some u)(hp:h.objs.size<=a)(new:aX P w (upd H a o) h' a o):HOk P w (upd H a o) h':=λb u e=>by
 have hn:=x.fresh hp
 by_cases hb:b=a
 ·subst hb;rw[au] at e;cases e;exact new
 ·rw[aq hb] at e
  exact(x b u e).stay (λc v _ q=>k c v q) (λc q=>by rw[aq (aD q hn)];exact q) λc xs q=>by rw[aq (aD q hn)];exact q
end
def Rd(H:Hp)(a:Addr)(u:HO):Prop:=H a=some u\/∃o,H a=some (.frz o u)
def Rd.ok{P:Program}{w:World}{H:Hp}{h:Heap}{a:Addr}{u:HO}(r:Rd H a u)(x:HOk P w H h):aX P w H h a u:=by
 rcases r with r|⟨o,r⟩
 ·exact x a u r
 ·obtain⟨_,q⟩:=x a _ r
  exact q
def Mut:Option HO->Prop
 |some (.lst _)=>True
 |some (.dK _)=>True
 |some (.dT _)=>True
 |some (.set _ _)=>True
 |some (.ins _ _ _)=>True
 |some (.ext _)=>True
 |_=>False
section
variable {P:Program}{w:World}{H:Hp}{h h':Heap}{x e:Addr}{o':HO}
def HOk.write(ok:HOk P w H h)(mu:Mut (H x))(he:e=x\/H e=some (.own x))(k:∀b u,b≠e->h.get? b=some u->h'.get? b=some u)(heo:∃u,h'.get? e=some u)(new:aX P w (upd H x o') h' x o'):HOk P w (upd H x o') h':=λb u q=>by
 have nown:∀c y,H c=some (.own y)->c≠x:=λc y r z=>by subst z;rw[r] at mu;exact mu
 have ntup:∀c xs,H c=some (.tup xs)->c≠x:=λc xs r z=>by subst z;rw[r] at mu;exact mu
 by_cases hb:b=x
 ·subst hb;rw[au] at q;cases q;exact new
 ·rw[aq hb] at q
  by_cases hbe:b=e
  ·have q':H b=some (.own x):=by
    rcases he with z|z
    ·exact absurd (hbe.trans z) hb
    ·rw[hbe];exact z
   rw[q] at q';cases q'
   obtain⟨v,hv⟩:=heo
   exact⟨v,by rw[hbe];exact hv⟩
  ·refine(ok b u q).stay (λc v hc r=>k c v ?_ r) (λc r=>by rw[aq (nown c b r)];exact r) λc xs r=>by rw[aq (ntup c xs r)];exact r
   rcases hc with rfl|hc
   ·exact hbe
   ·rintro rfl
    rcases he with z|z
    ·exact nown c b hc z
    ·rw[hc] at z;cases z;exact hb rfl
end
structure Un(fs ex:List Addr)(H H':Hp)(h h':Heap):Prop where
 keep:∀b o,h.get? b=some o->H b=none->b∉fs->b∉ex->h'.get? b=some o
 slot:∀b o,h.get? b=some o->H b=none->b∈fs->b∉ex->∃sl,h'.get? b=some { o with slots:=sl }
 free:∀b o,h.get? b=some o->H b=none->b∉ex->H' b=none
 there:∀b o,h.get? b=some o->b∉ex->∃o',h'.get? b=some o'
 tups:∀b xs,H b=some (.tup xs)->H' b=some (.tup xs)
 frzs:∀b o u,H b=some (.frz o u)->H' b=some (.frz o u)
 tbls:∀b ps,H b=some (.tbl ps)->∃more,H' b=some (.tbl (ps++more))
section
variable {fs fs' ex ex':List Addr}{H H1 H2:Hp}{h h1 h2 h':Heap}{a x e:Addr}{o:HO}
def Un.any(u:Un fs ex H H1 h h1){b:Addr}{ob:Obj}(q:h.get? b=some ob)(n:H b=none)(hx:b∉ex):∃sl,h1.get? b=some { ob with slots:=sl }:=by
 by_cases hb:b∈fs
 ·exact u.slot b ob q n hb hx
 ·exact⟨ob.slots,u.keep b ob q n hb hx⟩
def Un.kept(k:∀b u,h.get? b=some u->h'.get? b=some u):Un fs ex H H h h' :=
 ⟨λb ob q _ _ _=>k b ob q,λb ob q _ _ _=>⟨ob.slots,k b ob q⟩,λ_ _ _ n _=>n,λb ob q _=>⟨ob,k b ob q⟩,λ_ _ q=>q,λ_ _ _ q=>q,λ_ ps q=>⟨#[],by rw[q];simp⟩⟩
def Un.refl:Un fs ex H H h h:=Un.kept λ_ _ q=>q
def Un.laid(k:∀b u,h.get? b=some u->h'.get? b=some u)(hp:h.objs.size<=a)(hn:H a=none):Un fs ex H (upd H a o) h h' where
 keep:=λb u q _ _ _=>k b u q
 slot:=λb u q _ _ _=>⟨u.slots,k b u q⟩
 free:=λb u q n _=>by rw[aq (á (æ (Î q) hp))];exact n
 there:=λb u q _=>⟨u,k b u q⟩
 tups:=λb xs q=>by rw[aq (aD q hn)];exact q
 frzs:=λb u xs q=>by rw[aq (aD q hn)];exact q
 tbls:=λb ps q=>⟨#[],by rw[aq (aD q hn),q];simp⟩
def Un.write(mu:Mut (H x))(he:e=x\/H e=some (.own x))(k:∀b u,b≠e->h.get? b=some u->h'.get? b=some u)(heo:∃u,h'.get? e=some u):Un fs ex H (upd H x o) h h':=by
 have hx:∀b,H b=none->b≠x:=λb n z=>by subst z;rw[n] at mu;exact mu
 have hb:∀b,H b=none->b≠e:=λb n z=>by
  subst z
  rcases he with r|r
  ·exact hx b n r
  ·rw[n] at r;cases r
 have hm:∀b u,H b=some u->¬Mut (some u)->b≠x:=λb u q nm z=>by subst z;rw[q] at mu;exact nm mu
 refine⟨λb u q n _ _=>k b u (hb b n) q,λb u q n _ _=>⟨u.slots,k b u (hb b n) q⟩,λb u q n _=>by rw[aq (hx b n)];exact n,λb u q _=>?_,
  λb xs q=>by rw[aq (hm b _ q λz=>z)];exact q,λb u xs q=>by rw[aq (hm b _ q λz=>z)];exact q,λb ps q=>⟨#[],by rw[aq (hm b _ q λz=>z),q];simp⟩⟩
 by_cases hbe:b=e
 ·subst hbe;exact heo
 ·exact⟨u,k b u hbe q⟩
end
def trk(h:Heap)(H:Hp):List Addr:=(Û h.objs.size).filter λa=>(H a).isSome
def wI(h:Heap)(H:Hp):Heap:=W.hideAll h (trk h H)
def Gm(h:Heap)(H:Hp):(wI h H).objs.size=h.objs.size:=W.hideAll_size _ _
def rO{h:Heap}{H:Hp}{b:Addr}{o:Obj}(e:h.get? b=some o)(n:H b=none):(wI h H).get? b=some o :=
 W.hideAll_get _ e λhm=>by
  have q:(H b).isSome=true:=(Ċ.mp hm).2
  rw[n] at q;simp at q
def M6{h:Heap}{H:Hp}{b:Addr}{o:Obj}(e:(wI h H).get? b=some o):h.get? b=some o/\H b=none:=by
 have e':h.get? b=some o:=W.of_hideAll (trk h H) e
 refine⟨e',?_⟩
 cases q:H b with
 |none=>rfl
 |some x =>
  have hm:b∈trk h H:=Ċ.mpr ⟨ċ.mpr (Î e'),by simp[q]⟩
  have z:(wI h H).get? b=none:=W.hideAll_none (trk h H) hm
  rw[z] at e;cases e
def xr(g h:Heap)(L:Addr):List (Addr×Obj):=(Û h.objs.size).filterMap λa=>if a=L\/(g.get? a).isSome=true then none else (h.get? a).map λo=>(a,o)
def rC{g h:Heap}{L:Addr}{p:Addr×Obj}(hp:p∈xr g h L):p.1≠L/\g.get? p.1=none/\h.get? p.1=some p.2:=by
 obtain⟨b,_,e⟩:=Ů.mp hp
 split at e
 ·cases e
 ·rename_i hn
  cases q:h.get? b with
  |none=>rw[q] at e;simp at e
  |some u =>
   rw[q] at e
   simp only[Option.map_some,Option.some.injEq] at e
   subst e
   refine⟨λz=>hn (.inl z),?_,q⟩
   show g.get? b=none
   cases r:g.get? b with
   |none=>rfl
   |some v=>exact(hn (.inr (by simp[r]))).elim
def rest(g h:Heap)(L d:Addr):List (Addr×Obj):=(xr g h L).filter λp=>decide (p.1≠d)
def Ju{g h:Heap}{L:Addr}:News g L h (xr g h L):=λp hp=>let ⟨a,b,c⟩:=rC hp;⟨c,a,b⟩
structure Mod(K:Ú)(mg:Str->Option Value)(base:Heap):Prop where
 kin:K.In base
 glob:base.Ns mainGlobals mg
 blt:∃mb,base.Ns builtinsNs mb/\∀x:Str,x≠"__name__"->mb x=bootBuiltins x
 nolimit:base.NoLimit
structure Cx where
 prog:Program
 w:World
 K:Ú
 mg:Str->Option Value
 base:Heap
 A:Around
 N:List Str
 s₀:Shared
 H₀:Hp
 env:Env
 outer:List Env
 stack:List Env
 ex:List Addr
 fn:Str->Bool
 calm:Bool
 pn:List (Addr×Obj)
 xe:Value->Shared->Prop
 sf:List (Addr×Obj×HO):=[]
def frs(l:List Env):List Addr:=l.filterMap (·.frame)
abbrev Cx.fs(X:Cx):List Addr:=frs X.outer
def Vis(sc:Scope)(x:Str):Prop:=sc.names.lookup x=some .local\/sc.names.lookup x=some .cell\/sc.names.lookup x=some .free
def Loc(sc:Scope)(x:Str):Prop:=sc.names.lookup x=some .local\/sc.names.lookup x=some .cell
def Look(env:Env)(h:Heap)(m:Str->Option Value)(x:Str)(u:Value):Prop :=
 (env.kindOf x=some .local/\m x=some u)\/((env.kindOf x=some .cell\/env.kindOf x=some .free)/\∃c,env.cells.lookup x=some c/\h.IsCell c (some u))
abbrev zS(X:Cx)(e:Expr)(es:List Expr):Prop:=starEach (e::es) X.env=(false,eval e X.env)::starEach es X.env
abbrev zP(X:Cx)(p:Pos)(es:List Expr):Prop:=(backTo p (starEach es X.env)).any (·.1)=false
abbrev zB(x:Str):Prop:=(x == ("__debug__":Str))=false
abbrev zF(X:Cx)(e:Expr):Prop:=∀x,foldedSetIterable e X.env x=pure x
abbrev zL(X:Cx)(x:Str):Prop:=X.fn x=true\/X.env.scope.names.lookup x=some .local
abbrev zW(X:Cx)(p:Pos)(es:List Expr):Prop:=((backTo p (starEach es X.env)).all (λx=>!x.1)&&(backToKw p (keywordEach [] X.env)).all (λx=>x.1.isSome)&&decide (es.length+([]:List Keyword).length+(if ([]:List Keyword).isEmpty then 0 else 1)<30))=true
def zQ{sc:Scope}{x:Str}(h:(sc.names.lookup x == some .local||sc.names.lookup x == some .cell)=true:=by rfl):Loc sc x:=(Bool.or_eq_true_iff.mp h).imp (λz=>eq_of_beq z) λz=>eq_of_beq z
structure Cx.Ok(X:Cx):Prop where
 mod:Mod X.K X.mg X.base
 kind:X.env.scope.kind=.function
 glob:X.env.globals=mainGlobals
 blt:X.env.builtins=builtinsNs
 above:X.s₀.heap.objs.size<=X.env.locals
 inj:∀x y c,X.env.cells.lookup x=some c->X.env.cells.lookup y=some c->x=y
 has:∀x,(X.env.kindOf x=some .cell\/X.env.kindOf x=some .free)->∃c,X.env.cells.lookup x=some c
 cab:∀x c,X.fn x=true->X.env.cells.lookup x=some c->X.s₀.heap.objs.size<=c
 hd:X.calm=true->X.A.handled=none
 frames:X.A.frames=some X.stack
 stk:X.stack=X.outer\/(X.stack=X.env::X.outer/\X.env.frame=some X.env.locals)
 exf:∀b∈X.ex,b≠X.env.locals/\∀x c,X.env.cells.lookup x=some c->c≠b
 bs:∀b o,X.base.get? b=some o->X.s₀.heap.get? b=some o/\X.H₀ b=none
 bsz:X.base.objs.size<=X.s₀.heap.objs.size
 noex:∀b o,X.base.get? b=some o->b∉X.ex
 exfs:∀b∈X.ex,b∉X.fs
 nG:X.s₀.heap.FunFrames X.base X.outer
 frf:∀b∈X.fs,X.H₀ b=none
 sof:∀q∈X.sf,X.A.handled=some (.ref q.1)/\X.H₀ q.1=some (.frz q.2.1 q.2.2)/\∃ws,q.2.1.data=.fields ws/\ws[2]?=some .none
structure Inv(X:Cx)(pins:List (Addr×Obj))(σ:List (Option V))(H:Hp)(s:Shared):Prop where
 ok:X.Ok
 os:s.os=X.s₀.os
 bare:AllBare s.gens
 base:Un X.fs X.ex X.H₀ H X.s₀.heap s.heap
 loc:∃m,s.heap.Ns X.env.locals m/\∀(i:Nat) (x:Str) (v:V),X.N[i]?=some x->σ[i]?=some (some v)->Vis X.env.scope x->∃u,RelV v u/\Look X.env s.heap m x u
 cell:∀x c,X.env.cells.lookup x=some c->∃v,s.heap.IsCell c v
 free:H X.env.locals=none
 freeC:∀x c,X.env.cells.lookup x=some c->H c=none
 pin:∀p∈X.pn++pins,s.heap.get? p.1=some p.2/\H p.1=none/\p.1≠X.env.locals/\p.1∉X.fs/\∀v,p.2.data≠.cell v
 hok:HOk X.prog X.w H s.heap
 len:σ.length=X.N.length
section
variable {X:Cx}{pins:List (Addr×Obj)}{σ:List (Option V)}{H H':Hp}{s:Shared}{h':Heap}
def Cx.Ok.Wy(ok:X.Ok){b:Addr}{o:Obj}(e:X.base.get? b=some o):b∉X.fs:=λhb=>by
 have:=(ok.nG.mem hb).1
 rw[e] at this;cases this
def Inv.bs(I:Inv X pins σ H s):∀b o,X.base.get? b=some o->s.heap.get? b=some o/\H b=none:=λb o e =>
 ⟨I.base.keep b o (I.ok.bs b o e).1 (I.ok.bs b o e).2 (I.ok.Wy e) (I.ok.noex b o e),I.base.free b o (I.ok.bs b o e).1 (I.ok.bs b o e).2 (I.ok.noex b o e)⟩
def Inv.bk(I:Inv X pins σ H s):∀b o,X.base.get? b=some o->s.heap.get? b=some o:=λb o e=>(I.bs b o e).1
def Inv.mod(I:Inv X pins σ H s):Mod X.K X.mg X.base:=I.ok.mod
def Inv.kIn(I:Inv X pins σ H s):X.K.In s.heap:=I.ok.mod.kin.keeps I.bk
def Inv.fr(I:Inv X pins σ H s):∃m,Fr X.base X.env.locals s.heap m :=
 let ⟨m,hn,_⟩:=I.loc
 ⟨m,hn,I.bk,î I.ok.bsz I.ok.above⟩
def Inv.lt(I:Inv X pins σ H s):X.env.locals<s.heap.objs.size:=let ⟨_,hn,_⟩:=I.loc;hn.lt
def Inv.sz(I:Inv X pins σ H s):X.s₀.heap.objs.size<=s.heap.objs.size:=î I.ok.above (Nat.le_of_lt I.lt)
def Inv.Wx(I:Inv X pins σ H s){a:Addr}(h:s.heap.objs.size<=a):a∉X.fs:=λhb=>by
 obtain⟨_,o,ho,_⟩:=I.ok.nG.mem hb
 exact absurd (æ (Î ho) (î I.sz h)) (Ā _)
def Inv.cne(I:Inv X pins σ H s):∀x c,X.env.cells.lookup x=some c->c≠X.env.locals:=λx c e z=>by
 obtain⟨v,o,ho,hd⟩:=I.cell x c e
 obtain⟨m,⟨o',es,ep,ho',hd',_⟩,_⟩:=I.loc
 rw[z,ho'] at ho;cases ho;rw[hd'] at hd;cases hd
def Inv.nG(I:Inv X pins σ H s):s.heap.FunFrames X.base X.outer:=by
 have all:∀(l:List Env),(∀b∈frs l,b∈X.fs)->X.s₀.heap.FunFrames X.base l->s.heap.FunFrames X.base l:=by
  intro l
  induction l with
  |nil=>intro _ _;trivial
  |cons env r ih =>
   intro hs hl
   obtain⟨hk,⟨L,o,hf,hn,ho,hd⟩,hr⟩:=hl
   have hL:L∈X.fs:=hs L (by unfold frs;rw[Ũ,hf];exact À)
   obtain⟨sl,e⟩:=I.base.slot L o ho (I.ok.frf L hL) hL λz=>I.ok.exfs L z hL
   exact⟨hk,⟨L,_,hf,hn,e,hd⟩,ih (λb hb=>hs b (by unfold frs;rw[Ũ,hf];exact Ä _ hb)) hr⟩
 exact all X.outer (λ_ hb=>hb) I.ok.nG
def Inv.stack(I:Inv X pins σ H s):s.heap.FunFrames X.base X.stack:=by
 rcases I.ok.stk with e|⟨e,hf⟩
 ·rw[e];exact I.nG
 ·rw[e]
  obtain⟨m,hn,_⟩:=I.loc
  refine .cons (by rw[I.ok.kind];decide) hf hn ?_ I.nG
  exact Heap.get?_none_of_le (î I.ok.bsz I.ok.above)
def Inv.uU(I:Inv X pins σ H s):∀b∈frs X.stack,b∈X.env.locals::X.fs:=λb hb=>by
 rcases I.ok.stk with e|⟨e,hf⟩
 ·rw[e] at hb;exact Ä _ hb
 ·rw[e] at hb
  unfold frs at hb
  rw[Ũ,hf] at hb
  exact hb
def Inv.Cv(I:Inv X pins σ H s):∀b∈frs X.stack,H b=none:=λb hb=>by
 rcases Ó.mp (I.uU b hb) with e|hb
 ·rw[e];exact I.free
 ·obtain⟨_,o,ho,_⟩:=I.ok.nG.mem hb
  exact I.base.free b o ho (I.ok.frf b hb) λz=>I.ok.exfs b z hb
def Inv.step{g':Array GenState}{t':Nat}{d':Drawn}{ch:List Addr}(I:Inv X pins σ H s)(hch:∀b∈ch,(b∈X.ex\/X.s₀.heap.objs.size<=b)/\b≠X.env.locals/\(∀x c,X.env.cells.lookup x=some c->c≠b)/\∀p∈X.pn++pins,p.1≠b)(keep:∀b o,b≠X.env.locals->b∉X.fs->b∉ch->s.heap.get? b=some o->H b=none->h'.get? b=some o)(slot:∀b o,b≠X.env.locals->b∈X.fs->b∉ch->s.heap.get? b=some o->H b=none->∃sl,h'.get? b=some { o with slots:=sl })(free:∀b o,b∉ch->s.heap.get? b=some o->H b=none->H' b=none)(there:∀b o,b∉ch->s.heap.get? b=some o->∃o',h'.get? b=some o')(tups:∀b xs,H b=some (.tup xs)->H' b=some (.tup xs))(frzs:∀b o u,H b=some (.frz o u)->H' b=some (.frz o u))(tbls:∀b ps,H b=some (.tbl ps)->∃more,H' b=some (.tbl (ps++more)))(ns:∀m,s.heap.Ns X.env.locals m->h'.Ns X.env.locals m)(hok:HOk X.prog X.w H' h')(hg:AllBare g') :
  Inv X pins σ H' { s with heap:=h',gens:=g',drawn:=d',toks:=t' }:=by
 have neL:∀b o,X.s₀.heap.get? b=some o->b≠X.env.locals:=λb o e=>á (æ (Î e) I.ok.above)
 have neC:∀b o,X.s₀.heap.get? b=some o->b∉X.ex->b∉ch:=λb o e hx hb=>by
  rcases(hch b hb).1 with z|z
  ·exact hx z
  ·exact absurd (æ (Î e) z) (Ā _)
 have cellK:∀x c,X.env.cells.lookup x=some c->∀v,s.heap.IsCell c v->h'.IsCell c v:=λx c e v ⟨o,ho,hd⟩=>by
  have nch:c∉ch:=λz=>(hch c z).2.2.1 x c e rfl
  by_cases hc:c∈X.fs
  ·obtain⟨sl,q⟩:=slot c o (I.cne x c e) hc nch ho (I.freeC x c e)
   exact⟨_,q,hd⟩
  ·exact⟨o,keep c o (I.cne x c e) hc nch ho (I.freeC x c e),hd⟩
 refine⟨I.ok,I.os,hg,⟨λb o e n hb hx=>?_,λb o e n hb hx=>?_,λb o e n hx=>?_,λb o e hx=>?_,λb xs e=>tups b xs (I.base.tups b xs e),λb o xs e=>frzs b o xs (I.base.frzs b o xs e),λb ps e=>?_⟩,?_,λx c e=>?_,?_,λx c e=>?_,λp hp=>?_,hok,I.len⟩
 ·exact keep b o (neL b o e) hb (neC b o e hx) (I.base.keep b o e n hb hx) (I.base.free b o e n hx)
 ·obtain⟨sl,e1⟩:=I.base.slot b o e n hb hx
  obtain⟨sl',e2⟩:=slot b _ (neL b o e) hb (neC b o e hx) e1 (I.base.free b o e n hx)
  exact⟨sl',e2⟩
 ·obtain⟨o',e1⟩:=I.base.there b o e hx
  exact free b o' (neC b o e hx) e1 (I.base.free b o e n hx)
 ·obtain⟨o',e1⟩:=I.base.there b o e hx
  exact there b o' (neC b o e hx) e1
 ·obtain⟨m1,e1⟩:=I.base.tbls b ps e
  obtain⟨m2,e2⟩:=tbls b _ e1
  exact⟨m1++m2,by rw[e2,Array.append_assoc]⟩
 ·obtain⟨m,hn,hl⟩:=I.loc
  refine⟨m,ns m hn,λi x v e1 e2 e3=>?_⟩
  obtain⟨u,r,l⟩:=hl i x v e1 e2 e3
  refine⟨u,r,?_⟩
  rcases l with l|⟨k,c,e,z⟩
  ·exact .inl l
  ·exact .inr ⟨k,c,e,cellK x c e _ z⟩
 ·obtain⟨v,z⟩:=I.cell x c e
  exact⟨v,cellK x c e v z⟩
 ·obtain⟨m,⟨o,_,_,ho,_⟩,_⟩:=I.loc
  exact free _ o (λz=>(hch _ z).2.1 rfl) ho I.free
 ·obtain⟨v,o,ho,hd⟩:=I.cell x c e
  exact free c o (λz=>(hch c z).2.2.1 x c e rfl) ho (I.freeC x c e)
 ·obtain⟨e,n,ne,nf,d⟩:=I.pin p hp
  have nch:p.1∉ch:=λz=>(hch p.1 z).2.2.2 p hp rfl
  exact⟨keep p.1 p.2 ne nf nch e n,free p.1 p.2 nch e n,ne,nf,d⟩
def Inv.un{t':Nat}(I:Inv X pins σ H s)(u:Un X.fs [] H H' s.heap h')(hok:HOk X.prog X.w H' h'):Inv X pins σ H' { s with heap:=h',toks:=t' }:=by
 obtain⟨m,⟨o,es,ep,ho,r⟩,_⟩:=id I.loc
 obtain⟨sl,hL⟩:=u.any ho I.free (by simp)
 exact I.step (g':=s.gens) (d':=s.drawn) (ch:=[]) (λ_ z=>nomatch z) (λb o _ hb _ e n=>u.keep b o e n hb (by simp)) (λb o _ hb _ e n=>u.slot b o e n hb (by simp)) (λb o _ e n=>u.free b o e n (by simp)) (λb o _ e=>u.there b o e (by simp)) u.tups u.frzs u.tbls (λm' hm=>by
  obtain⟨o',es',ep',ho',r'⟩:=hm
  rw[ho] at ho';cases ho'
  exact⟨_,es',ep',hL,r'⟩) hok I.bare
def Inv.call{g':Array GenState}{t':Nat}{d':Drawn}{ch:List Addr}(I:Inv X pins σ H s)(u:Un (frs X.stack) ch H H' s.heap h')(hok:HOk X.prog X.w H' h')(hg:AllBare g')(hch:∀b∈ch,(b∈X.ex\/X.s₀.heap.objs.size<=b)/\b≠X.env.locals/\(∀x c,X.env.cells.lookup x=some c->c≠b)/\∀p∈X.pn++pins,p.1≠b) :
  Inv X pins σ H' { s with heap:=h',gens:=g',drawn:=d',toks:=t' }:=by
 obtain⟨m,⟨o,es,ep,ho,r⟩,_⟩:=id I.loc
 obtain⟨sl,hL⟩:=u.any ho I.free λz=>(hch _ z).2.1 rfl
 exact I.step (ch:=ch) hch (λb o hL hb hc e n=>u.keep b o e n (λz=>(Ó.mp (I.uU b z)).elim hL hb) hc) (λb o _ _ hc e n=>u.any e n hc) (λb o hc e n=>u.free b o e n hc) (λb o hc e=>u.there b o e hc) u.tups u.frzs u.tbls (λm' hm=>by
  obtain⟨o',es',ep',ho',r'⟩:=hm
  rw[ho] at ho';cases ho'
  exact⟨_,es',ep',hL,r'⟩) hok hg
def Inv.turned{t':Nat}{it:Addr}(I:Inv X pins σ H s)(k:∀b o,b≠it->s.heap.get? b=some o->h'.get? b=some o)(hn:H it=none)(hL:it≠X.env.locals)(h1:it∈X.ex\/X.s₀.heap.objs.size<=it)(h2:∀x c,X.env.cells.lookup x=some c->c≠it)(h3:∀p∈X.pn++pins,p.1≠it):Inv X pins σ H { s with heap:=h',toks:=t' }:=by
 have nit:∀b u,H b=some u->b≠it:=λb u e z=>by rw[z,hn] at e;cases e
 refine I.step (g':=s.gens) (d':=s.drawn) (ch:=[it]) (λb hb=>?_) (λb o _ _ hc e _=>k b o (λz=>hc (by simp[z])) e) (λb o _ _ hc e _=>⟨o.slots,k b o (λz=>hc (by simp[z])) e⟩) (λ_ _ _ _ n=>n)
  (λb o hc e=>⟨o,k b o (λz=>hc (by simp[z])) e⟩) (λ_ _ e=>e) (λ_ _ _ e=>e) (λb ps e=>⟨#[],by rw[e];simp⟩) (λm hm=>?_) (λb u e=>?_) I.bare
 ·have e:b=it:=by simpa using hb
  subst e
  exact⟨h1,hL,h2,h3⟩
 ·obtain⟨o,es,ep,ho,r⟩:=hm
  exact⟨o,es,ep,k _ o (ġ hL) ho,r⟩
 ·refine(I.hok b u e).stay (λc v hc q=>k c v ?_ q) (λ_ q=>q) λ_ _ q=>q
  rcases hc with z|z
  ·rw[z];exact nit b u e
  ·exact nit c _ z
def Inv.tok(I:Inv X pins σ H s)(t:Nat):Inv X pins σ H { s with toks:=t }:=I.un (h':=s.heap) (t':=t) Un.refl I.hok
def Inv.kept{t':Nat}(I:Inv X pins σ H s)(k:∀b u,s.heap.get? b=some u->h'.get? b=some u):Inv X pins σ H { s with heap:=h',toks:=t' }:=I.un (Un.kept k) (I.hok.kept k)
def Inv.laid{a:Addr}{o:HO}{t':Nat}(I:Inv X pins σ H s)(k:∀b u,s.heap.get? b=some u->h'.get? b=some u)(hp:s.heap.objs.size<=a)(new:aX X.prog X.w (upd H a o) h' a o) :
  Inv X pins σ (upd H a o) { s with heap:=h',toks:=t' }:=I.un (Un.laid k hp (I.hok.fresh hp)) (I.hok.laid k hp new)
def Inv.write{x e:Addr}{o:HO}{t':Nat}(I:Inv X pins σ H s)(mu:Mut (H x))(he:e=x\/H e=some (.own x))(k:∀b u,b≠e->s.heap.get? b=some u->h'.get? b=some u)(heo:∃u,h'.get? e=some u)(new:aX X.prog X.w (upd H x o) h' x o):Inv X pins σ (upd H x o) { s with heap:=h',toks:=t' }:=I.un (Un.write mu he k heo) (I.hok.write mu he k heo new)
def Inv.qd{pins':List (Addr×Obj)}(I:Inv X pins σ H s)(h:∀p∈pins',s.heap.get? p.1=some p.2/\H p.1=none/\p.1≠X.env.locals/\p.1∉X.fs/\∀v,p.2.data≠.cell v):Inv X pins' σ H s :=
 ⟨I.ok,I.os,I.bare,I.base,I.loc,I.cell,I.free,I.freeC,λp hp=>(ä.mp hp).elim (λz=>I.pin p (Ě _ z)) (h p),I.hok,I.len⟩
def yD{N:List Str}(hN:N.Nodup){i j:Nat}{x:Str}(a:N[i]?=some x)(b:N[j]?=some x):i=j:=by
 obtain⟨h1,e1⟩:=Ö.mp a
 obtain⟨h2,e2⟩:=Ö.mp b
 exact(List.getElem_inj hN).mp (e1.trans e2.symm)
def tM{M:Model}{A:Around}{E:Value->Shared->Prop}{i:Nat}{x:Str}{v:V}{u:Value}{Q:Unit->Shared->Prop}(I:Inv X pins σ H s)(hU:∀j,X.N[j]?=some x->j=i)(hi:X.N[i]?=some x)(hx:Loc X.env.scope x)(r:RelV v u)(h:∀s',Inv X pins (σ.set i (some v)) H s'->(∃a,Heap.SameBut a s.heap s'.heap/\(a=X.env.locals\/X.env.cells.lookup x=some a))->Q () s')(hf:X.fn x=true\/X.env.scope.names.lookup x=some .local:=by first|exact .inl rfl|exact .inr rfl|assumption):wpAny M A (storeName X.env x u) Q E s:=by
 obtain⟨m,hn,hl⟩:=id I.loc
 have hcls:(X.env.scope.kind == .class || (X.env.scope.kind == .module&&X.env.locals != X.env.globals))=false:=by rw[I.ok.kind];rfl
 have hiσ:i<σ.length:=by rw[I.len];exact(Ö.mp hi).1
 have cne:=I.cne
 have tracked:∀{a:Addr}{h':Heap},(∃o,s.heap.get? a=some o/\H a=none)->Heap.SameBut a s.heap h'->HOk X.prog X.w H h':=λ{a h'} ha hs b ob e=>by
  obtain⟨_,_,hfree⟩:=ha
  refine(I.hok b ob e).stay (λc w' hc q=>(hs.2 c ?_).trans q) (λ_ q=>q) λ_ _ q=>q
  rintro rfl
  rcases hc with rfl|hc
  ·rw[hfree] at e;cases e
  ·rw[hfree] at hc;cases hc
 rcases hx with hk|hk
 ·refine wpAny_storeName_local hk hn (λh' hn' hs=>?_) hcls
  obtain⟨oL,_,_,hoL,_⟩:=id hn
  refine h _ ⟨I.ok,I.os,I.bare,⟨λb o e n hb hx=>?_,λb o e n hb hx=>?_,I.base.free,λb o e hx=>?_,I.base.tups,I.base.frzs,I.base.tbls⟩,⟨_,hn',λj y v' e1 e2 e3=>?_⟩,λy c e=>?_,I.free,I.freeC,λp hp=>?_,tracked ⟨oL,hoL,I.free⟩ hs,by simpa using I.len⟩ ⟨_,hs,.inl rfl⟩
  ·exact(hs.2 b (á (æ (Î e) I.ok.above))).trans (I.base.keep b o e n hb hx)
  ·obtain⟨sl,e1⟩:=I.base.slot b o e n hb hx
   exact⟨sl,(hs.2 b (á (æ (Î e) I.ok.above))).trans e1⟩
  ·obtain⟨o',e1⟩:=I.base.there b o e hx
   exact⟨o',(hs.2 b (á (æ (Î e) I.ok.above))).trans e1⟩
  ·by_cases hj:j=i
   ·subst hj
    rw[hi] at e1;cases e1
    rw[ē hiσ] at e2
    cases e2
    exact⟨u,r,.inl ⟨hk,by simp⟩⟩
   ·rw[ō (ġ hj)] at e2
    obtain⟨u',r',q⟩:=hl j y v' e1 e2 e3
    refine⟨u',r',?_⟩
    rcases q with ⟨k,e⟩|⟨k,c,e,z⟩
    ·refine .inl ⟨k,?_⟩
     have:y≠x:=λe=>hj (hU _ (e ▸ e1))
     simp[this,e]
    ·exact .inr ⟨k,c,e,z.sameBut hs (cne y c e)⟩
  ·obtain⟨w',z⟩:=I.cell y c e
   exact⟨w',z.sameBut hs (cne y c e)⟩
  ·obtain⟨e,n,ne,nf,d⟩:=I.pin p hp
   exact⟨(hs.2 p.1 ne).trans e,n,ne,nf,d⟩
 ·have hfn:X.fn x=true:=by
   rcases hf with z|z
   ·exact z
   ·rw[z] at hk;cases hk
  obtain⟨c,hc⟩:=I.ok.has x (.inl hk)
  obtain⟨w',z⟩:=I.cell x c hc
  refine wpAny_storeName_cell I.ok.kind hk hc z (λh' hc' hs=>?_)
  obtain⟨oc,hoc,hocd⟩:=id z
  refine h { s with heap:=h' } ⟨I.ok,I.os,I.bare,⟨λb o e n hb hx=>?_,λb o e n hb hx=>?_,I.base.free,λb o e hx=>?_,I.base.tups,I.base.frzs,I.base.tbls⟩,⟨m,hn.sameBut hs (ġ (cne x c hc)),λj y v' e1 e2 e3=>?_⟩,λy c' e=>?_,I.free,I.freeC,λp hp=>?_,tracked ⟨oc,hoc,I.freeC x c hc⟩ hs,by simpa using I.len⟩ ⟨c,hs,.inr hc⟩
  ·exact(hs.2 b (á (æ (Î e) (I.ok.cab x c hfn hc)))).trans (I.base.keep b o e n hb hx)
  ·obtain⟨sl,e1⟩:=I.base.slot b o e n hb hx
   exact⟨sl,(hs.2 b (á (æ (Î e) (I.ok.cab x c hfn hc)))).trans e1⟩
  ·obtain⟨o',e1⟩:=I.base.there b o e hx
   exact⟨o',(hs.2 b (á (æ (Î e) (I.ok.cab x c hfn hc)))).trans e1⟩
  ·by_cases hj:j=i
   ·subst hj
    rw[hi] at e1;cases e1
    rw[ē hiσ] at e2
    cases e2
    exact⟨u,r,.inr ⟨.inl hk,c,hc,hc'⟩⟩
   ·rw[ō (ġ hj)] at e2
    obtain⟨u',r',q⟩:=hl j y v' e1 e2 e3
    refine⟨u',r',?_⟩
    rcases q with q|⟨k,c',e,z'⟩
    ·exact .inl q
    ·refine .inr ⟨k,c',e,z'.sameBut hs ?_⟩
     rintro rfl
     exact hj (hU _ (I.ok.inj _ _ _ e hc ▸ e1))
  ·by_cases hcc:c'=c
   ·subst hcc;exact⟨_,hc'⟩
   ·obtain⟨w2,z2⟩:=I.cell y c' e
    exact⟨w2,z2.sameBut hs hcc⟩
  ·obtain⟨e,n,ne,nf,d⟩:=I.pin p hp
   refine⟨(hs.2 p.1 ?_).trans e,n,ne,nf,d⟩
   intro q
   rw[q,hoc] at e
   have q':oc=p.2:=ç e
   exact d w' (by rw[←q'];exact hocd)
def xR{M:Model}{A:Around}{E:Value->Shared->Prop}{i:Nat}{x:Str}{v:V}{u:Value}{Q:Unit->Shared->Prop}(I:Inv X pins σ H s)(hN:X.N.Nodup)(hi:X.N[i]?=some x)(hx:Loc X.env.scope x)(r:RelV v u)(h:∀s',Inv X pins (σ.set i (some v)) H s'->Q () s')(hf:X.fn x=true\/X.env.scope.names.lookup x=some .local:=by first|exact .inl rfl|exact .inr rfl|assumption):wpAny M A (storeName X.env x u) Q E s :=
 tM I (λj h=>yD hN h hi) hi hx r (λs' I' _=>h s' I') hf
def Inv.call'{s':Shared}{ch:List Addr}(I:Inv X pins σ H s)(ho:s'.os=s.os)(u:Un (frs X.stack) ch H H' s.heap s'.heap)(hok:HOk X.prog X.w H' s'.heap)(hg:AllBare s'.gens)(hch:∀b∈ch,(b∈X.ex\/X.s₀.heap.objs.size<=b)/\b≠X.env.locals/\(∀x c,X.env.cells.lookup x=some c->c≠b)/\∀p∈X.pn++pins,p.1≠b):Inv X pins σ H' s':=by
 obtain⟨h',g',d',t',o'⟩:=s'
 have e:o'=s.os:=ho
 subst e
 exact I.call (g':=g') (t':=t') (d':=d') u hok hg hch
end
abbrev XK:=Value->Option Addr->Hp->Prop
abbrev St:=List (Option V)
abbrev VK:=V->Hp->Prop
abbrev TE:=St->Hp->VK->Prop
abbrev TT:=St->Hp->(Bool->Hp->Prop)->Prop
abbrev TA:=St->Hp->(List V->Hp->Prop)->Prop
structure Ends where
 nx:St->Hp->Prop
 rt:VK
 bk:St->Hp->Prop:=λ_ _=>False
 ct:St->Hp->Prop:=λ_ _=>False
abbrev TS:=Ends->St->Hp->Prop
def EP(X:Cx)(pins:List (Addr×Obj))(σ:St)(Q:VK)(u:Value)(s':Shared):Prop:=∃v H',Inv X pins σ H' s'/\RelV v u/\Q v H'
def TP(X:Cx)(pins:List (Addr×Obj))(σ:St)(Q:Bool->Hp->Prop)(b:Bool)(s':Shared):Prop:=∃H',Inv X pins σ H' s'/\Q b H'
def AP(X:Cx)(pins:List (Addr×Obj))(σ:St)(Q:List V->Hp->Prop)(us:List Value)(s':Shared):Prop:=∃vs H',Inv X pins σ H' s'/\Vals vs us/\Q vs H'
def SP(X:Cx)(pins:List (Addr×Obj))(D:Ends)(f:Flow)(s':Shared):Prop :=
 match f with
 |.next=>∃σ' H',Inv X pins σ' H' s'/\D.nx σ' H'
 |.brk=>∃σ' H',Inv X pins σ' H' s'/\D.bk σ' H'
 |.cont=>∃σ' H',Inv X pins σ' H' s'/\D.ct σ' H'
 |.ret u=>∃v σ' H',Inv X pins σ' H' s'/\RelV v u/\D.rt v H'
def PE(X:Cx)(e:Expr)(t:TE):Prop :=
 ∀(pins:List (Addr×Obj)) (s:Shared) (σ:St) (H:Hp) (Q:VK),Inv X pins σ H s->t σ H Q->wpAny (model X.prog X.w) X.A (eval e X.env) (EP X pins σ Q) X.xe s
def PT(X:Cx)(e:Expr)(t:TT):Prop :=
 ∀(pins:List (Addr×Obj)) (s:Shared) (σ:St) (H:Hp) (Q:Bool->Hp->Prop),Inv X pins σ H s->t σ H Q->wpAny (model X.prog X.w) X.A (isTrue e X.env (eval e X.env)) (TP X pins σ Q) X.xe s
def PW(X:Cx)(e:Expr)(t:TT):Prop :=
 ∀(whole:Sem Value) (pins:List (Addr×Obj)) (s:Shared) (σ:St) (H:Hp) (Q:Bool->Hp->Prop),Inv X pins σ H s->t σ H Q->wpAny (model X.prog X.w) X.A (isTrue e X.env whole) (TP X pins σ Q) X.xe s
def PW.pt{X:Cx}{e:Expr}{t:TT}(h:PW X e t):PT X e t:=h _
def PA(X:Cx)(es:List Expr)(t:TA):Prop :=
 ∀(pos:Pos) (pins:List (Addr×Obj)) (s:Shared) (σ:St) (H:Hp) (Q:List V->Hp->Prop),Inv X pins σ H s->t σ H Q->wpAny (model X.prog X.w) X.A (spliced (backTo pos (starEach es X.env))) (AP X pins σ Q) X.xe s
def PS(X:Cx)(st:Stmt)(t:TS):Prop :=
 ∀(pins:List (Addr×Obj)) (s:Shared) (σ:St) (H:Hp) (D:Ends),Inv X pins σ H s->t D σ H->wpAny (model X.prog X.w) X.A (exec st X.env) (SP X pins D) X.xe s
def PSs(X:Cx)(st:List Stmt)(t:TS):Prop :=
 ∀(pins:List (Addr×Obj)) (s:Shared) (σ:St) (H:Hp) (D:Ends),Inv X pins σ H s->t D σ H->wpAny (model X.prog X.w) X.A (execs st X.env) (SP X pins D) X.xe s
def thn{α:Type}{t:Sem α}{Q Q':α->Shared->Prop}{M:Model}{A:Around}{E:Value->Shared->Prop}{s:Shared}(h:wpAny M A t Q E s)(hQ:∀a s,Q a s->Q' a s):wpAny M A t Q' E s:=į h hQ λ_ _ x=>x
section
variable {X:Cx}
def bin{a b:Expr}{ta tb:TE}(ha:PE X a ta)(hb:PE X b tb){pins:List (Addr×Obj)}{s:Shared}{σ:St}{H:Hp}{R:V->V->Hp->Prop}(I:Inv X pins σ H s)(h:ta σ H λx H1=>tb σ H1 λy H2=>R x y H2){α:Type}{Q:α->Shared->Prop}{f:Value->Value->Sem α}(hf:∀v u s2 x y H2,Inv X pins σ H2 s2->RelV x v->RelV y u->R x y H2->wpAny (model X.prog X.w) X.A (f v u) Q X.xe s2) :
  wpAny (model X.prog X.w) X.A (eval a X.env) (λv s₁=>wpAny (model X.prog X.w) X.A (eval b X.env) (λu s₂=>wpAny (model X.prog X.w) X.A (f v u) Q X.xe s₂) X.xe s₁) X.xe s:=by
 refine thn (ha pins s σ H _ I h) λv s1 ⟨x,H1,I1,r1,q1⟩=>?_
 refine thn (hb pins s1 σ H1 _ I1 q1) λu s2 ⟨y,H2,I2,r2,q2⟩=>?_
 exact hf v u s2 x y H2 I2 r1 r2 q2
def jf(i:Nat):TE:=λσ H Q=>∃v,σ[i]?=some (some v)/\Q v H
def tC(v:V):TE:=λ_ H Q=>Q v H
def QT{i:Nat}{x:Str}{pos:Pos}(hN:X.N[i]?=some x)(hv:Vis X.env.scope x)(hd:(x == ("__debug__":Str))=false:=by decide)(hcd:(x == ("__classdict__":Str))=false:=by decide):PE X (.Name x pos) (jf i):=by
 intro pins s σ H Q I h
 obtain⟨v,e,h⟩:=h
 obtain⟨m,hn,hl⟩:=I.loc
 obtain⟨u,r,l⟩:=hl i x v hN e hv
 have fin:EP X pins σ Q u s:=⟨v,H,I,r,h⟩
 rcases l with ⟨hk,hm⟩|⟨hk,c,hc,hcell⟩
 ·exact wpAny_Name (wpAny_loadName_local I.ok.kind hk hn hm fin) hd
 ·rcases hk with hk|hk
  ·exact wpAny_Name (wpAny_loadName_cell I.ok.kind hk hc hcell fin) hd
  ·exact wpAny_Name (wpAny_loadName_free I.ok.kind hk hc hcell fin hcd) hd
def bV{i j pos}:PE X (.Constant (.int i) j pos) (tC (.int i)):=λ_ _ _ H _ I h=>wpAny_Constant_int ⟨.int i,H,I.tok _,⟨_,rfl⟩,h⟩
def Uv{b j pos}:PE X (.Constant (.bool b) j pos) (tC (.bl b)):=λ_ _ _ H _ I h=>Constant_bool ⟨.bl b,H,I,rfl,h⟩
def QZ{j pos}:PE X (.Constant .none j pos) (tC .non):=λ_ _ _ H _ I h=>Constant_none ⟨.non,H,I,rfl,h⟩
def dH{x j pos}:PE X (.Constant (.str x) j pos) (tC (.str x)):=λ_ _ _ H _ I h=>Calls.Constant_str ⟨.str x,H,I.tok _,⟨_,rfl⟩,h⟩
def Gl(X:Cx)(x:Str):Prop:=X.env.kindOf x=some .globalImplicit
def Dw{E:Value->Shared->Prop}{pins:List (Addr×Obj)}{s:Shared}{σ:St}{H:Hp}{x:Str}{u:Value}{pos:Pos}{Q:Value->Shared->Prop}(I:Inv X pins σ H s)(hg:Gl X x)(hm:X.mg x=some u)(h:Q u s)(hd:(x == ("__debug__":Str))=false:=by decide):wpAny (model X.prog X.w) X.A (eval (.Name x pos) X.env) Q E s :=
 Calls.Name_function_global I.ok.kind hg (Calls.loadGlobal_global (by rw[I.ok.glob];exact I.mod.glob.keeps I.bk) hm h) hd
def lV{E:Value->Shared->Prop}{pins:List (Addr×Obj)}{s:Shared}{σ:St}{H:Hp}{x:Str}{u:Value}{pos:Pos}{Q:Value->Shared->Prop}(I:Inv X pins σ H s)(hg:Gl X x)(hm:X.mg x=none)(hv:bootBuiltins x=some u)(h:Q u s)(hn:x≠"__name__":=by decide)(hd:(x == ("__debug__":Str))=false:=by decide):wpAny (model X.prog X.w) X.A (eval (.Name x pos) X.env) Q E s:=by
 obtain⟨mb,h1,h2⟩:=I.mod.blt
 exact Calls.Name_function_global I.ok.kind hg (Calls.loadGlobal_builtin (by rw[I.ok.glob];exact I.mod.glob.keeps I.bk) hm (by rw[I.ok.blt];exact h1.keeps I.bk) ((h2 x hn).trans hv) h) hd
def mQ{x:Str}{v:V}{u:Value}{pos:Pos}(hg:Gl X x)(hm:X.mg x=none)(hv:bootBuiltins x=some u)(r:RelV v u)(hn:x≠"__name__":=by decide)(hd:(x == ("__debug__":Str))=false:=by decide):PE X (.Name x pos) (tC v) :=
 λ_ _ _ H _ I h=>lV I hg hm hv ⟨v,H,I,r,h⟩ hn hd
variable {a b:Expr}{ta tb:TE}{pos:Pos}
def PC(X:Cx)(op:CmpOp)(a b:Expr)(t:TE):Prop :=
 ∀(pins:List (Addr×Obj)) (s:Shared) (σ:St) (H:Hp) (Q:VK),Inv X pins σ H s->t σ H Q ->
  wpAny (model X.prog X.w) X.A (eval a X.env) (λv s₁=>wpAny (model X.prog X.w) X.A (eval b X.env) (λu s₂=>wpAny (model X.prog X.w) X.A (compareOp op v u) (EP X pins σ Q) X.xe s₂) X.xe s₁) X.xe s
def tB(t:TE):TT:=λσ H Q=>t σ H λx H1=>∃c,x=.bl c/\Q c H1
def Wu{op:CmpOp}{t:TE}(h:PC X op a b t)(h1:behindInMarks op b=false:=by first|exact nobehind _ (by decide) (by decide)|rfl):PT X (.Compare a [op] [b] pos) (tB t):=by
 intro pins s σ H Q I hw
 refine wpAny_isTrue_Compare1 (thn (h pins s σ H _ I hw) λv s1 h1=>thn h1 λu s2 h2=>thn h2 λc s3 ⟨x,H1,I1,r1,q1⟩=>?_) h1
 obtain⟨d,rfl,q⟩:=q1
 cases r1
 exact Į ⟨H1,I1,q⟩
def QD{e:Expr}{t:TE}(h:PE X e t)(he:∀whole,isTrue e X.env whole=(do let v ←whole;standAt e.pos;holding [v] (truthy v)):=by intro _;rfl):PT X e (tB t):=by
 intro pins s σ H Q I hw
 refine isTrue_plain (thn (h pins s σ H _ I hw) λv s1 ⟨x,H1,I1,r1,q1⟩=>?_) (he _)
 obtain⟨d,rfl,q⟩:=q1
 cases r1
 exact Į ⟨H1,I1,q⟩
variable {tA tB':TT}{rest:List Expr}
def T3(t u:TT):TT:=λσ H Q=>t σ H λc H1=>if c=true then u σ H1 Q else Q false H1
def tOr(t u:TT):TT:=λσ H Q=>t σ H λc H1=>if c=true then Q true H1 else u σ H1 Q
def Wa(t:TT):TT:=λσ H Q=>t σ H λc H1=>Q (!c) H1
def LK(ha:PT X a tA):PW X (.BoolOp .And [a] pos) tA:=by
 intro wh pins s σ H Q I h
 refine isTrue_and (thn (ha pins s σ H Q I h) λc s1 e=>?_)
 cases c with
 |true=>exact isTrue_and_nil e
 |false=>exact e
def QB(ha:PT X a tA):PW X (.BoolOp .Or [a] pos) tA:=by
 intro wh pins s σ H Q I h
 refine isTrue_or (thn (ha pins s σ H Q I h) λc s1 e=>?_)
 cases c with
 |false=>exact isTrue_or_nil e
 |true=>exact e
def QC(ha:PT X a tA)(hb:PW X (.BoolOp .And (b::rest) pos) tB'):PW X (.BoolOp .And (a::b::rest) pos) (T3 tA tB'):=by
 intro wh pins s σ H Q I h
 refine isTrue_and (thn (ha pins s σ H _ I h) λc s1 ⟨H1,I1,q1⟩=>?_)
 cases c with
 |true=>exact hb wh pins s1 σ H1 Q I1 q1
 |false=>exact⟨H1,I1,q1⟩
def Uo(ha:PT X a tA)(hb:PW X (.BoolOp .Or (b::rest) pos) tB'):PW X (.BoolOp .Or (a::b::rest) pos) (tOr tA tB'):=by
 intro wh pins s σ H Q I h
 refine isTrue_or (thn (ha pins s σ H _ I h) λc s1 ⟨H1,I1,q1⟩=>?_)
 cases c with
 |true=>exact⟨H1,I1,q1⟩
 |false=>exact hb wh pins s1 σ H1 Q I1 q1
def QF(ha:PT X a tA):PT X (.UnaryOp .Not a pos) (Wa tA):=by
 intro pins s σ H Q I h
 exact isTrue_not (ha pins s σ H (λc H1=>Q (!c) H1) I h)
def TY(ta tb:TE):TE:=λσ H Q=>ta σ H λx H1=>∃c,x=.bl c/\if c=true then tb σ H1 Q else Q (.bl false) H1
def Tt(ta:TE):TE:=λσ H Q=>ta σ H λx H1=>∃c,x=.bl c/\Q (.bl (!c)) H1
def QW{op}{t:TE}(h:PE X a t):PE X (.BoolOp op [a] pos) t:=λpins s σ H Q I hw=>BoolOp_one (h pins s σ H Q I hw)
def Q0(ha:PE X a ta)(hb:PE X (.BoolOp .And (b::rest) pos) tb):PE X (.BoolOp .And (a::b::rest) pos) (TY ta tb):=by
 intro pins s σ H Q I h
 refine BoolOp_and (thn (ha pins s σ H _ I h) λv s1 ⟨x,H1,I1,r1,q1⟩=>?_)
 obtain⟨c,rfl,q1⟩:=q1
 cases r1
 refine Į ?_
 cases c with
 |true=>exact hb pins s1 σ H1 Q I1 q1
 |false=>exact⟨.bl false,H1,I1,rfl,q1⟩
def QX(ha:PE X a ta):PE X (.UnaryOp .Not a pos) (Tt ta):=by
 intro pins s σ H Q I h
 refine UnaryOp_ (thn (ha pins s σ H _ I h) λv s1 ⟨x,H1,I1,r1,q1⟩=>?_)
 obtain⟨c,rfl,q1⟩:=q1
 cases r1
 exact not_of (Į ⟨.bl (!c),H1,I1,rfl,q1⟩)
def tIf(t:TT)(ta tb:TE):TE:=λσ H Q=>t σ H λc H1=>if c=true then ta σ H1 Q else tb σ H1 Q
def Io{c:Expr}(hc:PT X c tA)(ha:PE X a ta)(hb:PE X b tb):PE X (.IfExp c a b pos) (tIf tA ta tb):=by
 intro pins s σ H Q I h
 refine wpAny_IfExp (thn (hc pins s σ H _ I h) λd s1 ⟨H1,I1,q1⟩=>?_)
 cases d with
 |true=>exact ha pins s1 σ H1 Q I1 q1
 |false=>exact hb pins s1 σ H1 Q I1 q1
end
def SqL(K:Ú)(H:Hp)(a:Addr)(xs:List V):Prop :=
 Rd H a (.lst xs) ∨
  ∃(o:Obj) (its:Array Value) (n:Nat),K.lookup a=some o/\o.cls=.type "list"/\o.dict=none/\o.data=.seq its n/\its.size<=sizeLine/\Vals xs its.toList
def SqT(K:Ú)(H:Hp)(a:Addr)(xs:List V):Prop :=
 Rd H a (.tup xs) ∨
  ∃(o:Obj) (its:Array Value) (n:Nat),K.lookup a=some o/\o.cls=.type "tuple"/\o.data=.seq its n/\its.size<=sizeLine/\Vals xs its.toList
def W5:Value->Option V
 |.none=>some .non
 |.bool b=>some (.bl b)
 |.int i _=>some (.int i)
 |.str x _=>some (.str x)
 |.bytes b _=>some (.byt b)
 |.float b _=>some (.flt b)
 |.ref a=>some (.ref a)
 |.type n=>some (.ty n)
 |_=>none
def RelV.abs{x:V}{u:Value}(r:RelV x u):W5 u=some x:=by
 cases x with
 |non=>cases r;rfl
 |bl _=>cases r;rfl
 |int _=>obtain⟨t,rfl⟩:=r;rfl
 |str _=>obtain⟨t,rfl⟩:=r;rfl
 |byt _=>obtain⟨t,rfl⟩:=r;rfl
 |flt _=>obtain⟨t,rfl⟩:=r;rfl
 |ref _=>cases r;rfl
 |ty _=>cases r;rfl
def RelV.inj{x y:V}{u:Value}(r:RelV x u)(q:RelV y u):x=y:=ç (r.abs.symm.trans q.abs)
def Vals.inj:∀{xs ys:List V}{us:List Value},Vals xs us->Vals ys us->xs=ys
 |_,_,_,.nil,.nil=>rfl
 |_,_,_,.cons r t,.cons r' t'=>by rw[r.inj r',Vals.inj t t']
section
variable {X:Cx}{pins:List (Addr×Obj)}{σ:St}{H:Hp}{s:Shared}{a:Addr}{xs ys:List V}
def SqL.of{K:Ú}(h:H a=some (.lst xs)):SqL K H a xs:=.inl (.inl h)
def SqT.of{K:Ú}(h:H a=some (.tup xs)):SqT K H a xs:=.inl (.inl h)
def Inv.list(I:Inv X pins σ H s)(h:SqL X.K H a xs):∃its:List Value,Vals xs its/\PlainL s.heap a its.toArray/\xs.length<=sizeLine:=by
 rcases h with h|⟨o,its,n,hk,hc,hd,hs,hz,r⟩
 ·obtain⟨z,its,n,r,e⟩:=h.ok I.hok
  exact⟨its,r,⟨_,n,e,rfl,rfl,rfl⟩,z⟩
 ·refine⟨its.toList,r,⟨o,n,I.kIn a o hk,hc,hd,by simpa using hs⟩,?_⟩
  have e:=r.length
  simp only[Ī] at e
  omega
def Inv.tuple(I:Inv X pins σ H s)(h:SqT X.K H a xs):∃its:List Value,Vals xs its/\IsTup s.heap a its.toArray/\xs.length<=sizeLine:=by
 rcases h with h|⟨o,its,n,hk,hc,hs,hz,r⟩
 ·obtain⟨z,its,r,p⟩:=h.ok I.hok
  exact⟨its,r,p,z⟩
 ·refine⟨its.toList,r,⟨o,I.kIn a o hk,hc,n,by simpa using hs⟩,?_⟩
  have e:=r.length
  simp only[Ī] at e
  omega
def Inv.Jz(I:Inv X pins σ H s)(h:SqL X.K H a xs)(h':SqL X.K H a ys):xs=ys:=by
 obtain⟨its,r,⟨o,n,e,_,_,d⟩,_⟩:=I.list h
 obtain⟨its',r',⟨o',n',e',_,_,d'⟩,_⟩:=I.list h'
 rw[e] at e';cases e'
 rw[d] at d'
 injection d' with d1 _
 have:its=its':=by simpa using congrArg Array.toList d1
 subst this
 exact r.inj r'
def Inv.Ew(I:Inv X pins σ H s)(h:SqT X.K H a xs)(h':SqT X.K H a ys):xs=ys:=by
 obtain⟨its,r,⟨o,e,_,n,d⟩,_⟩:=I.tuple h
 obtain⟨its',r',⟨o',e',_,n',d'⟩,_⟩:=I.tuple h'
 rw[e] at e';cases e'
 rw[d] at d'
 injection d' with d1 _
 have:its=its':=by simpa using congrArg Array.toList d1
 subst this
 exact r.inj r'
end
abbrev Cx.wish(X:Cx)(E:Value->Shared->Prop):Cx:={ X with xe:=E }
abbrev Cx.nox(X:Cx):Cx:=X.wish λ_ _=>False
def Cx.Ok.wish{X:Cx}(ok:X.Ok)(E:Value->Shared->Prop):(X.wish E).Ok :=
 ⟨ok.mod,ok.kind,ok.glob,ok.blt,ok.above,ok.inj,ok.has,ok.cab,ok.hd,ok.frames,ok.stk,ok.exf,ok.bs,ok.bsz,ok.noex,ok.exfs,ok.nG,ok.frf,ok.sof⟩
def Cx.Ok.jh{X:Cx}{E:Value->Shared->Prop}(ok:(X.wish E).Ok):X.Ok :=
 ⟨ok.mod,ok.kind,ok.glob,ok.blt,ok.above,ok.inj,ok.has,ok.cab,ok.hd,ok.frames,ok.stk,ok.exf,ok.bs,ok.bsz,ok.noex,ok.exfs,ok.nG,ok.frf,ok.sof⟩
section
variable {X:Cx}{pins:List (Addr×Obj)}{σ:St}{H:Hp}{s:Shared}{E:Value->Shared->Prop}
def Inv.wish(I:Inv X pins σ H s)(E:Value->Shared->Prop):Inv (X.wish E) pins σ H s:=⟨I.ok.wish E,I.os,I.bare,I.base,I.loc,I.cell,I.free,I.freeC,I.pin,I.hok,I.len⟩
def Inv.jh(I:Inv (X.wish E) pins σ H s):Inv X pins σ H s:=⟨I.ok.jh,I.os,I.bare,I.base,I.loc,I.cell,I.free,I.freeC,I.pin,I.hok,I.len⟩
def SP.jh{D:Ends}{f:Flow}{s':Shared}(h:SP (X.wish E) pins D f s'):SP X pins D f s':=by
 cases f with
 |next=>obtain⟨σ',H',I,q⟩:=h;exact⟨σ',H',I.jh,q⟩
 |brk=>obtain⟨σ',H',I,q⟩:=h;exact⟨σ',H',I.jh,q⟩
 |cont=>obtain⟨σ',H',I,q⟩:=h;exact⟨σ',H',I.jh,q⟩
 |ret u=>obtain⟨v,σ',H',I,r,q⟩:=h;exact⟨v,σ',H',I.jh,r,q⟩
def PSs.nox{st:List Stmt}{t:TS}(h:PSs X.nox st t):PSs X st t:=λpins s σ H D I hw =>
 į (h pins s σ H D (I.wish _) hw) (λ_ _ q=>q.jh) λ_ _ z=>Ľ z
end
section
variable {X:Cx}{st:Stmt}{rest:List Stmt}{t u:TS}{e:Expr}{te:TE}{pos:Pos}
def Tw:TS:=λD σ H=>D.nx σ H
def Tq(t u:TS):TS:=λD σ H=>t { D with nx:=u D } σ H
def qb:PSs X [] Tw:=λ_ _ σ H _ I h=>wpAny_execs_nil ⟨σ,H,I,h⟩
def qO(h1:PS X st t)(h2:PSs X rest u):PSs X (st::rest) (Tq t u):=by
 intro pins s σ H D I h
 refine wpAny_execs_cons (thn (h1 pins s σ H { D with nx:=u D } I h) λf s1 q=>?_)
 cases f with
 |next =>
  obtain⟨σ',H',I',q⟩:=q
  exact h2 pins s1 σ' H' D I' q
 |ret v=>exact q
 |brk=>exact q
 |cont=>exact q
def gk(h1:PS X st t):PSs X [st] t:=by
 intro pins s σ H D I h
 refine wpAny_execs_cons (thn (h1 pins s σ H D I h) λf s1 q=>?_)
 cases f with
 |next=>exact wpAny_execs_nil q
 |ret v=>exact q
 |brk=>exact q
 |cont=>exact q
def Inv.quiet{pins:List (Addr×Obj)}{σ:St}{H:Hp}{s:Shared}(I:Inv X pins σ H s):interactive X.env=false:=by simp[interactive,I.ok.kind]
def tL(te:TE):TS:=λD σ H=>te σ H λ_ H1=>D.nx σ H1
def cC(he:PE X e te)(hs:swapsWith e none pos.line X.env=pure false:=by rfl):PS X (.Expr e pos) (tL te):=by
 intro pins s σ H D I h
 exact wpAny_Expr_any (thn (he pins s σ H _ I h) λv s1 ⟨x,H1,I1,r1,q1⟩=>⟨σ,H1,I1,q1⟩) I.quiet hs
def V9(te:TE):TS:=λD σ H=>te σ H D.rt
def lC(he:PE X e te):PS X (.Return (some e) pos) (V9 te):=by
 intro pins s σ H D I h
 exact wpAny_Return_some (thn (he pins s σ H _ I h) λv s1 ⟨x,H1,I1,r1,q1⟩=>⟨x,σ,H1,I1,r1,q1⟩)
def Wd(c:TT)(t u:TS):TS:=λD σ H=>c σ H λb H1=>if b=true then t D σ H1 else u D σ H1
def Df{c:Expr}{a b:List Stmt}{tc:TT}(hc:PT X c tc)(ha:PSs X a t)(hb:PSs X b u):PS X (.If c a b pos) (Wd tc t u):=by
 intro pins s σ H D I h
 refine wpAny_If (thn (hc pins s σ H _ I h) λd s1 ⟨H1,I1,q1⟩=>?_)
 cases d with
 |true=>exact ha pins s1 σ H1 D I1 q1
 |false=>exact hb pins s1 σ H1 D I1 q1
def Qm:TS:=λ_ _ _=>False
def Ie:PS X st Qm:=λ_ _ _ _ _ _ h=>h.elim
end
abbrev TG:=V->St->Hp->(St->Hp->Prop)->Prop
abbrev TGs:=List V->St->Hp->(St->Hp->Prop)->Prop
def PG(X:Cx)(target:Expr)(t:TG):Prop :=
 ∀(pins:List (Addr×Obj)) (s:Shared) (σ:St) (H:Hp) (v:V) (u:Value) (Q:St->Hp->Prop),Inv X pins σ H s->RelV v u->t v σ H Q ->
  wpAny (model X.prog X.w) X.A (assign target X.env u) (λ_ s'=>∃σ' H',Inv X pins σ' H' s'/\Q σ' H') X.xe s
def PGs(X:Cx)(ts:List Expr)(t:TGs):Prop :=
 ∀(pins:List (Addr×Obj)) (s:Shared) (σ:St) (H:Hp) (vs:List V) (us:List Value) (Q:St->Hp->Prop),Inv X pins σ H s->Vals vs us->t vs σ H Q ->
  wpAny (model X.prog X.w) X.A (assignInOrder ((assignEach ts X.env).map (·.2)) us) (λ_ s'=>∃σ' H',Inv X pins σ' H' s'/\Q σ' H') X.xe s
section
variable {X:Cx}{pos:Pos}
def jJ(i:Nat):TG:=λv σ H Q=>Q (σ.set i (some v)) H
def Di{i:Nat}{x:Str}(hN:X.N.Nodup)(hi:X.N[i]?=some x)(hx:Loc X.env.scope x)(hf:X.fn x=true\/X.env.scope.names.lookup x=some .local:=by first|exact .inl rfl|exact .inr rfl|assumption):PG X (.Name x pos) (jJ i):=by
 intro pins s σ H v u Q I r h
 exact wpAny_assign_Name (xR I hN hi hx r (λs' I'=>⟨_,H,I',h⟩) hf)
def W3:TGs:=λvs σ H Q=>vs=[]/\Q σ H
def Vk(t:TG)(u:TGs):TGs:=λvs σ H Q=>∃v r,vs=v::r/\t v σ H λσ' H'=>u r σ' H' Q
def Mf:PGs X [] W3:=by
 intro pins s σ H vs us Q I r h
 obtain⟨e,h⟩:=h
 subst e
 cases r
 exact assignInOrder_nil ⟨σ,H,I,h⟩
def Il{e:Expr}{es:List Expr}{t:TG}{u:TGs}(h1:PG X e t)(h2:PGs X es u)(hs:(assignEach (e::es) X.env).map (·.2)=assign e X.env::(assignEach es X.env).map (·.2):=by rfl):PGs X (e::es) (Vk t u):=by
 intro pins s σ H vs us Q I r h
 obtain⟨v,vr,e1,h⟩:=h
 subst e1
 cases r with
 |cons r rr =>
  rw[hs]
  refine assignInOrder_cons (thn (h1 pins s σ H _ _ _ I r h) λ_ s1 ⟨σ1,H1,I1,q1⟩=>?_)
  exact h2 pins s1 σ1 H1 _ _ Q I1 rr q1
def W2(K:Ú)(n:Nat)(t:TGs):TG:=λv σ H Q=>∃a xs,v=.ref a/\SqT K H a xs/\xs.length=n/\t xs σ H Q
def QS{es:List Expr}{k:Nat}{t:TGs}{n:Nat}(hc:X.calm=true)(h:PGs X es t)(hn:(assignEach es X.env).length=n:=by rfl)(hst:(assignEach es X.env).findIdx? (·.1)=none:=by rfl):PG X (.Tuple es k pos) (W2 X.K n t):=by
 intro pins s σ H v u Q I r hw
 obtain⟨a,xs,e1,hq,hl,hw⟩:=hw
 subst e1
 cases r
 obtain⟨its,rv,ht,hz⟩:=I.tuple hq
 refine assign_Tuple_tuple (I.ok.hd hc) ht (by simp[hn,←hl,rv.length]) hst λh' hx=>?_
 have I1:Inv X pins σ H { s with heap:=h' }:=I.kept (t':=s.toks) λb o e=>hx b o (á (Î e)) e
 exact h pins _ σ H xs _ Q I1 (by simpa using rv) hw
def sO(te:TE)(g:TG):TS:=λD σ H=>te σ H λx H1=>g x σ H1 D.nx
def QK{tg e:Expr}{te:TE}{g:TG}(he:PE X e te)(hg:PG X tg g)(hs:swapsWithSole [tg] e pos.line X.env=pure false:=by rfl)(hw:swappedStores [tg] e X.env=pure none:=by rfl)(h1:(assignEach [tg] X.env).map (·.2)=[assign tg X.env]:=by rfl):PS X (.Assign [tg] e pos) (sO te g):=by
 intro pins s σ H D I h
 refine wpAny_Assign_stores (thn (he pins s σ H _ I h) λv s1 ⟨x,H1,I1,r1,q1⟩=>?_) hs hw
 rw[h1]
 exact thn (hg pins s1 σ H1 x v _ I1 r1 q1) λ_ s2 q=>q
def bU{i:Nat}{x:Str}{e:Expr}{te:TE}{pos':Pos}(hN:X.N.Nodup)(hi:X.N[i]?=some x)(hx:Loc X.env.scope x)(he:PE X e te)(hs:swapsWith e (some (.Name x pos')) pos.line X.env=pure false:=by rfl)(hf:X.fn x=true\/X.env.scope.names.lookup x=some .local:=by first|exact .inl rfl|exact .inr rfl|assumption) :
  PS X (.Assign [.Name x pos'] e pos) (sO te (jJ i)):=by
 intro pins s σ H D I h
 refine wpAny_Assign_Name (thn (he pins s σ H _ I h) λv s1 ⟨y,H1,I1,r1,q1⟩=>?_) hs
 exact xR I1 hN hi hx r1 (λs2 I2=>⟨_,H1,I2,q1⟩) hf
end
section
variable {X:Cx}{pos:Pos}
def Ql(c:TT)(tb:TS):TS:=λD σ H=>∃W:Nat->St->Hp->Prop,(∃m,W m σ H)/\∀m σ H,W m σ H ->
 c σ H λb H1=>if b=true then ∃N:St->Hp->Prop,(∀σ' H',N σ' H'->∃m',m'<m/\W m' σ' H')/\tb { D with nx:=N,ct:=N,bk:=D.nx } σ H1 else D.nx σ H1
def Ib{c:Expr}{body:List Stmt}{tc:TT}{tb:TS}(hp:PassesOwn (model X.prog X.w) X.A X.env X.xe)(hc:PT X c tc)(hb:PSs X body tb):PS X (.While c body [] pos) (Ql tc tb):=by
 intro pins s σ H D I h
 obtain⟨W,⟨m0,w0⟩,turn⟩:=h
 refine wpAny_While (codeAny_whileLoop (λn s'=>∃σ' H',Inv X pins σ' H' s'/\W n σ' H') ?_ m0 ⟨σ,H,I,w0⟩)
 rintro n s1 ⟨σ1,H1,I1,w1⟩
 refine ŝ hp (thn (hc pins s1 σ1 H1 _ I1 (turn n σ1 H1 w1)) λb s2 ⟨H2,I2,q2⟩=>?_)
 cases b with
 |true =>
  obtain⟨N,hN,q2⟩:=q2
  rw[if_pos rfl]
  refine ŝ hp (thn (hb pins s2 σ1 H2 _ I2 q2) λf s3 q3=>?_)
  cases f with
  |next =>
   obtain⟨σ3,H3,I3,n3⟩:=q3
   obtain⟨m',hm,w3⟩:=hN σ3 H3 n3
   exact⟨m',hm,σ3,H3,I3,w3⟩
  |cont =>
   obtain⟨σ3,H3,I3,n3⟩:=q3
   obtain⟨m',hm,w3⟩:=hN σ3 H3 n3
   exact⟨m',hm,σ3,H3,I3,w3⟩
  |brk=>exact q3
  |ret v=>exact q3
 |false =>
  rw[if_neg Ð]
  exact wpAny_execs_nil ⟨σ1,H2,I2,q2⟩
end
structure It where
 go:Nat->Hp->Prop
 yld:Nat->Hp->V->Hp->Prop
 stop:Nat->Hp->Prop
def sH(X:Cx)(pins:List (Addr×Obj))(H:Hp)(b:Addr):Prop :=
 H b=none/\b≠X.env.locals/\b∉X.fs/\(b∈X.ex\/X.s₀.heap.objs.size<=b)/\(∀x c,X.env.cells.lookup x=some c->c≠b)/\∀p∈X.pn++pins,p.1≠b
def Inv.R4{X:Cx}{pins:List (Addr×Obj)}{σ:St}{H H':Hp}{s:Shared}{b:Addr}(I:Inv X pins σ H s)(hb:s.heap.objs.size<=b)(hn:H' b=none):sH X pins H' b:=by
 refine⟨hn,ž (æ I.lt hb),I.Wx hb,.inr (î I.sz hb),λx c e z=>?_,λp hp z=>?_⟩
 ·obtain⟨v,q⟩:=I.cell x c e
  exact absurd (æ q.lt (by rw[z];exact hb)) (Ā _)
 ·exact absurd (æ (Î (I.pin p hp).1) (by rw[z];exact hb)) (Ā _)
structure TurnG(Cm:Cx->Prop)(P:Program)(w:World)(K:Ú)(tg:Expr)(J:It)(fp:List Addr)(it:Addr)(tn:Nat->Heap->Prop):Prop where
 mem:it∈fp
 obj:∀i h,tn i h->∀b∈fp,∃o,h.get? b=some o/\∀v,o.data≠.cell v
 keep:∀i h h',tn i h->(∀b∈fp,∀o,h.get? b=some o->h'.get? b=some o)->tn i h'
 item:∀(X:Cx),X.prog=P->X.w=w->X.K=K->Cm X->∀(i:Nat) (pins:List (Addr×Obj)) (s:Shared) (σ:St) (H:Hp) (E:Value->Shared->Prop),Inv X pins σ H s->(∀b∈fp,sH X pins H b)->tn i s.heap->J.go i H ->
  wpAny (model P w) X.A (pyNext (.ref it)) (λr s1=>∃u,r=some u /\
   wpAny (model P w) X.A (letOwnedTupleGo tg (.ref it) u) (λ_ s2=>∃x H',Inv X pins σ H' s2/\RelV x u/\J.yld i H x H'/\tn (i+1) s2.heap/\∀b∈fp,H' b=none) E s1) E s
 done:∀(X:Cx),X.prog=P->X.w=w->X.K=K->Cm X->∀(i:Nat) (pins:List (Addr×Obj)) (s:Shared) (σ:St) (H:Hp) (E:Value->Shared->Prop),Inv X pins σ H s->(∀b∈fp,sH X pins H b)->tn i s.heap->J.stop i H ->
  wpAny (model P w) X.A (pyNext (.ref it)) (λr s1=>r=none/\Inv X pins σ H s1) E s
 self:∀(A:Around) (i:Nat) (s:Shared) (Q:Value->Shared->Prop) (E:Value->Shared->Prop),tn i s.heap->Q (.ref it) s->wpAny (model P w) A (pyIter (.ref it)) Q E s
abbrev Turn(P:Program)(w:World)(K:Ú)(tg:Expr)(J:It)(fp:List Addr)(it:Addr)(tn:Nat->Heap->Prop):Prop:=TurnG (λX=>X.calm=true) P w K tg J fp it tn
abbrev TI:=St->Hp->(It->Hp->Prop)->Prop
def V2(Cm:Cx->Prop)(X:Cx)(pins:List (Addr×Obj))(σ:St)(tg:Expr)(R:It->Hp->Prop)(itv:Value)(s2:Shared):Prop :=
 ∃(it:Addr) (fp:List Addr) (tn:Nat->Heap->Prop) (J:It) (H':Hp),itv=.ref it/\Inv X pins σ H' s2/\TurnG Cm X.prog X.w X.K tg J fp it tn/\tn 0 s2.heap/\(∀b∈fp,sH X pins H' b)/\R J H'
def PIG(Cm:Cx->Prop)(X:Cx)(tg iter:Expr)(wi:TI):Prop :=
 ∀(pins:List (Addr×Obj)) (s:Shared) (σ:St) (H:Hp) (R:It->Hp->Prop),Inv X pins σ H s->wi σ H R ->
  wpAny (model X.prog X.w) X.A (eval iter X.env) (λv s1=>wpAny (model X.prog X.w) X.A (pyIter v) (V2 Cm X pins σ tg R) X.xe s1) X.xe s
abbrev PIE(X:Cx):=V2 (λX=>X.calm=true) X
abbrev PI(X:Cx):=PIG (λX=>X.calm=true) X
def JW{M:Model}{A:Around}{E:Value->Shared->Prop}{s:Shared}{tg:Expr}{it:Addr}{u:Value}{o:Obj}{n:String}{vs:Array Value}{Q:Unit->Shared->Prop}(ho:s.heap.get? it=some o)(hc:o.cls=.type n)(hd:o.data=.fields vs)(hn:["enumerate","zip","dict_itemiterator","dict_reverseitemiterator","odict_iterator","itertools.zip_longest","itertools.pairwise"].contains n=false)(hQ:Q () s):wpAny M A (letOwnedTupleGo tg (.ref it) u) Q E s:=by
 unfold letOwnedTupleGo
 cases tg <;> first
  |exact Ô hQ
  | (cases u <;> first
    |exact Ô hQ
    | (refine Å (wpAny_load ho ?_)
       rw[hc,hd]
       show wpAny M A (if (["enumerate","zip","dict_itemiterator","dict_reverseitemiterator","odict_iterator","itertools.zip_longest","itertools.pairwise"].contains n&&vs[0]? == some (rawInt _))=true then _ else _) Q E s
       rw[if_neg (by intro h;rw[hn,Bool.false_and] at h;cases h)]
       exact Ô hQ))
def Itl(K:Ú)(a:Addr):It :=
 ⟨λi H=>∃xs x,SqL K H a xs/\xs[i]?=some x,λi H x H'=>H'=H/\∀xs,SqL K H a xs->xs[i]?=some x,λi H=>∃xs,SqL K H a xs/\xs.length<=i⟩
def Itt(K:Ú)(a:Addr):It :=
 ⟨λi H=>∃xs x,SqT K H a xs/\xs[i]?=some x,λi H x H'=>H'=H/\∀xs,SqT K H a xs->xs[i]?=some x,λi H=>∃xs,SqT K H a xs/\xs.length<=i⟩
def Itr(lo:Int)(n:Nat):It:=⟨λi _=>i<n,λi H x H'=>H'=H/\x=.int (lo+i),λi _=>n<=i⟩
def Eu{P:Program}{w:World}{K:Ú}{tg:Expr}(a it:Addr):Turn P w K tg (Itl K a) [it] it (λi h=>h.IsListIter it a i) where
 mem:=by simp
 obj:=λi h st b hb=>by
  have e:b=it:=by simpa using hb
  subst e
  obtain⟨o,e,c,d⟩:=st
  exact⟨o,e,λv z=>by rw[d] at z;cases z⟩
 keep:=λi h h' st k=>st.at λo e=>k it (by simp) o e
 item:=by
  intro X hP hw hK hc i pins s σ H E I hf st hg
  subst hP hw hK
  obtain⟨xs,x,hq,hx⟩:=hg
  obtain⟨its,rv,p,hz⟩:=I.list hq
  obtain⟨u,hu,ru⟩:=rv.get hx
  obtain⟨f0,f1,f2,f3,f4,f5⟩:=hf it (by simp)
  refine wpAny_pyNext_list_item st p.isList (x:=u) (by simpa using hu) λh' st' sb=>?_
  have I1:Inv X pins σ H { s with heap:=h' }:=I.turned (t':=s.toks) (λb o hb e=>(sb.2 b hb).trans e) f0 f1 f3 f4 f5
  obtain⟨o,e,c,d⟩:=id st'
  exact⟨u,rfl,JW (s:={ s with heap:=h' }) e c d (by decide) ⟨x,H,I1,ru,⟨rfl,λys hy=>by rw[I.Jz hy hq];exact hx⟩,st',λb hb=>(hf b hb).1⟩⟩
 done:=by
  intro X hP hw hK hc i pins s σ H E I hf st hg
  subst hP hw hK
  obtain⟨xs,hq,hx⟩:=hg
  obtain⟨its,rv,p,hz⟩:=I.list hq
  obtain⟨f0,f1,f2,f3,f4,f5⟩:=hf it (by simp)
  have hl:=rv.length
  exact wpAny_pyNext_list_end (I.ok.hd hc) st p.isList (by simp;omega) λh' eb=>⟨rfl,I.turned (t':=s.toks) (λb o hb e=>eb b o hb e) f0 f1 f3 f4 f5⟩
 self:=λ_ _ _ _ _ st h=>wpAny_pyIter_listiter st h
def zX{P:Program}{w:World}{K:Ú}{tg:Expr}(a it:Addr):Turn P w K tg (Itt K a) [it] it (λi h=>h.IsTupleIter it a i) where
 mem:=by simp
 obj:=λi h st b hb=>by
  have e:b=it:=by simpa using hb
  subst e
  obtain⟨o,e,c,d⟩:=st
  exact⟨o,e,λv z=>by rw[d] at z;cases z⟩
 keep:=λi h h' st k=>st.at λo e=>k it (by simp) o e
 item:=by
  intro X hP hw hK hc i pins s σ H E I hf st hg
  subst hP hw hK
  obtain⟨xs,x,hq,hx⟩:=hg
  obtain⟨its,rv,p,hz⟩:=I.tuple hq
  obtain⟨u,hu,ru⟩:=rv.get hx
  obtain⟨f0,f1,f2,f3,f4,f5⟩:=hf it (by simp)
  refine wpAny_pyNext_tuple_item st (show s.heap.IsTuple a its.toArray from p) (x:=u) (by simpa using hu) λh' st' sb=>?_
  have I1:Inv X pins σ H { s with heap:=h' }:=I.turned (t':=s.toks) (λb o hb e=>(sb.2 b hb).trans e) f0 f1 f3 f4 f5
  obtain⟨o,e,c,d⟩:=id st'
  exact⟨u,rfl,JW (s:={ s with heap:=h' }) e c d (by decide) ⟨x,H,I1,ru,⟨rfl,λys hy=>by rw[I.Ew hy hq];exact hx⟩,st',λb hb=>(hf b hb).1⟩⟩
 done:=by
  intro X hP hw hK hc i pins s σ H E I hf st hg
  subst hP hw hK
  obtain⟨xs,hq,hx⟩:=hg
  obtain⟨its,rv,p,hz⟩:=I.tuple hq
  obtain⟨f0,f1,f2,f3,f4,f5⟩:=hf it (by simp)
  have hl:=rv.length
  exact wpAny_pyNext_tuple_end (I.ok.hd hc) st (show s.heap.IsTuple a its.toArray from p) (by simp;omega) λh' eb=>⟨rfl,I.turned (t':=s.toks) (λb o hb e=>eb b o hb e) f0 f1 f3 f4 f5⟩
 self:=λ_ _ _ _ _ st h=>wpAny_pyIter_tupleiter st h
def zY{P:Program}{w:World}{K:Ú}{tg:Expr}(it:Addr)(lo:Int)(n:Nat):Turn P w K tg (Itr lo n) [it] it (λi h=>IsRangeIter h it (lo+(i:Nat) * 1) ((n:Int) - (i:Nat)) 1) where
 mem:=by simp
 obj:=λi h st b hb=>by
  have e:b=it:=by simpa using hb
  subst e
  exact⟨_,st,λv z=>by
   have z':Data.fields _=Data.cell v:=z
   cases z'⟩
 keep:=λi h h' st k=>k it (by simp) _ st
 item:=by
  intro X hP hw hK hc i pins s σ H E I hf st hg
  subst hP hw hK
  obtain⟨f0,f1,f2,f3,f4,f5⟩:=hf it (by simp)
  have W:=Walks.range (prog:=X.prog) (w:=X.w) (I.ok.hd hc) it lo 1 n
  refine W.item i s _ _ hg st λv h' tk hv st' kk=>?_
  obtain⟨t,rfl⟩:=hv
  have I1:Inv X pins σ H { s with heap:=h',toks:=tk }:=I.turned (λb o hb e=>kk b o (by simpa using hb) e) f0 f1 f3 f4 f5
  refine⟨_,rfl,JW (s:={ s with heap:=h',toks:=tk }) (n:="range_iterator") st' rfl rfl (by decide) ⟨.int (lo+i),H,I1,⟨t,?_⟩,⟨rfl,rfl⟩,st',λb hb=>(hf b hb).1⟩⟩
  rw[Int.mul_one]
 done:=by
  intro X hP hw hK hc i pins s σ H E I hf st hg
  subst hP hw hK
  obtain⟨f0,f1,f2,f3,f4,f5⟩:=hf it (by simp)
  exact wpAny_pyNext_range_end (I.ok.hd hc) st (by have:n<=i:=hg;omega) λh' eb=>⟨rfl,I.turned (t':=s.toks) (λb o hb e=>eb b o hb e) f0 f1 f3 f4 f5⟩
 self:=λ_ _ _ _ _ st h=>wpAny_pyIter_rangeiter st h
section
variable {X:Cx}{tg:Expr}
def yg{pins:List (Addr×Obj)}{σ:St}{H:Hp}{s:Shared}{R:It->Hp->Prop}{E:Value->Shared->Prop}{lo hi:Int}{t u v:Tok}{tk:Nat}(I:Inv X pins σ H s)(h1:-(2 ^ 62)<=lo)(h2:lo<2 ^ 62)(h3:-(2 ^ 62)<=hi)(h4:hi<2 ^ 62)(q:R (Itr lo (hi - lo).toNat) H):wpAny (model X.prog X.w) X.A (pyIter (.ref s.heap.objs.size)) (PIE X pins σ tg R) E { s with heap:=s.heap.push { cls:=.type "range",data:=.fields #[.int lo t,.int hi u,.int 1 v] },toks:=tk }:=by
 refine wpAny_pyIter_range (IsRange.new ..) (small_one h1 h2 h3 h4) ?_
 have I1:Inv X pins σ H { s with heap:=s.heap.push { cls:=.type "range",data:=.fields #[.int lo t,.int hi u,.int 1 v] },toks:=tk }:=I.kept λb o e=>Ï _ e
 refine⟨(s.heap.push { cls:=.type "range",data:=.fields #[.int lo t,.int hi u,.int 1 v] }).objs.size,[(s.heap.push { cls:=.type "range",data:=.fields #[.int lo t,.int hi u,.int 1 v] }).objs.size],_,_,H,rfl,
  I1.kept (t':=tk) λb o e=>Ï _ e,zY _ lo (hi - lo).toNat,?_,λb hb=>?_,q⟩
 ·have e1:lo+((0:Nat):Int) * 1=lo:=by simp
  have e2:(((hi - lo).toNat:Nat):Int) - ((0:Nat):Int)=Builtin.Range.rangeSize lo hi 1:=by rw[rangeSize_one];split <;> omega
  show IsRangeIter _ _ (lo+((0:Nat):Int) * 1) ((((hi - lo).toNat:Nat):Int) - ((0:Nat):Int)) 1
  rw[e1,e2]
  exact ß _ rfl
 ·have e:b=(s.heap.push { cls:=.type "range",data:=.fields #[.int lo t,.int hi u,.int 1 v] }).objs.size:=by simpa using hb
  subst e
  exact I1.R4 (É _) (I1.hok.fresh (É _))
def Vf(ta:TA):TI:=λσ H R=>ta σ H λvs H1=>∃j:Int,vs=[.int j]/\-(2 ^ 62)<=j/\j<2 ^ 62/\R (Itr 0 j.toNat) H1
def Ve(ta:TA):TI:=λσ H R=>ta σ H λvs H1=>∃i j:Int,vs=[.int i,.int j]/\(-(2 ^ 62)<=i/\i<2 ^ 62/\-(2 ^ 62)<=j/\j<2 ^ 62)/\R (Itr i (j - i).toNat) H1
def Fl{a:Expr}{ta:TA}{p pos:Pos}(hg:Gl X "range")(hm:X.mg "range"=none)(ha:PA X [a] ta)(hs:starEach [a] X.env=[(false,eval a X.env)]:=by rfl):PI X tg (.Call (.Name "range" p) [a] [] pos) (Vf ta):=by
 intro pins s σ H R I h
 refine Call_ (lV I hg hm boot_range (ķ (thn (ha pos pins s σ H _ I h) λus s1 ⟨vs,H1,I1,r1,q1⟩=>?_) hs rfl))
 obtain⟨j,e,q1,q2,q⟩:=q1
 subst e
 cases r1 with
 |cons r rr =>
  cases rr
  obtain⟨t,rfl⟩:=r
  exact call_range_1 (yg I1 (by omega) (by omega) q1 q2 (by simpa using q))
def Fj{a b:Expr}{ta:TA}{p pos:Pos}(hg:Gl X "range")(hm:X.mg "range"=none)(ha:PA X [a,b] ta)(hs:starEach [a,b] X.env=[(false,eval a X.env),(false,eval b X.env)]:=by rfl)(hs2:starEach [b] X.env=[(false,eval b X.env)]:=by rfl) :
  PI X tg (.Call (.Name "range" p) [a,b] [] pos) (Ve ta):=by
 intro pins s σ H R I h
 refine Call_ (lV I hg hm boot_range (ķ (thn (ha pos pins s σ H _ I h) λus s1 ⟨vs,H1,I1,r1,q1⟩=>?_) (by rw[hs,hs2]) (by rw[hs2];rfl)))
 obtain⟨i,j,e,⟨q1,q2,q3,q4⟩,q⟩:=q1
 subst e
 cases r1 with
 |cons r rr =>
  cases rr with
  |cons r' rr =>
   cases rr
   obtain⟨t,rfl⟩:=r
   obtain⟨t',rfl⟩:=r'
   exact call_range_2 (yg I1 q1 q2 q3 q4 q)
def Wf(wi:TI)(g:TG)(tb:TS):TS:=λD σ H=>wi σ H λJ H1=>∃W:Nat->Nat->St->Hp->Prop,(∃m,W 0 m σ H1)/\∀i m σ H,W i m σ H ->
 (J.stop i H/\D.nx σ H)\/(J.go i H/\∃N:St->Hp->Prop,(∀σ' H',N σ' H'->∃m',m'<m/\W (i+1) m' σ' H')/\∀x H',J.yld i H x H'->g x σ H' λσ2 H2=>tb { D with nx:=N,ct:=N,bk:=D.nx } σ2 H2)
def ju(fp:List Addr)(h:Heap):List (Addr×Obj):=fp.filterMap λb=>(h.get? b).map λo=>(b,o)
def iQ{fp:List Addr}{h:Heap}{b:Addr}{o:Obj}(hb:b∈fp)(e:h.get? b=some o):(b,o)∈ju fp h:=Ů.mpr ⟨b,hb,by rw[e];rfl⟩
def tZ{fp:List Addr}{h:Heap}{p:Addr×Obj}(hp:p∈ju fp h):p.1∈fp/\h.get? p.1=some p.2:=by
 obtain⟨b,hb,e⟩:=Ů.mp hp
 cases q:h.get? b with
 |none=>rw[q] at e;cases e
 |some o =>
  rw[q] at e
  have e':(b,o)=p:=ç e
  subst e'
  exact⟨hb,q⟩
def Inv.pinned{pins:List (Addr×Obj)}{σ:St}{H:Hp}{s:Shared}{fp:List Addr}(I:Inv X pins σ H s)(hf:∀b∈fp,sH X pins H b)(ho:∀b∈fp,∃o,s.heap.get? b=some o/\∀v,o.data≠.cell v):Inv X (pins++ju fp s.heap) σ H s :=
 I.qd λp hp=>(ä.mp hp).elim (λz=>I.pin p (â _ z)) λz=>by
  obtain⟨hb,e⟩:=tZ z
  obtain⟨f0,f1,f2,_⟩:=hf p.1 hb
  obtain⟨o,e',d⟩:=ho p.1 hb
  rw[e] at e';cases e'
  exact⟨e,f0,f1,f2,d⟩
def Inv.lZ{pins pl:List (Addr×Obj)}{σ:St}{H:Hp}{s:Shared}(I:Inv X (pins++pl) σ H s):Inv X pins σ H s:=I.qd λp hp=>I.pin p (â _ (Ě _ hp))
def QJ{iter:Expr}{body:List Stmt}{wi:TI}{g:TG}{tb:TS}{pos:Pos}(hp:PassesOwn (model X.prog X.w) X.A X.env X.xe)(hc:X.calm=true)(hi:PI X tg iter wi)(hg:PG X tg g)(hb:PSs X body tb)(hs:∀x,foldedSetIterable iter X.env x=pure x:=by intro _;rfl):PS X (.For tg iter body [] pos) (Wf wi g tb):=by
 intro pins s σ H D I h
 refine wpAny_For (thn (hi pins s σ H _ I h) λv s1 h1=>thn h1 λitv s2 h2=>?_) hs
 obtain⟨it,fp,tn,J,H2,e,I2,T,st2,f2,W,⟨m0,w0⟩,turn⟩:=h2
 subst e
 -- what stays true of the iterator's objects through the loop
 have stat:∀{H':Hp},(∀b∈fp,H' b=none)->∀b∈fp,sH X pins H' b:=λhn b hb=>⟨hn b hb,(f2 b hb).2⟩
 refine codeAny_forLoop_any (λn s'=>∃i σ' H',Inv X pins σ' H' s'/\tn i s'.heap/\(∀b∈fp,H' b=none)/\W i n σ' H') ?_ m0 ⟨0,σ,H2,I2,st2,λb hb=>(f2 b hb).1,w0⟩
 rintro n s3 ⟨i,σ3,H3,I3,st3,fr3,w3⟩
 rcases turn i n σ3 H3 w3 with ⟨stop,qn⟩|⟨go,N,hN,step⟩
 ·refine ŝ hp (thn (T.done X rfl rfl rfl hc i pins s3 σ3 H3 X.xe I3 (stat fr3) st3 stop) λr s4 ⟨hr,I4⟩=>?_)
  subst hr
  exact wpAny_execs_nil ⟨σ3,H3,I4,qn⟩
 ·refine ŝ hp (thn (T.item X rfl rfl rfl hc i pins s3 σ3 H3 X.xe I3 (stat fr3) st3 go) λr s4 ⟨u,hr,h4⟩=>?_)
  subst hr
  refine ŝ hp (thn h4 λ_ s5 ⟨x,H5,I5,r5,y5,st5,fr5⟩=>?_)
  have I5':=I5.pinned (stat fr5) (T.obj _ _ st5)
  refine ŝ hp (thn (hg _ s5 σ3 H5 x u _ I5' r5 (step x H5 y5)) λ_ s6 ⟨σ6,H6,I6,q6⟩=>?_)
  refine ŝ hp (thn (hb _ s6 σ6 H6 _ I6 q6) λf s7 q7=>?_)
  have again:∀{σ7:St}{H7:Hp},Inv X (pins++ju fp s5.heap) σ7 H7 s7->N σ7 H7->∃m,m<n/\∃i σ' H',Inv X pins σ' H' s7/\tn i s7.heap/\(∀b∈fp,H' b=none)/\W i m σ' H':=λ{σ7 H7} I7 n7=>by
   obtain⟨m',hm,w7⟩:=hN σ7 H7 n7
   refine⟨m',hm,i+1,σ7,H7,I7.lZ,T.keep _ _ _ st5 λb hb o e=>(I7.pin (b,o) (â _ (â _ (iQ hb e)))).1,λb hb=>?_,w7⟩
   obtain⟨o,e,d⟩:=T.obj _ _ st5 b hb
   exact(I7.pin (b,o) (â _ (â _ (iQ hb e)))).2.1
  cases f with
  |next=>obtain⟨σ7,H7,I7,n7⟩:=q7;exact again I7 n7
  |cont=>obtain⟨σ7,H7,I7,n7⟩:=q7;exact again I7 n7
  |brk=>obtain⟨σ7,H7,I7,q7⟩:=q7;exact⟨σ7,H7,I7.lZ,q7⟩
  |ret v=>obtain⟨x7,σ7,H7,I7,r7,q7⟩:=q7;exact⟨x7,σ7,H7,I7.lZ,r7,q7⟩
end
abbrev R2:=V->V->Hp->VK->Prop
def OpR(X:Cx)(f:Value->Value->Sem Value)(r:R2):Prop :=
 ∀(pins:List (Addr×Obj)) (s:Shared) (σ:St) (H:Hp) (x y:V) (v u:Value) (Q:VK),Inv X pins σ H s->RelV x v->RelV y u->r x y H Q ->
  wpAny (model X.prog X.w) X.A (f v u) (EP X pins σ Q) X.xe s
def UnR(X:Cx)(f:Value->Sem Value)(r:V->Hp->VK->Prop):Prop :=
 ∀(pins:List (Addr×Obj)) (s:Shared) (σ:St) (H:Hp) (x:V) (v:Value) (Q:VK),Inv X pins σ H s->RelV x v->r x H Q ->
  wpAny (model X.prog X.w) X.A (f v) (EP X pins σ Q) X.xe s
def bJ(X:Cx)(f:Value)(r:List V->Hp->VK->Prop):Prop :=
 ∀(pins:List (Addr×Obj)) (s:Shared) (σ:St) (H:Hp) (xs:List V) (us:List Value) (Q:VK),Inv X pins σ H s->Vals xs us->r xs H Q ->
  wpAny (model X.prog X.w) X.A (call f us) (EP X pins σ Q) X.xe s
def W7(X:Cx)(r:V->Hp->(Bool->Hp->Prop)->Prop):Prop :=
 ∀(pins:List (Addr×Obj)) (s:Shared) (σ:St) (H:Hp) (x:V) (v:Value) (Q:Bool->Hp->Prop),Inv X pins σ H s->RelV x v->r x H Q ->
  wpAny (model X.prog X.w) X.A (truthy v) (TP X pins σ Q) X.xe s
def tOp(r:R2)(ta tb:TE):TE:=λσ H Q=>ta σ H λx H1=>tb σ H1 λy H2=>r x y H2 Q
def tUn(r:V->Hp->VK->Prop)(ta:TE):TE:=λσ H Q=>ta σ H λx H1=>r x H1 Q
def rI(C:Int->Int->Prop)(g:Int->Int->V):R2:=λx y H Q=>∃i j,x=.int i/\y=.int j/\C i j/\Q (g i j) H
def rI0(g:Int->Int->V):R2:=λx y H Q=>∃i j,x=.int i/\y=.int j/\Q (g i j) H
def rU(g:Int->V):V->Hp->VK->Prop:=λx H Q=>∃i,x=.int i/\Q (g i) H
section
variable {X:Cx}{a b c:Expr}{ta tb tc:TE}{pos:Pos}
def S6(ha:PE X a ta)(hb:PE X b tb){pins:List (Addr×Obj)}{s:Shared}{σ:St}{H:Hp}{R:V->V->Hp->Prop}(I:Inv X pins σ H s)(h:ta σ H λx H1=>tb σ H1 λy H2=>R x y H2){Q:Value->Shared->Prop}{f:Value->Value->Sem Value}(hf:∀v u s2 x y H2,Inv X pins σ H2 s2->RelV x v->RelV y u->R x y H2->wpAny (model X.prog X.w) X.A (f v u) Q X.xe s2) :
  wpAny (model X.prog X.w) X.A (eval a X.env) (λv s₁=>wpAny (model X.prog X.w) X.A (eval b X.env) (λu s₂=>wpAny (model X.prog X.w) X.A (f v u) Q X.xe s₂) X.xe s₁) X.xe s:=by
 refine thn (ha pins s σ H _ I h) λv s1 ⟨x,H1,I1,r1,q1⟩=>?_
 refine thn (hb pins s1 σ H1 _ I1 q1) λu s2 ⟨y,H2,I2,r2,q2⟩=>?_
 exact hf v u s2 x y H2 I2 r1 r2 q2
def cR{op:Operator}{r:R2}(ho:OpR X (binaryOp op) r)(ha:PE X a ta)(hb:PE X b tb):PE X (.BinOp a op b pos) (tOp r ta tb):=by
 intro pins s σ H Q I h
 exact wpAny_BinOp (S6 ha hb I h λv u s2 x y H2 I2 rx ry q=>ho pins s2 σ H2 x y v u Q I2 rx ry q)
def Ut{op:UnaryOp}{r:V->Hp->VK->Prop}(ho:UnR X (unaryOp op) r)(ha:PE X a ta):PE X (.UnaryOp op a pos) (tUn r ta):=by
 intro pins s σ H Q I h
 exact UnaryOp_ (thn (ha pins s σ H _ I h) λv s1 ⟨x,H1,I1,r1,q1⟩=>ho pins s1 σ H1 x v Q I1 r1 q1)
def opI{f:Value->Value->Sem Value}{C:Int->Int->Prop}{g:Int->Int->Int}(rule:∀(i j:Int) (t u:Tok) (s:Shared) (Q:Value->Shared->Prop) (E:Value->Shared->Prop),C i j->Q (.int (g i j) s.toks) { s with toks:=s.toks+1 }->wpAny (model X.prog X.w) X.A (f (.int i t) (.int j u)) Q E s) :
  OpR X f (rI C λi j=>.int (g i j)):=by
 intro pins s σ H x y v u Q I rx ry h
 obtain⟨i,j,rfl,rfl,hc,q⟩:=h
 obtain⟨t,rfl⟩:=rx
 obtain⟨t',rfl⟩:=ry
 exact rule i j t t' s _ _ hc ⟨.int (g i j),H,I.tok _,⟨_,rfl⟩,q⟩
def Rj{f:Value->Value->Sem Value}{g:Int->Int->Int}(rule:∀(i j:Int) (t u:Tok) (s:Shared) (Q:Value->Shared->Prop) (E:Value->Shared->Prop),Q (.int (g i j) s.toks) { s with toks:=s.toks+1 }->wpAny (model X.prog X.w) X.A (f (.int i t) (.int j u)) Q E s) :
  OpR X f (rI0 λi j=>.int (g i j)):=by
 intro pins s σ H x y v u Q I rx ry h
 obtain⟨i,j,rfl,rfl,q⟩:=h
 obtain⟨t,rfl⟩:=rx
 obtain⟨t',rfl⟩:=ry
 exact rule i j t t' s _ _ ⟨.int (g i j),H,I.tok _,⟨_,rfl⟩,q⟩
def Mv{f:Value->Value->Sem Value}{g:Int->Int->Bool}(rule:∀(i j:Int) (t u:Tok) (s:Shared) (Q:Value->Shared->Prop) (E:Value->Shared->Prop),Q (.bool (g i j)) s->wpAny (model X.prog X.w) X.A (f (.int i t) (.int j u)) Q E s) :
  OpR X f (rI0 λi j=>.bl (g i j)):=by
 intro pins s σ H x y v u Q I rx ry h
 obtain⟨i,j,rfl,rfl,q⟩:=h
 obtain⟨t,rfl⟩:=rx
 obtain⟨t',rfl⟩:=ry
 exact rule i j t t' s _ _ ⟨.bl (g i j),H,I,rfl,q⟩
def Te(i j:Int):Prop:=0<j/\j<1073741824
def Td(i j:Int):Prop:=0<=j/\j<=1000000/\i.natAbs<2 ^ 64
def La(i j:Int):Prop:=(-(2 ^ 64)<i/\i<2 ^ 64)\/(-(2 ^ 64)<j/\j<2 ^ 64)
def La.ok{i j:Int}(h:La i j):IntMulOk i j:=by
 rcases h with ⟨h1,h2⟩|⟨h1,h2⟩
 ·exact .of_left (intBits_le_64 h1 h2)
 ·exact .of_right (intBits_le_64 h1 h2)
def lJ:OpR X (binaryOp .Add) (rI0 λi j=>.int (i+j)):=Rj λ_ _ _ _ _ _ _ q=>add_int q
def Rf:OpR X (binaryOp .Sub) (rI0 λi j=>.int (i - j)):=Rj λ_ _ _ _ _ _ _ q=>sub_int q
def oM:OpR X (binaryOp .Mult) (rI La λi j=>.int (i * j)):=opI λ_ _ _ _ _ _ _ hc q=>mul_int q hc.ok
def qj:OpR X (binaryOp .FloorDiv) (rI Te λi j=>.int (i / j)):=opI λi j _ _ _ _ _ hc q=>by
 have h1:(0:Int)<j:=hc.1
 have h2:j<1073741824:=hc.2
 exact floordiv_int (by omega) (by rw[Int.fdiv_eq_ediv_of_nonneg i (by omega)];exact q) (.inl (PyProof.noPylong_small (by omega)))
def jB:OpR X (binaryOp .Mod) (rI (λ_ j=>0<j) λi j=>.int (i % j)):=opI λi j _ _ _ _ _ hc q=>by
 have h1:(0:Int)<j:=hc
 exact mod_int' (by omega) (by rw[Int.fmod_eq_emod_of_nonneg i (by omega)];exact q)
def Ja:OpR X (binaryOp .Pow) (rI Td λi j=>.int (i ^ j.toNat)):=opI λ_ _ _ _ _ _ _ hc q=>pow_int_small hc.1 hc.2.1 hc.2.2 q
def Ri:OpR X (binaryOp .BitAnd) (rI0 λi j=>.int (ů i j)):=Rj λ_ _ _ _ _ _ _ q=>and_int q
def unI{f:Value->Sem Value}{g:Int->Int}(rule:∀(i:Int) (t:Tok) (s:Shared) (Q:Value->Shared->Prop) (E:Value->Shared->Prop),Q (.int (g i) s.toks) { s with toks:=s.toks+1 }->wpAny (model X.prog X.w) X.A (f (.int i t)) Q E s) :
  UnR X f (rU λi=>.int (g i)):=by
 intro pins s σ H x v Q I rx h
 obtain⟨i,rfl,q⟩:=h
 obtain⟨t,rfl⟩:=rx
 exact rule i t s _ _ ⟨.int (g i),H,I.tok _,⟨_,rfl⟩,q⟩
def Qg:UnR X (unaryOp .USub) (rU λi=>.int (-i)):=unI λ_ _ _ _ _ q=>neg_int q
end
def T6:V->V->Bool
 |.non,.non=>true|.non,.int _=>true|.int _,.non=>true|.non,.bl _=>true|.bl _,.non=>true|.non,.str _=>true|.str _,.non=>true
 |.int _,.int _=>true|.bl _,.bl _=>true|.str _,.str _=>true|.byt _,.byt _=>true
 |.int _,.str _=>true|.str _,.int _=>true|.bl _,.str _=>true|.str _,.bl _=>true
 |_,_=>false
def rEq:R2:=λx y H Q=>T6 x y=true/\Q (.bl (decide (x=y))) H
def rNe:R2:=λx y H Q=>T6 x y=true/\Q (.bl (!decide (x=y))) H
def Ek{i j:Int}:decide (V.int i=V.int j)=(i == j):=by
 rw[ě]
 simp
def Kw{i j:Bool}:decide (V.bl i=V.bl j)=(i == j):=by
 rw[ě]
 simp
def Ej{i j:Str}:decide (V.str i=V.str j)=(i == j):=by
 rw[ě]
 simp
def El{i j:Array UInt8}:decide (V.byt i=V.byt j)=(i.toList == j.toList):=by
 rw[ě]
 cases i
 cases j
 simp
section
variable {X:Cx}{a b c:Expr}{ta tb tc:TE}{pos:Pos}
def aL{pins:List (Addr×Obj)}{σ:St}{H:Hp}{s:Shared}{Q:VK}{k k':Bool}(I:Inv X pins σ H s)(q:Q (.bl k) H)(e:k=k'):EP X pins σ Q (.bool k') s:=by
 subst e
 exact⟨.bl k,H,I,rfl,q⟩
def Dr:OpR X (compareOp .Eq) rEq:=by
 intro pins s σ H x y v u Q I rx ry h
 obtain⟨hs,q⟩:=h
 cases x with
 |non =>
  cases rx
  cases y with
  |non=>cases ry;exact PySem.EqNone.eq_none_none (aL I q (by simp))
  |bl j=>cases ry;exact PySem.EqNone.eq_none_bool (aL I q (by simp))
  |int j=>obtain⟨t',rfl⟩:=ry;exact PySem.EqNone.eq_none_int (aL I q (by simp))
  |str j=>obtain⟨t',rfl⟩:=ry;exact PySem.EqNone.eq_none_str (aL I q (by simp))
  |_=>exact absurd (show false=true from hs) Ð
 |bl i =>
  cases rx
  cases y with
  |non=>cases ry;exact PySem.EqNone.eq_bool_none (aL I q (by simp))
  |bl j=>cases ry;exact eq_bool (aL I q Kw)
  |str j=>obtain⟨t',rfl⟩:=ry;exact PySem.EqMixed.eq_bool_str (aL I q (by simp))
  |_=>exact absurd (show false=true from hs) Ð
 |int i =>
  obtain⟨t,rfl⟩:=rx
  cases y with
  |non=>cases ry;exact PySem.EqNone.eq_int_none (aL I q (by simp))
  |int j=>obtain⟨t',rfl⟩:=ry;exact eq_int (aL I q Ek)
  |str j=>obtain⟨t',rfl⟩:=ry;exact PySem.EqMixed.eq_int_str (aL I q (by simp))
  |_=>exact absurd (show false=true from hs) Ð
 |str i =>
  obtain⟨t,rfl⟩:=rx
  cases y with
  |non=>cases ry;exact PySem.EqNone.eq_str_none (aL I q (by simp))
  |bl j=>cases ry;exact PySem.EqMixed.eq_str_bool (aL I q (by simp))
  |int j=>obtain⟨t',rfl⟩:=ry;exact PySem.EqMixed.eq_str_int (aL I q (by simp))
  |str j=>obtain⟨t',rfl⟩:=ry;exact eq_str (aL I q Ej)
  |_=>exact absurd (show false=true from hs) Ð
 |byt i =>
  obtain⟨t,rfl⟩:=rx
  cases y with
  |byt j=>obtain⟨t',rfl⟩:=ry;exact W.eq_bytes (aL I q El)
  |_=>exact absurd (show false=true from hs) Ð
 |_=>cases y <;> exact absurd (show false=true from hs) Ð
def Dq:OpR X (compareOp .NotEq) rNe:=by
 intro pins s σ H x y v u Q I rx ry h
 obtain⟨hs,q⟩:=h
 cases x with
 |non =>
  cases rx
  cases y with
  |non=>cases ry;exact PySem.EqNone.ne_none_none (aL I q (by simp))
  |bl j=>cases ry;exact PySem.EqNone.ne_none_bool (aL I q (by simp))
  |int j=>obtain⟨t',rfl⟩:=ry;exact PySem.EqNone.ne_none_int (aL I q (by simp))
  |str j=>obtain⟨t',rfl⟩:=ry;exact PySem.EqNone.ne_none_str (aL I q (by simp))
  |_=>exact absurd (show false=true from hs) Ð
 |bl i =>
  cases rx
  cases y with
  |non=>cases ry;exact PySem.EqNone.ne_bool_none (aL I q (by simp))
  |bl j=>cases ry;exact ne_bool (aL I q (congrArg not Kw))
  |str j=>obtain⟨t',rfl⟩:=ry;exact PySem.EqMixed.ne_bool_str (aL I q (by simp))
  |_=>exact absurd (show false=true from hs) Ð
 |int i =>
  obtain⟨t,rfl⟩:=rx
  cases y with
  |non=>cases ry;exact PySem.EqNone.ne_int_none (aL I q (by simp))
  |int j=>obtain⟨t',rfl⟩:=ry;exact ne_int (aL I q (congrArg not Ek))
  |str j=>obtain⟨t',rfl⟩:=ry;exact PySem.EqMixed.ne_int_str (aL I q (by simp))
  |_=>exact absurd (show false=true from hs) Ð
 |str i =>
  obtain⟨t,rfl⟩:=rx
  cases y with
  |non=>cases ry;exact PySem.EqNone.ne_str_none (aL I q (by simp))
  |bl j=>cases ry;exact PySem.EqMixed.ne_str_bool (aL I q (by simp))
  |int j=>obtain⟨t',rfl⟩:=ry;exact PySem.EqMixed.ne_str_int (aL I q (by simp))
  |str j=>obtain⟨t',rfl⟩:=ry;exact ne_str (aL I q (congrArg not Ej))
  |_=>exact absurd (show false=true from hs) Ð
 |byt i =>
  obtain⟨t,rfl⟩:=rx
  cases y with
  |byt j=>obtain⟨t',rfl⟩:=ry;exact W.ne_bytes (aL I q (congrArg not El))
  |_=>exact absurd (show false=true from hs) Ð
 |_=>cases y <;> exact absurd (show false=true from hs) Ð
def Jb:OpR X (compareOp .Lt) (rI0 λi j=>.bl (decide (i<j))):=Mv λ_ _ _ _ _ _ _ q=>lt_int q
def O2:OpR X (compareOp .LtE) (rI0 λi j=>.bl (decide (i<=j))):=Mv λ_ _ _ _ _ _ _ q=>le_int q
def O4:OpR X (compareOp .Gt) (rI0 λi j=>.bl (decide (j<i))):=Mv λ_ _ _ _ _ _ _ q=>gt_int q
def Je:OpR X (compareOp .GtE) (rI0 λi j=>.bl (decide (j<=i))):=Mv λ_ _ _ _ _ _ _ q=>ge_int q
def Rh:OpR X (compareOp .Is) (λx y H Q=>y=.non/\Q (.bl (decide (x=.non))) H):=by
 intro pins s σ H x y v u Q I rx ry h
 obtain⟨rfl,q⟩:=h
 cases ry
 refine is_none_gen (aL I q ?_)
 cases x <;> first
  |(cases rx;rfl)
  |(obtain⟨t,rfl⟩:=rx;rfl)
def bK(b:Expr){op:CmpOp}(h:op≠.In:=by decide)(h2:op≠.NotIn:=by decide):behindInMarks op b=false:=by
 have e1:(op == CmpOp.In)=false:=by cases op <;> first|rfl|exact absurd rfl h
 have e2:(op == CmpOp.NotIn)=false:=by cases op <;> first|rfl|exact absurd rfl h2
 cases b <;> simp[behindInMarks,e1,e2]
def Mi{op:CmpOp}{r:R2}(ho:OpR X (compareOp op) r)(ha:PE X a ta)(hb:PE X b tb)(hm:behindInMarks op b=false):PE X (.Compare a [op] [b] pos) (tOp r ta tb):=by
 intro pins s σ H Q I h
 exact wpAny_Compare1 (S6 ha hb I h λv u s2 x y H2 I2 rx ry q=>ho pins s2 σ H2 x y v u Q I2 rx ry q) hm
def Tn(t:TE):TT:=λσ H Q=>t σ H λx H'=>∃k,x=.bl k/\Q k H'
def p7{op:CmpOp}{r:R2}(ho:OpR X (compareOp op) r)(ha:PE X a ta)(hb:PE X b tb)(hm:behindInMarks op b=false):PT X (.Compare a [op] [b] pos) (Tn (tOp r ta tb)):=by
 intro pins s σ H Q I h
 refine wpAny_isTrue_Compare1 (thn (ha pins s σ H _ I h) λv s1 ⟨x,H1,I1,r1,q1⟩=>thn (hb pins s1 σ H1 _ I1 q1) λu s2 ⟨y,H2,I2,r2,q2⟩ =>
  thn (ho pins s2 σ H2 x y v u _ I2 r1 r2 q2) λc s3 ⟨z,H3,I3,r3,k,e,q3⟩=>?_) hm
 subst e
 cases r3
 exact Į ⟨H3,I3,q3⟩
def Hq(r r':R2)(ta tb tc:TE):TE:=λσ H Q=>ta σ H λx H1=>tb σ H1 λy H2=>r x y H2 λz H3=>∃k,z=.bl k /\
 (if k=true then tc σ H3 λw' H4=>r' y w' H4 Q else Q (.bl false) H3)
def Iu{op op':CmpOp}{r r':R2}(ho:OpR X (compareOp op) r)(ho':OpR X (compareOp op') r')(ha:PE X a ta)(hb:PE X b tb)(hc:PE X c tc)(hm:lastMarks [op,op'] [b,c]=false:=by with_unfolding_all rfl):PE X (.Compare a [op,op'] [b,c] pos) (Hq r r' ta tb tc):=by
 intro pins s σ H Q I h
 refine Compare_chain (thn (ha pins s σ H _ I h) λv s1 ⟨x,H1,I1,r1,q1⟩=>chain_link (thn (hb pins s1 σ H1 _ I1 q1) λu s2 ⟨y,H2,I2,r2,q2⟩ =>
  thn (ho pins s2 σ H2 x y v u _ I2 r1 r2 q2) λd s3 ⟨z,H3,I3,r3,k,e,q3⟩=>?_)) hm
 subst e
 cases r3
 refine Į ?_
 cases k with
 |false=>exact ite_ff ⟨.bl false,H3,I3,rfl,q3⟩
 |true=>exact ite_tt (chain_last (thn (hc pins s3 σ H3 _ I3 q3) λw' s4 ⟨z',H4,I4,r4,q4⟩=>ho' pins s4 σ H4 y z' u w' Q I4 r2 r4 q4))
def V1(K:Ú)(x:V)(H:Hp)(k:Bool):Prop :=
 match x with
 |.non=>k=false
 |.bl b=>k=b
 |.int i=>k=(i != 0)
 |.str y=>y.length<=sizeLine/\k=((y.length:Int) != 0)
 |.byt y=>y.size<=sizeLine/\k=((y.size:Int) != 0)
 |.ref p=>(∃xs,SqL K H p xs/\k=!xs.isEmpty)\/(∃xs,SqT K H p xs/\k=!xs.isEmpty)\/∃kvs,H p=some (.dK kvs)/\k=!kvs.isEmpty
 |_=>False
def Bh{κ:Type}{kvs:List (κ×V)}{vs:List (κ×Value)}(r:KV kvs vs):(!vs.isEmpty)=!kvs.isEmpty:=by
 cases r <;> rfl
def rN{xs:List V}{its:List Value}(r:Vals xs its):(!its.toArray.isEmpty)=!xs.isEmpty:=by
 cases r <;> simp
def wA:(sizeLine:Nat)<2 ^ 63:=by rw[é];decide
def Qi:W7 X (λx H Q=>∃k,V1 X.K x H k/\Q k H):=by
 intro pins s σ H x v Q I rx h
 obtain⟨k,e,q⟩:=h
 have hl:=wA
 have hs:sizeLine=16777216:=é
 cases x with
 |non =>
  cases rx
  have e':k=false:=e
  subst e'
  exact truthy_none ⟨H,I,q⟩
 |bl b =>
  cases rx
  have e':k=b:=e
  subst e'
  exact Į ⟨H,I,q⟩
 |int i =>
  obtain⟨t,rfl⟩:=rx
  have e':k=(i != 0):=e
  subst e'
  exact PySem.P.truthy_int ⟨H,I,q⟩
 |str y =>
  obtain⟨t,rfl⟩:=rx
  obtain⟨hy,e'⟩:y.length<=sizeLine/\k=((y.length:Int) != 0):=e
  subst e'
  exact PySem.P.truthy_str (by omega) ⟨H,I.tok _,q⟩
 |byt y =>
  obtain⟨t,rfl⟩:=rx
  obtain⟨hy,e'⟩:y.size<=sizeLine/\k=((y.size:Int) != 0):=e
  subst e'
  exact W.truthy_bytes (by omega) ⟨H,I.tok _,q⟩
 |ref p =>
  cases rx
  have e':(∃xs,SqL X.K H p xs/\k=!xs.isEmpty)\/(∃xs,SqT X.K H p xs/\k=!xs.isEmpty)\/∃kvs,H p=some (.dK kvs)/\k=!kvs.isEmpty:=e
  rcases e' with ⟨xs,hx,e'⟩|⟨xs,hx,e'⟩|⟨kvs,hx,e'⟩
  ·subst e'
   obtain⟨its,r,pl,hz⟩:=I.list hx
   have hlen:=r.length
   exact wpAny_truthy_list pl.isList (by simp only[Ñ];omega) ⟨H,I.tok _,by rw[rN r];exact q⟩
  ·subst e'
   obtain⟨its,r,pl,hz⟩:=I.tuple hx
   have hlen:=r.length
   exact truthy_tuple pl (by simp only[Ñ];omega) ⟨H,I.tok _,by rw[rN r];exact q⟩
  ·subst e'
   obtain⟨hz,hS,vs,r,m⟩:kvs.length<=sizeLine/\(p == sysModules)=false/\∃vs,KV kvs vs/\s.heap.DictOf (bC X.prog X.w) p vs:=I.hok p _ hx
   have hlen:kvs.length=vs.length:=Paired.length r
   exact wpAny_truthy_dict hS m (by omega) ⟨H,I.tok _,by rw[Bh r];exact q⟩
 |_=>exact(show False from e).elim
def Ia(ha:PE X a ta)(he:∀whole,isTrue a X.env whole=(do let v ←whole;standAt a.pos;holding [v] (truthy v))) :
  PT X a (λσ H Q=>ta σ H λx H'=>∃k,V1 X.K x H' k/\Q k H'):=by
 intro pins s σ H Q I h
 exact isTrue_plain (thn (ha pins s σ H _ I h) λv s1 ⟨x,H1,I1,r1,q1⟩=>Qi pins s1 σ H1 x v Q I1 r1 q1) (he _)
def vals1{x:V}{us:List Value}(r:Vals [x] us):∃u,us=[u]/\RelV x u:=by
 cases r with
 |cons r1 r2=>cases r2;exact⟨_,rfl,r1⟩
def vals2{x y:V}{us:List Value}(r:Vals [x,y] us):∃u w',us=[u,w']/\RelV x u/\RelV y w':=by
 cases r with
 |cons r1 r2 =>
  cases r2 with
  |cons r3 r4=>cases r4;exact⟨_,_,rfl,r1,r3⟩
def GP(hc:X.calm=true):bJ X (.builtin "max") (λxs H Q=>∃i j,xs=[.int i,.int j]/\Q (.int (if j > i then j else i)) H):=by
 intro pins s σ H xs us Q I r h
 obtain⟨i,j,rfl,q⟩:=h
 obtain⟨u,w',rfl,⟨t,rfl⟩,⟨t',rfl⟩⟩:=vals2 r
 refine max_two_ints (I.ok.hd hc) λh' tk k=>⟨_,H,I.kept k,?_,q⟩
 by_cases hj:j > i
 ·rw[if_pos hj,if_pos hj];exact⟨_,rfl⟩
 ·rw[if_neg hj,if_neg hj];exact⟨_,rfl⟩
end
structure ObjM(h:Heap)(x dx C:Addr)(mA:Str->Option Value):Prop where
 obj:h.get? x=some (W.instObj C dx)
 ns:h.Ns1 dx mA
 ne:dx≠x
def Ga{h:Heap}{dx:Addr}{mA:Str->Option Value}(n:h.Ns1 dx mA):∃od,h.get? dx=some od/\∀name,W.lookIn name od=some (mA name):=by
 obtain⟨o,es,ep,ho,hd,hk,_,hm⟩:=n
 refine⟨o,ho,λname=>?_⟩
 have e:=hm name
 unfold nsFind findBy at e
 rw[←Array.find?_toList] at e
 unfold W.lookIn
 rw[hd]
 dsimp only
 split
 ·rename_i y q
  rw[q] at e
  exact congrArg some e
 ·rename_i q
  rw[q] at e
  have a:es.toList.any (·.refKey)=false:=by
   rw[List.any_eq_false]
   intro y hy
   obtain⟨z,t,hkey⟩:=hk y (Array.mem_toList_iff.mp hy)
   simp[DictEntry.refKey,hkey]
  have a':¬es.toList.any (·.refKey)=true:=by rw[a];exact Ð
  rw[if_neg a']
  exact congrArg some e
def ObjM.look{h:Heap}{x dx C:Addr}{mA:Str->Option Value}(I:ObjM h x dx C mA):∃od,W.InstAt h x (W.instObj C dx) C (some od)/\∀name,W.lookIn name od=some (mA name) :=
 let ⟨od,ho,hl⟩:=Ga I.ns
 ⟨od,⟨I.obj,rfl,rfl,ho⟩,hl⟩
section
variable {prog:Program}{w:World}{A:Around}{E:Value->Shared->Prop}{s:Shared}{K:Ú}{x dx C f:Addr}{mA:Str->Option Value}{name:Str}{v:Value}
end
def sG.some_of{v:V}{o:Option Value}(r:sG (some v) o):∃u,o=some u/\RelV v u:=by
 cases o with
 |none=>exact(show False from r).elim
 |some u=>exact⟨u,rfl,r⟩
section
variable {P:Program}{w:World}{H H':Hp}{h h':Heap}{a C dx:Addr}{fs fs':List (Str×V)}
def N8(hok:HOk P w H h)(e:H a=some (.ins C dx fs)):∃mA,ObjM h a dx C mA/\(∀f,sG (fs.lookup f) (mA f))/\PySem.Within mA (fs.map (·.1))/\fs.length<=1000/\H dx=some (.own a):=by
 obtain⟨d,z,ne,ob,mA,n,r,q⟩:=(show aX P w H h a (.ins C dx fs) from hok a _ e)
 exact⟨mA,⟨ob,n,ne⟩,r,q,z,d⟩
end
structure Cls(K:Ú)(C:Addr):Prop where
 pg:W.plainGet K C Str.empty=true
 hd:W.hasDictIn K C=true
 po:W.plainOver K C=true
 sa:W.findIn K (.ref C) "__setattr__"=some (some (.builtin "object.__setattr__"))
def Cls.get{K:Ú}{C:Addr}(c:Cls K C)(f:Str):W.plainGet K C f=true:=c.pg
structure Con(K:Ú)(C:Addr)(f:Str)(v:V)(u:Value):Prop where
 at_:W.findIn K (.ref C) f=some (some u)
 rel:RelV v u
 get:W.specialIn K u "__get__"=some none
 cp:W.copiedNames.contains f=false
structure Meth(K:Ú)(C:Addr)(m:Str)(f:Addr):Prop where
 at_:W.findIn K (.ref C) m=some (some (.ref f))
 fn:W.isFn K (.ref f)=true
 kp:W.keepIn K (.ref f)=true
section
variable {X:Cx}{pins:List (Addr×Obj)}{σ:St}{H:Hp}{s:Shared}{a C dx:Addr}{fs:List (Str×V)}{f:Str}{v:V}{A:Around}{E:Value->Shared->Prop}
end
section
variable {X:Cx}{o e value:Expr}{f:Str}{pos pos' tpos:Pos}{ta tv:TE}
end
section
variable {X:Cx}{pins:List (Addr×Obj)}{σ:St}{H:Hp}{s:Shared}{A:Around}{E:Value->Shared->Prop}{Q:Value->Shared->Prop}{c:Value}{b:Bool}
inductive TyOf(K:Ú)(H:Hp):V->Value->Prop where
 |non:TyOf K H .non (.type "NoneType")
 |bl (x:Bool):TyOf K H (.bl x) (.type "bool")
 |int (i:Int):TyOf K H (.int i) (.type "int")
 |str (x:Str):TyOf K H (.str x) (.type "str")
 |flt (x:UInt64):TyOf K H (.flt x) (.type "float")
 |lst {a:Addr}{xs:List V} (e:H a=some (.lst xs)):TyOf K H (.ref a) (.type "list")
 |frz {a:Addr}{o:Obj}{xs:List V} (e:H a=some (.frz o (.lst xs))):TyOf K H (.ref a) (.type "list")
 |tup {a:Addr}{xs:List V} (e:H a=some (.tup xs)):TyOf K H (.ref a) (.type "tuple")
 |dK {a:Addr}{kvs:List (Key×V)} (e:H a=some (.dK kvs)):TyOf K H (.ref a) (.type "dict")
 |dT {a:Addr}{kvs:List (List Key×V)} (e:H a=some (.dT kvs)):TyOf K H (.ref a) (.type "dict")
 |ins {a C dx:Addr}{fs:List (Str×V)} (e:H a=some (.ins C dx fs)) (cl:Cls K C) (ha:W.findIn K (.ref C) "__class__"=some (some (.builtin "object.__class__")))
   (hn:W.specialIn K (.builtin "object.__class__") "__get__"=some (some (.builtin "getset_descriptor.__get__"))) (htk:W.takesIn K (.builtin "object.__class__")=some true)
   (hm:W.mroIn K C (.type "object")=some true):TyOf K H (.ref a) (.ref C)
def Gh{x:V}{u t:Value}(I:Inv X pins σ H s)(rx:RelV x u)(ty:TyOf X.K H x t)(e:W.kitOne X.K t c=some b)(h:∀tk,Q (.bool b) { s with toks:=tk }) :
  wpAny (model X.prog X.w) A (call (.builtin "isinstance") [u,c]) Q E s:=by
 cases ty with
 |non=>cases (show u=đ from rx);exact Ū W.kitx_none I.kIn ŏ e (λz=>nomatch z) h
 |bl y=>cases (show u=Value.bool y from rx);exact Ū W.kitx_bool I.kIn ŏ e (λz=>nomatch z) h
 |int i=>obtain⟨t,q⟩:=(show ∃t,u=Ĝ i t from rx);cases q;exact Ū W.kitx_int I.kIn ŏ e (λz=>nomatch z) h
 |str y=>obtain⟨t,q⟩:=(show ∃t,u=Value.str y t from rx);cases q;exact Ū W.kitx_str I.kIn ŏ e (λz=>nomatch z) h
 |flt y=>obtain⟨t,q⟩:=(show ∃t,u=Value.float y t from rx);cases q;exact Ū W.kitx_float I.kIn ŏ e (λz=>nomatch z) h
 |@lst a xs ea =>
  cases (show u=ğ a from rx)
  obtain⟨_,_,n,_,h1⟩:=(show aX X.prog X.w H s.heap a (.lst xs) from I.hok a _ ea)
  exact Ū W.kitx_list I.kIn ⟨_,h1,rfl⟩ e (λz=>nomatch z) h
 |@frz a ob xs ea =>
  cases (show u=ğ a from rx)
  obtain⟨_,_,_,n,_,h1⟩:=(show aX X.prog X.w H s.heap a (.frz ob (.lst xs)) from I.hok a _ ea)
  exact Ū W.kitx_list I.kIn ⟨_,h1,rfl⟩ e (λz=>nomatch z) h
 |@tup a xs ea =>
  cases (show u=ğ a from rx)
  obtain⟨_,_,_,p⟩:=(show aX X.prog X.w H s.heap a (.tup xs) from I.hok a _ ea)
  obtain⟨o,h1,h2,_⟩:=p
  exact Ū W.kitx_tuple I.kIn ⟨o,h1,h2⟩ e (λz=>nomatch z) h
 |@dK a kvs ea =>
  cases (show u=ğ a from rx)
  obtain⟨_,_,vs,_,p⟩:=(show aX X.prog X.w H s.heap a (.dK kvs) from I.hok a _ ea)
  obtain⟨o,es,ep,h1,h2,_⟩:=p
  exact Ū W.kitx_dict I.kIn ⟨o,h1,h2.1⟩ e (λz=>nomatch z) h
 |@dT a kvs ea =>
  cases (show u=ğ a from rx)
  obtain⟨_,_,xs,_,o,es,ep,h1,h2,_⟩:=(show aX X.prog X.w H s.heap a (.dT kvs) from I.hok a _ ea)
  exact Ū W.kitx_dict I.kIn ⟨o,h1,h2.1⟩ e (λz=>nomatch z) h
 |@ins a C dx fs ea cl ha hn htk hm =>
  cases (show u=ğ a from rx)
  obtain⟨mA,O,_⟩:=N8 I.hok ea
  obtain⟨od,J,_⟩:=O.look
  exact Ū (W.kitx_own (cl.get _) cl.hd ha hn htk hm) I.kIn J e (λz=>nomatch z) h
end
structure Room(k:Nat)(A:Around):Prop where
 hd:A.handled=none
 dp:A.depth+3 * k+5<recursionLimit
 un:A.units+16 * k+200<cLine
 gd:A.guards=some []
def Room.mono{j k:Nat}{A:Around}(r:Room k A)(h:j<=k):Room j A:=⟨r.hd,by have:=r.dp;omega,by have:=r.un;omega,r.gd⟩
def Room.deeper{k:Nat}{A:Around}(r:Room (k+1) A)(env:Env):Room k (A.deeper env) :=
 ⟨r.hd,by have:=r.dp;show A.depth+1+3 * k+5<_;omega,by have:=r.un;show A.units+3+16 * k+200<_;omega,r.gd⟩
def Room.depth{k:Nat}{A:Around}(r:Room k A):A.depth<recursionLimit:=by have:=r.dp;omega
def Room.units{k:Nat}{A:Around}(r:Room k A):A.units+64<cLine:=by have:=r.un;omega
def Li:TA:=λ_ H Q=>Q [] H
def pF(ta:TE)(tr:TA):TA:=λσ H Q=>ta σ H λx H1=>tr σ H1 λxs H2=>Q (x::xs) H2
section
variable {X:Cx}{e:Expr}{es:List Expr}{te:TE}{t:TA}{pos:Pos}
def gK:PA X [] Li:=λ_ _ _ _ H Q I h=>Calls.spliced_nil ⟨[],H,I,.nil,h⟩
def bY(ha:PE X e te)(hr:PA X es t)(hs:starEach (e::es) X.env=(false,eval e X.env)::starEach es X.env:=by rfl):PA X (e::es) (pF te t):=by
 intro pos pins s σ H Q I h
 rw[hs]
 show wpAny _ _ (spliced ((false,eval e X.env)::backTo pos (starEach es X.env))) _ _ s
 refine Calls.spliced_cons (thn (ha pins s σ H _ I h) λu s1 ⟨x,H1,I1,r1,q1⟩=>?_)
 exact thn (hr pos pins s1 σ H1 _ I1 q1) λus s2 ⟨xs,H2,I2,r2,q2⟩=>⟨x::xs,H2,I2,.cons r1 r2,q2⟩
def V7(t:TA):TE:=λσ H Q=>t σ H λxs H1=>xs.length<=sizeLine/\∀p,H1 p=none->Q (.ref p) (upd H1 p (.tup xs))
def Tz(t:TA):TE:=λσ H Q=>t σ H λxs H1=>xs.length<=sizeLine/\∀p,H1 p=none->Q (.ref p) (upd H1 p (.lst xs))
def QV{x1}(h:PA X es t):PE X (.Tuple es x1 pos) (V7 t):=by
 intro pins s σ H Q I hq
 refine wpAny_Tuple_spliced (thn (h pos pins s σ H _ I hq) λus s1 ⟨xs,H1,I1,r,z,q⟩=>⟨by rw[←r.length];exact z,?_⟩)
 have hf:H1 s1.heap.objs.size=none:=I1.hok.fresh (É _)
 refine⟨.ref s1.heap.objs.size,upd H1 s1.heap.objs.size (.tup xs),I1.laid (t':=s1.toks) (λb u e=>Ï _ e) (É _) ?_,rfl,q _ hf⟩
 exact⟨z,us,r,⟨_,ß _ rfl,rfl,_,rfl⟩⟩
def Ai(h:PA X es t):PE X (.List es pos) (Tz t):=by
 intro pins s σ H Q I hq
 refine wpAny_List_spliced (thn (h pos pins s σ H _ I hq) λus s1 ⟨xs,H1,I1,r,z,q⟩=>⟨by rw[←r.length];exact z,?_⟩)
 have hf:H1 s1.heap.objs.size=none:=I1.hok.fresh (É _)
 refine⟨.ref s1.heap.objs.size,upd H1 s1.heap.objs.size (.lst xs),I1.laid (t':=s1.toks) (λb u e=>Ï _ e) (É _) ?_,rfl,q _ hf⟩
 exact⟨z,us,0,r,ß _ rfl⟩
end
abbrev Sp:=List V->Hp->VK->XK->Prop
abbrev CXT:=List Env->Hp->Shared->XK->Value->Shared->Prop
structure Env0(P:Program)(w:World)(K:Ú)(mg:Str->Option Value)(base:Heap)(A:Around)(outer:List Env)(s:Shared)(H:Hp):Prop where
 frames:A.frames=some outer
 mod:Mod K mg base
 bs:∀b o,base.get? b=some o->s.heap.get? b=some o/\H b=none
 bsz:base.objs.size<=s.heap.objs.size
 nG:s.heap.FunFrames base outer
 frf:∀b∈frs outer,H b=none
 hok:HOk P w H s.heap
 bare:AllBare s.gens
def CE(outer:List Env)(P:Program)(w:World)(H:Hp)(s:Shared)(Q:VK)(u:Value)(s':Shared):Prop :=
 ∃v H',s'.os=s.os/\AllBare s'.gens/\Un (frs outer) [] H H' s.heap s'.heap/\HOk P w H' s'.heap/\RelV v u/\Q v H'
def CR(CX:CXT)(outer:List Env)(P:Program)(w:World)(H:Hp)(s:Shared)(Q:VK)(E:XK)(r:Result)(s':Shared):Prop :=
 match r with
 |.ok (.ret u)=>CE outer P w H s Q u s'
 |.ok _=>False
 |.error e=>CX outer H s E e s'
structure FnOk(P:Program)(w:World)(K:Ú)(mg:Str->Option Value)(base:Heap)(CX:CXT)(k:Nat)(f:Addr)(fd:FuncData)(ps:List Str)(sp:Sp):Prop where
 len:∀vs H Q E,sp vs H Q E->vs.length=ps.length
 run:∀(A:Around) (outer:List Env) (s:Shared) (H:Hp) (args:Args) (us:List Value) (vs:List V) (Q:VK) (E:XK),Room k A->Env0 P w K mg base A outer s H->BindsTo s fd args (ps.zip us)->Vals vs us->sp vs H Q E ->
  codeAny (model P w) A (.call (.ref f) args) (CR CX outer P w H s Q E) s
def FnOk.imp{P:Program}{w:World}{K:Ú}{mg:Str->Option Value}{base:Heap}{CX:CXT}{k:Nat}{f:Addr}{fd:FuncData}{ps:List Str}{sp sp':Sp}(F:FnOk P w K mg base CX k f fd ps sp)(h:∀vs H Q E,sp' vs H Q E->sp vs H Q E):FnOk P w K mg base CX k f fd ps sp' :=
 ⟨λvs H Q E q=>F.len vs H Q E (h _ _ _ _ q),λA outer s H args us vs Q E hr he hb hv hs=>F.run A outer s H args us vs Q E hr he hb hv (h _ _ _ _ hs)⟩
section
variable {X:Cx}{pins:List (Addr×Obj)}{σ:St}{H:Hp}{s s':Shared}
def Inv.env0(I:Inv X pins σ H s):Env0 X.prog X.w X.K X.mg X.base X.A X.stack s H :=
 ⟨I.ok.frames,I.ok.mod,I.bs,î I.ok.bsz I.sz,I.stack,I.Cv,I.hok,I.bare⟩
def Inv.after{Q:VK}{u:Value}(I:Inv X pins σ H s)(h:CE X.stack X.prog X.w H s Q u s'):EP X pins σ Q u s':=by
 obtain⟨v,H',os,bare,un,hok,r,q⟩:=h
 obtain⟨hh,g,d,t,os'⟩:=s'
 obtain rfl:os'=s.os:=os
 exact⟨v,H',I.call (h':=hh) (g':=g) (d':=d) (t':=t) (ch:=[]) un hok bare (λb z=>absurd z (by simp)),r,q⟩
end
def pG(sp:Sp)(dvs:List V)(E:XK)(t:TA):TE:=λσ H Q=>t σ H λvs H1=>sp (vs++dvs) H1 Q E
def Binds(K:Ú)(fd:FuncData)(ps:List Str)(ds:List Value):Prop :=
 ∀(s:Shared) (us:List Value),K.In s.heap->(us++ds).length=ps.length->BindsTo s fd ⟨us,[]⟩ (ps.zip (us++ds))
def Binds.all{K:Ú}{fd:FuncData}{ps:List Str}(h:∀us:List Value,us.length=ps.length->bindArgs fd ⟨us,[]⟩=pure (ps.zip us)):Binds K fd ps []:=λs us _ hl=>by
 rw[ø] at hl ⊢
 exact .of_eq (h us hl)
def Passes(CX:CXT)(X:Cx)(E:XK):Prop:=∀(pins:List (Addr×Obj)) (σ:St) (H:Hp) (s:Shared) (e:Value) (s':Shared),Inv X pins σ H s->CX X.stack H s E e s'->X.xe e s'
section
variable {X:Cx}{CX:CXT}{k:Nat}{f C:Addr}{fd:FuncData}{ps:List Str}{sp:Sp}{dvs:List V}{ds:List Value}{E:XK}{x m:Str}{p pos apos:Pos}{e o:Expr}{es:List Expr}{ta:TE}{t:TA}
def HN{pins:List (Addr×Obj)}{σ:St}{H:Hp}{s:Shared}{Q:VK}{us:List Value}{vs:List V}(F:FnOk X.prog X.w X.K X.mg X.base CX k f fd ps sp)(hr:Room k X.A)(hb:Binds X.K fd ps ds)(hd:Vals dvs ds)(hx:Passes CX X E)(I:Inv X pins σ H s)(r:Vals vs us)(h:sp (vs++dvs) H Q E):wpAny (model X.prog X.w) X.A (call (.ref f) us) (EP X pins σ Q) X.xe s:=by
 have r2:Vals (vs++dvs) (us++ds):=r.append hd
 have hl:(us++ds).length=ps.length:=by rw[←r2.length];exact F.len _ _ _ _ h
 refine wpAny_call (codeAny_mono (F.run X.A X.stack s H ⟨us,[]⟩ (us++ds) (vs++dvs) Q E hr I.env0 (hb s us I.kIn hl) r2 h) λr s' hq=>?_)
 cases r with
 |error e=>exact hx pins σ H s e s' I hq
 |ok fl =>
  cases fl with
  |ret u=>exact I.after hq
  |next=>exact Ľ hq
  |brk=>exact Ľ hq
  |cont=>exact Ľ hq
def Mj(F:FnOk X.prog X.w X.K X.mg X.base CX k f fd ps sp)(hr:Room k X.A)(hg:Gl X x)(hm:X.mg x=some (.ref f))(hk:W.keepIn X.K (.ref f)=true)(hb:Binds X.K fd ps ds)(hd:Vals dvs ds)(hx:Passes CX X E)(ha:PA X (e::es) t)(hdb:(x == ("__debug__":Str))=false:=by decide)(he:starEach (e::es) X.env=(false,eval e X.env)::starEach es X.env:=by rfl)(hpl:(backTo pos (starEach es X.env)).any (·.1)=false:=by rfl) :
  PE X (.Call (.Name x p) (e::es) [] pos) (pG sp dvs E t):=by
 intro pins s σ H Q I h
 refine ň (Dw I hg hm ?_ hdb)
 refine W.callWith_K (h₀:=X.base) I.ok.mod.kin hk (thn (ha pos pins s σ H _ I h) λus s1 ⟨vs,H1,I1,r,q⟩=>⟨I1.kIn,?_⟩) he hpl
 exact HN F hr hb hd hx I1 r q
structure Mk(K:Ú)(C f:Addr):Prop where
 makes:W.makesIn K C=true
 init:W.findIn K (.ref C) "__init__"=some (some (.ref f))
 fn:W.isFn K (.ref f)=true
 kp:W.keepIn K (.ref C)=true
end
section
variable {X:Cx}{CX:CXT}{k:Nat}{f C:Addr}{fd:FuncData}{ps ks:List Str}{sp:Sp}{E:XK}{x m:Str}{p pos apos kpos:Pos}{e o:Expr}{es:List Expr}{kws:List Keyword}{te ta:TE}{t tk:TA}{nm:Option Str}
structure KBinds(K:Ú)(fd:FuncData)(ps ks:List Str)(g:List Value->List Value->List Value)(gV:List V->List V->List V):Prop where
 to:∀(s:Shared) (us ws:List Value),K.In s.heap->(g us ws).length=ps.length->BindsTo s fd ⟨us,ks.zip ws⟩ (ps.zip (g us ws))
 rel:∀{vs:List V}{us:List Value}{zs:List V}{ws:List Value},Vals vs us->Vals zs ws->Vals (gV vs zs) (g us ws)
variable {g:List Value->List Value->List Value}{gV:List V->List V->List V}
end
structure FnScope(N P:List Str)(sc:Scope):Prop where
 kind:sc.kind=.function
 co:sc.isCoroutine=false
 gen:sc.isGenerator=false
 nd:N.Nodup
 pre:N.take P.length=P
 par:∀x∈P,sc.names.lookup x=some .local\/sc.names.lookup x=some .cell
 nofree:∀y∈sc.names,y.2≠.free
def zC{N P:List Str}{sc:Scope}(a:sc.kind=.function:=by rfl)(b:sc.isCoroutine=false:=by rfl)(c:sc.isGenerator=false:=by rfl)(d:N.Nodup:=by decide +kernel)(e:N.take P.length=P:=by rfl)(f:∀x∈P,sc.names.lookup x=some .local\/sc.names.lookup x=some .cell:=by decide +kernel)(g:∀y∈sc.names,y.2≠.free:=by decide +kernel):FnScope N P sc:=⟨a,b,c,d,e,f,g⟩
def uJ{kindOf:Str->Option NameKind}{x:Str}:∀{binds:List (Str×Value)}{m:Str->Option Value},(∀v,(x,v)∉binds)->bindL kindOf binds m x=m x
 |[],_,_=>rfl
 |(n,v)::r,m,h=>by
  unfold bindL
  rw[uJ λw hw=>h w (Ä _ hw)]
  split
  ·have:x≠n:=by rintro rfl;exact h v À
   simp[this]
  ·rfl
def uL{kindOf:Str->Option NameKind}{x:Str}:∀{binds:List (Str×Value)}{m:Str->Option Value},(∀v,(x,v)∉binds)->bindC kindOf binds m x=m x
 |[],_,_=>rfl
 |(n,v)::r,m,h=>by
  unfold bindC
  rw[uL λw hw=>h w (Ä _ hw)]
  split
  ·rfl
  ·have:x≠n:=by rintro rfl;exact h v À
   simp[this]
def uK{kindOf:Str->Option NameKind}{x:Str}{v:Value}:∀{P:List Str}{vs:List Value}{i:Nat}{m:Str->Option Value},P.Nodup->P[i]?=some x->vs[i]?=some v->kindOf x=some .local ->
  bindL kindOf (P.zip vs) m x=some v
 |[],_,_,_,_,h,_,_=>by simp at h
 |_::_,[],_,_,_,_,h,_=>by simp at h
 |p::P,w::vs,0,m,nd,h1,h2,hk=>by
  simp at h1 h2;subst h1;subst h2
  show bindL kindOf ((p,w)::P.zip vs) m p=_
  unfold bindL
  rw[uJ λv hv=>(ŭ.mp nd).1 (List.of_mem_zip hv).1,if_pos hk]
  simp
 |p::P,w::vs,i+1,m,nd,h1,h2,hk=>by
  show bindL kindOf ((p,w)::P.zip vs) m x=_
  unfold bindL
  exact uK (i:=i) (ŭ.mp nd).2 (by simpa using h1) (by simpa using h2) hk
def uM{kindOf:Str->Option NameKind}{x:Str}{v:Value}:∀{P:List Str}{vs:List Value}{i:Nat}{m:Str->Option Value},P.Nodup->P[i]?=some x->vs[i]?=some v->kindOf x≠some .local ->
  bindC kindOf (P.zip vs) m x=some v
 |[],_,_,_,_,h,_,_=>by simp at h
 |_::_,[],_,_,_,_,h,_=>by simp at h
 |p::P,w::vs,0,m,nd,h1,h2,hk=>by
  simp at h1 h2;subst h1;subst h2
  show bindC kindOf ((p,w)::P.zip vs) m p=_
  unfold bindC
  rw[uL λv hv=>(ŭ.mp nd).1 (List.of_mem_zip hv).1,if_neg hk]
  simp
 |p::P,w::vs,i+1,m,nd,h1,h2,hk=>by
  show bindC kindOf ((p,w)::P.zip vs) m x=_
  unfold bindC
  exact uM (i:=i) (ŭ.mp nd).2 (by simpa using h1) (by simpa using h2) hk
def start(N:List Str)(vs:List V):St:=vs.map some++È (N.length - vs.length) none
def BJ(CX:CXT)(P:Program)(w:World)(K:Ú)(mg:Str->Option Value)(base:Heap)(N:List Str)(qual:Str)(scope:Scope)(f:Addr)(cd:Value)(A:Around)(outer:List Env)(s:Shared)(H:Hp)(E:XK):Cx where
 prog:=P
 w:=w
 K:=K
 mg:=mg
 base:=base
 A:=A.deeper (envOfC qual scope s.heap.objs.size f cd)
 N:=N
 s₀:=s
 H₀:=H
 env:=envOfC qual scope s.heap.objs.size f cd
 outer:=outer
 stack:=envOfC qual scope s.heap.objs.size f cd::outer
 ex:=[]
 calm:=true
 fn:=λ_=>true
 pn:=[]
 xe:=λe s'=>wpAny (model P w) (A.deeper (envOfC qual scope s.heap.objs.size f cd)) (leaving (envOfC qual scope s.heap.objs.size f cd) e) (λ_ s''=>CX outer H s E e s'') (λe' s''=>CX outer H s E e' s'') s'
def zx{sc:Scope}{n:Nat}{x:Str}(h:sc.names.lookup x=some .cell):∃c,(cellsFrom n sc.names []).lookup x=some c:=by
 have q:=W.cellsFrom_some sc.names n [] (.inl h)
 exact ŧ.mp q
def Gj{CX:CXT}{P:Program}{w:World}{K:Ú}{mg:Str->Option Value}{base:Heap}{N ps:List Str}{qual:Str}{scope:Scope}{f:Addr}{cd:Value}{A:Around}{outer:List Env}{s s1:Shared}{H:Hp}{E:XK}{us:List Value}{vs:List V}(S:FnScope N ps scope)(hd:A.handled=none)(e0:Env0 P w K mg base A outer s H)(hl:vs.length=ps.length)(r:Vals vs us)(x:InCallC s s.heap.objs.size (bindL (envOfC qual scope s.heap.objs.size f cd).kindOf (ps.zip us) λ_=>none) (cellsFrom (s.heap.objs.size+1) scope.names []) (bindC (envOfC qual scope s.heap.objs.size f cd).kindOf (ps.zip us) λ_=>none) s1) :
  Inv (BJ CX P w K mg base N qual scope f cd A outer s H E) [] (start N vs) H s1:=by
 have hpl:ps.length<=N.length:=by have:=congrArg List.length S.pre;rw[ă] at this;omega
 obtain⟨h1,tk,rfl,hk⟩:=x.done
 have noA:∀b:Addr,b∉(BJ CX P w K mg base N qual scope f cd A outer s H E).ex:=λb z=>absurd (show b∈([]:List Addr) from z) (by simp)
 refine⟨⟨e0.mod,S.kind,rfl,rfl,É _,λy z c h1 h2=>?_,λy hy=>?_,λy c _ h=>?_,λ_=>hd,Around.frames_deeper e0.frames,.inr ⟨rfl,rfl⟩,λb z=>absurd z (noA b),e0.bs,e0.bsz,λb _ _=>noA b,λb z=>absurd z (noA b),e0.nG,e0.frf,λq z=>nomatch (show q∈([]:List (Addr×Obj×HO)) from z)⟩,
  rfl,e0.bare,Un.kept hk,⟨_,x.toInCall.ns,λi y v h1 h2 h3=>?_⟩,λy c h=>⟨_,x.cell y c h⟩,e0.hok.fresh (É _),λy c h=>?_,λp hp=>absurd (show p∈([]:List (Addr×Obj)) from hp) (by simp),e0.hok.kept hk,?_⟩
 ·exact name_of_addr x.apart (ĕ h1) (ĕ h2)
 ·have hy:scope.names.lookup y=some .cell\/scope.names.lookup y=some .free:=hy
  rcases hy with hy|hy
  ·exact zx hy
  ·exact absurd rfl (S.nofree _ (ĕ hy))
 ·exact Nat.le_of_lt (x.above y c (ĕ h))
 ·have hi:i<vs.length:=by
   unfold start at h2
   by_cases hi:i<vs.length
   ·exact hi
   ·rw[ê (by simpa using hi)] at h2
    rw[Ļ] at h2
    split at h2 <;> cases h2
  have ha:vs[i]?=some v:=by
   unfold start at h2
   rw[ñ (by simpa using hi),è] at h2
   cases e:vs[i]? with
   |none=>rw[e] at h2;cases h2
   |some a=>rw[e] at h2;cases h2;rfl
  obtain⟨u,hu,rv⟩:=r.get ha
  have hp:ps[i]?=some y:=by
   rw[←S.pre,List.getElem?_take_of_lt (by omega)];exact h1
  have ndP:ps.Nodup:=by rw[←S.pre];exact S.nd.sublist (List.take_sublist _ _)
  refine⟨u,rv,?_⟩
  rcases S.par y (Ò hp) with k|k
  ·exact .inl ⟨k,uK ndP hp hu k⟩
  ·obtain⟨c,e⟩:=zx (n:=s.heap.objs.size+1) k
   refine .inr ⟨.inl k,c,e,?_⟩
   have q:=x.cell y c e
   rw[uM ndP hp hu (by show scope.names.lookup y≠_;rw[k];decide)] at q
   exact q
 ·exact e0.hok.fresh (Nat.le_of_lt (x.above y c (ĕ h)))
 ·unfold start
  show _=N.length
  rw[Æ,Á,Ģ]
  omega
def Pu{CX:CXT}{P:Program}{w:World}{K:Ú}{mg:Str->Option Value}{base:Heap}{k:Nat}{f:Addr}{name qual:Str}{params:Arguments}{body:List Stmt}{scope:Scope}{dV kV doc pm cdv ct oc:Value}{an od:Option Addr}{osl:Array (Option Value)}{N ps:List Str}{sp:Sp}(lk:K.lookup f=some ⟨oc,od,.func (W.fnOf name qual params body scope dV kV doc pm an cdv ct),osl⟩)(hcd:W.codeIn K cdv qual=true)(S:FnScope N ps scope)(len:∀vs H Q E,sp vs H Q E->vs.length=ps.length)(hbody:∀(A:Around) (outer:List Env) (s:Shared) (H:Hp) (vs:List V) (Q:VK) (E:XK),Room k (A.deeper (envOfC qual scope s.heap.objs.size f cdv))->sp vs H Q E ->
   ∃t,PSs (BJ CX P w K mg base N qual scope f cdv A outer s H E) body t/\t { nx:=λ_ H'=>Q .non H',rt:=Q } (start N vs) H) :
  FnOk P w K mg base CX (k+1) f (W.fnOf name qual params body scope dV kV doc pm an cdv ct) ps sp:=by
 refine⟨len,λA outer s H args us vs Q E hr e0 hb r hsp=>?_⟩
 have hl:=len _ _ _ _ hsp
 have KX:K.In s.heap:=e0.mod.kin.keeps λb o e=>(e0.bs b o e).1
 have lim:s.heap.NoLimit:=e0.mod.nolimit.keeps λb o e=>(e0.bs b o e).1
 have hkind:∀y∈ps.zip us,scope.names.lookup y.1=some .local\/(scope.names.lookup y.1=some .cell/\((cellsFrom (s.heap.objs.size+1) scope.names []).lookup y.1).isSome=true):=λ⟨n,v⟩ hy=>by
  rcases S.par n (List.of_mem_zip hy).1 with q|q
  ·exact .inl q
  ·exact .inr ⟨q,W.cellsFrom_some _ _ _ (.inl q)⟩
 refine codeAny_call_function hr.depth (KX _ _ lk) rfl S.co S.gen rfl (W.codeRec_of KX hcd) (hb _ _ _ _ ?_)
 refine wpAny_newFunctionEnv_cells S.kind hkind λenv he s1 x=>?_
 subst he
 refine⟨lim.keeps x.toInCall.keep,codeAny_func ?_⟩
 obtain⟨t,ht,hq⟩:=hbody A outer s H vs Q E (hr.deeper _) hsp
 have I:Inv (BJ CX P w K mg base N qual scope f cdv A outer s H E) [] (start N vs) H s1:=Gj S hr.hd e0 hl r x
 refine į (ht [] s1 (start N vs) H _ I hq) (λfl s' hs=>?_) λe s' hs=>hs
 have fin:∀{σ':St}{H':Hp}{v:V}{u:Value},Inv (BJ CX P w K mg base N qual scope f cdv A outer s H E) [] σ' H' s'->RelV v u->Q v H'->CE outer P w H s Q u s' :=
  λ{σ' H' v u} J rv q=>⟨v,H',J.os,J.bare,J.base,J.hok,rv,q⟩
 cases fl with
 |ret u =>
  obtain⟨v,σ',H',J,rv,q⟩:=hs
  exact fin J rv q
 |next =>
  obtain⟨σ',H',J,q⟩:=hs
  exact fin (v:=V.non) (u:=đ) J rfl q
 |brk =>
  obtain⟨_,_,_,q⟩:=hs
  exact Ľ q
 |cont =>
  obtain⟨_,_,_,q⟩:=hs
  exact Ľ q
section
variable {X:Cx}{x:Str}{p pos:Pos}{e:Expr}{es:List Expr}{t:TA}{id T:String}{r:List V->Hp->VK->Prop}
def tCB(r:List V->Hp->VK->Prop)(t:TA):TE:=λσ H Q=>t σ H λvs H1=>r vs H1 Q
def mO(hc:bJ X (.builtin id) r)(hg:Gl X x)(hm:X.mg x=none)(hv:bootBuiltins x=some (.builtin id))(ha:PA X (e::es) t)(hn:x≠"__name__":=by decide)(hdb:(x == ("__debug__":Str))=false:=by decide)(he:starEach (e::es) X.env=(false,eval e X.env)::starEach es X.env:=by rfl)(hpl:(backTo pos (starEach es X.env)).any (·.1)=false:=by rfl):PE X (.Call (.Name x p) (e::es) [] pos) (tCB r t):=by
 intro pins s σ H Q I h
 refine ň (lV I hg hm hv ?_ hn hdb)
 exact PyProof.Rows.callWith_builtin1 (thn (ha pos pins s σ H _ I h) λus s1 ⟨vs,H1,I1,r1,q1⟩=>hc pins s1 σ H1 vs us Q I1 r1 q1) he hpl
def gP(hc:bJ X (.type T) r)(hg:Gl X x)(hm:X.mg x=none)(hv:bootBuiltins x=some (.type T))(ha:PA X (e::es) t)(hn:x≠"__name__":=by decide)(hdb:(x == ("__debug__":Str))=false:=by decide)(he:starEach (e::es) X.env=(false,eval e X.env)::starEach es X.env:=by rfl)(hpl:(backTo pos (starEach es X.env)).any (·.1)=false:=by rfl):PE X (.Call (.Name x p) (e::es) [] pos) (tCB r t):=by
 intro pins s σ H Q I h
 refine ň (lV I hg hm hv ?_ hn hdb)
 exact ķ (thn (ha pos pins s σ H _ I h) λus s1 ⟨vs,H1,I1,r1,q1⟩=>hc pins s1 σ H1 vs us Q I1 r1 q1) he hpl
end
end L2
namespace HT
open PySem PyProof.Rows
section
open PySem.SeqAt
open PySem.AutoSeq1 (wpAny_loadPart')
open PySem.MeetsSeq PySem.MeetsSeq2 PySem.MeetsSeq3
end
section
variable {prog:Program}{w:World}{A:Around}{E:Value->Shared->Prop}{s:Shared}
def Ou{t b:Addr}{vs ws:List Value}{Q:Value->Shared->Prop}(ht:IsTup s.heap t vs.toArray)(hb:IsTup s.heap b ws.toArray)(hv:vs≠[])(h1:ws=[]->Q (.ref t) s)(h2:ws≠[]->Q (.ref s.heap.objs.size) { s with heap:=s.heap.push { cls:=.type "tuple",data:=.seq (vs++ws).toArray } })(hsz:vs.length+ws.length<=sizeLine):wpAny (model prog w) A (binaryOp .Add (.ref t) (.ref b)) Q E s:=by
 obtain⟨⟨cls,dd,data,sl⟩,ho,hc,n,hd⟩:=id ht
 obtain⟨⟨cls2,dd2,data2,sl2⟩,ho2,hc2,n2,hd2⟩:=id hb
 simp only at hc hd hc2 hd2
 subst hc hd hc2 hd2
 have e:vs.toArray++ws.toArray=(vs++ws).toArray:=by simp
 by_cases hw:ws=[]
 ·exact concat_meets ⟨_,ho,rfl⟩ ⟨_,ho2,rfl⟩ noFill_tuple_add seq_tuple_add PySem.F.slot_tuple_add PySem.F.entry_tuple_add (PySem.F.args_tuple_add_2 _ _)
   (tuple_addW1 t b vs.toArray ws.toArray n n2 dd dd2 sl sl2 (by simpa using hv) (by simp[hw])) ⟨ho,ho2,h1 hw⟩
 ·refine concat_meets ⟨_,ho,rfl⟩ ⟨_,ho2,rfl⟩ noFill_tuple_add seq_tuple_add PySem.F.slot_tuple_add PySem.F.entry_tuple_add (PySem.F.args_tuple_add_2 _ _)
   (tuple_addW2 t b vs.toArray ws.toArray n n2 dd dd2 sl sl2 (by simpa using hv) (by simpa using hw) (by rw[Ñ,Ñ];exact hsz)) ⟨ho,ho2,?_⟩
  rw[e]
  exact h2 hw
def sIx(n d:Nat):Option Int->Nat
 |none=>d
 |some v=>if v<0 then (v+(n:Int)).toNat else min v.toNat n
def u9(n d k:Nat):sIx n d (some (k:Int))=min k n:=by
 show(if (k:Int)<0 then ((k:Int)+(n:Int)).toNat else min (k:Int).toNat n)=min k n
 rw[if_neg (by omega),Ø]
def Qy(n d:Nat)(hd:d<=n)(o:Option Int):sIx n d o<=n:=by
 cases o with
 |none=>exact hd
 |some v =>
  show(if v<0 then (v+(n:Int)).toNat else min v.toNat n)<=n
  by_cases hv:v<0
  ·rw[if_pos hv];omega
  ·rw[if_neg hv];exact Nat.min_le_right _ _
def Ep(v:Int)(n d:Nat):(if v<0 then max (v+(n:Int)) 0 else min v (n:Int))=((sIx n d (some v):Nat):Int):=by
 show(if v<0 then max (v+(n:Int)) 0 else min v (n:Int))=(((if v<0 then (v+(n:Int)).toNat else min v.toNat n):Nat):Int)
 by_cases hv:v<0
 ·simp only[if_pos hv];omega
 ·simp only[if_neg hv];omega
def Cg(lo hi:Option Int)(n:Nat):Builtin.Slice.sliceAdjust lo hi 1 (n:Int)=(((sIx n 0 lo:Nat):Int),((sIx n n hi:Nat):Int)):=by
 have h1:¬((1:Int)<0):=by omega
 unfold Builtin.Slice.sliceAdjust
 simp only[h1,if_false]
 refine Prod.ext ?_ ?_
 ·cases lo with
  |none=>rfl
  |some v=>exact Ep v n 0
 ·cases hi with
  |none=>rfl
  |some v=>exact Ep v n n
def Ah(i j:Nat):Ś (i:Int) (j:Int) 1=j - i:=by
 unfold Ś
 have h1:(1:Int) > 0:=by omega
 simp only[h1,if_true,Int.ediv_one]
 split <;> omega
def qJ{v:Value}{o:Option Int}{Q:Option Int->Shared->Prop}(p:IsPart v o)(h:Q o s):wpAny (model prog w) A (Builtin.Slice.slicePartIndex v) Q E s:=by
 cases p with
 |none=>exact slicePart_none h
 |int i t=>exact slicePart_int h
def oE{sl:Addr}{vl vu:Value}{lo hi:Option Int}{n:Nat}{Q:Int×Int×Nat->Shared->Prop}(hs:s.heap.IsSliceOf sl vl vu .none)(pl:IsPart vl lo)(pu:IsPart vu hi)(h:Q (((sIx n 0 lo:Nat):Int),1,sIx n n hi - sIx n 0 lo) s):wpAny (model prog w) A (Builtin.Slice.sliceApplied (.ref sl) (pure (n:Int))) Q E s:=by
 obtain⟨os,hos,hcs,hds⟩:=id hs
 unfold Builtin.Slice.sliceApplied Builtin.Slice.sliceFields
 refine Å (Å (wpAny_field hos hds (x:=vl) rfl (Å (wpAny_field hos hds (x:=vu) rfl (Å (wpAny_field hos hds (x:=.none) rfl (Ô ?_)))))))
 refine Å (slicePart_none ?_)
 show wpAny _ _ (if ((1:Int) == 0)=true then _ else _) _ _ s
 rw[if_neg (by decide)]
 refine Å (qJ pl (Å (qJ pu (Å (Ô ?_)))))
 show wpAny _ _ (match Builtin.Slice.sliceAdjust lo hi 1 (n:Int) with|(lo,hi)=>pure (lo,(1:Int),Ś lo hi 1)) _ _ s
 rw[Cg lo hi n]
 show wpAny _ _ (pure (((sIx n 0 lo:Nat):Int),(1:Int),Ś ((sIx n 0 lo:Nat):Int) ((sIx n n hi:Nat):Int) 1)) _ _ s
 rw[Ah]
 exact Ô h
def Ik(xs:Array Value)(i k:Nat):((Û k).filterMap λ(m:Nat)=>xs[((i:Int)+(m:Int) * 1).toNat]?).toArray=((xs.toList.drop i).take k).toArray:=by
 have e:(λ(m:Nat)=>xs[((i:Int)+(m:Int) * 1).toNat]?)=λm=>xs[i+m]?:=by
  funext m
  have:((i:Int)+(m:Int) * 1).toNat=i+m:=by omega
  rw[this]
 rw[e]
 have:=pick_run xs i k
 rw[List.filterMap_map] at this
 have e2:((λx=>xs[x]?) ∘ λx=>i+x)=λm=>xs[i+m]?:=rfl
 rw[e2] at this
 rw[this]
def nC{t sl:Addr}{items:Array Value}{vl vu:Value}{lo hi:Option Int}{Q:Value->Shared->Prop}(ht:IsTup s.heap t items)(hs:s.heap.IsSliceOf sl vl vu .none)(pl:IsPart vl lo)(pu:IsPart vu hi)(hw:¬(sIx items.size 0 lo=0/\sIx items.size items.size hi=items.size))(h:Q (.ref s.heap.objs.size) { s with heap:=s.heap.push { cls:=.type "tuple",data:=.seq ((items.toList.drop (sIx items.size 0 lo)).take (sIx items.size items.size hi - sIx items.size 0 lo)).toArray } })(hsz:items.size<=sizeLine):wpAny (model prog w) A (getItem (.ref t) (.ref sl)) Q E s:=by
 have htake:sizeOk (.seq ((items.toList.drop (sIx items.size 0 lo)).take (sIx items.size items.size hi - sIx items.size 0 lo)).toArray):=by
  show((items.toList.drop (sIx items.size 0 lo)).take (sIx items.size items.size hi - sIx items.size 0 lo)).toArray.size<=sizeLine
  rw[Ñ,ă,û,Ī]
  omega
 have hj:sIx items.size items.size hi<=items.size:=Qy _ _ (É _) hi
 obtain⟨os,hos,hcs,hds⟩:=id hs
 have hTs:s.TypeIs (.ref sl) "slice":=⟨os,hos,hcs⟩
 unfold getItem
 try with_reducible refine ņ ?_
 first|refine Å (Ô ?_)|skip
 refine Å (wpAny_sequenceKey ht.typeIs (by decide) ?_)
 refine Å (wpAny_callSpecial?_slot (name:=ð "__getitem__") ht.typeIs PyProof.Rows.slot_tuple_getitem
  (wpAny_call_entry PyProof.Rows.slot_tuple_getitem ht.typeIs entry_tuple_getitem ?_ (args_tuple_getitem _ _)))
 show wpAny _ _ (Builtin.Tuple.tupleItemsOf (.ref t) >>= _) _ _ s
 refine Å (tupleItemsOf_ ht ?_)
 refine Å (wpAny_typeOf hTs ?_)
 rw[if_pos (by decide)]
 refine Å (oE hs pl pu ?_)
 have hno:¬((((sIx items.size 0 lo:Nat):Int) == 0&&(1:Int) == 1&&(sIx items.size items.size hi - sIx items.size 0 lo) == items.size)=true):=by
  intro q
  rw[Ë,Ë] at q
  have q1:((sIx items.size 0 lo:Nat):Int)=0:=eq_of_beq q.1.1
  have q2:sIx items.size items.size hi - sIx items.size 0 lo=items.size:=eq_of_beq q.2
  exact hw ⟨by omega,by omega⟩
 show wpAny _ _ (if (((sIx items.size 0 lo:Nat):Int) == 0&&(1:Int) == 1&&(sIx items.size items.size hi - sIx items.size 0 lo) == items.size)=true then _ else _) _ _ s
 rw[if_neg hno,Ik]
 first
  |exact Å (m:=ś _) (wpAny_newObj_type (Ô ⟨_,rfl,Ô h⟩) htake)
  |exact Å (m:=ś _) (wpAny_newObj_type (Å (Ô (Ô ⟨_,rfl,Ô h⟩))) htake)
  |exact Å (Å (m:=ś _) (wpAny_newObj_type (Ô (Ô ⟨_,rfl,Ô h⟩)) htake))
  |exact Å (Å (m:=ś _) (wpAny_newObj_type (Ô ⟨_,rfl,Ô h⟩) htake))
end
end HT
namespace L2
open PySem PySem.Spec PyProof.Rows
abbrev TO:=St->Hp->(Option Int->Hp->Prop)->Prop
def PO(X:Cx)(e:Option Expr)(t:TO):Prop :=
 ∀(pins:List (Addr×Obj)) (s:Shared) (σ:St) (H:Hp) (Q:Option Int->Hp->Prop),Inv X pins σ H s->t σ H Q ->
  wpAny (model X.prog X.w) X.A (evalPart e X.env) (λu s'=>∃o H',Inv X pins σ H' s'/\IsPart u o/\Q o H') X.xe s
def Lh:TO:=λ_ H Q=>Q none H
def Tr(t:TE):TO:=λσ H Q=>t σ H λx H1=>∃i,x=.int i/\Q (some i) H1
def intsAre_of{ns:List Int}:∀{us:List Value},Vals (ns.map V.int) us->IntsAre us ns:=by
 induction ns with
 |nil=>intro us r;rw[List.map_nil] at r;cases r;exact .nil
 |cons n ns ih =>
  intro us r
  rw[ã] at r
  cases r with
  |cons r1 r2 =>
   obtain⟨t,e⟩:=r1
   subst e
   exact .cons n t (ih r2)
section
variable {X:Cx}{e:Expr}{te:TE}{lo hi:Option Expr}{tl th:TO}{pos p2:Pos}
def Dh:PO X none Lh:=by
 intro pins s σ H Q I h
 rw[evalPart_none]
 exact Ô ⟨none,H,I,.none,h⟩
def Dg(h:PE X e te):PO X (some e) (Tr te):=by
 intro pins s σ H Q I hw
 rw[evalPart_some]
 refine thn (h pins s σ H _ I hw) λu s1 ⟨x,H1,I1,r1,q1⟩=>?_
 obtain⟨i,rfl,q⟩:=q1
 obtain⟨t,rfl⟩:=r1
 exact⟨some i,H1,I1,.int i t,q⟩
def SlR(X:Cx)(r:V->Option Int->Option Int->Hp->VK->Prop):Prop :=
 ∀(pins:List (Addr×Obj)) (s:Shared) (σ:St) (H:Hp) (x:V) (v vl vu:Value) (lo hi:Option Int) (sl:Addr) (Q:VK),Inv X pins σ H s->RelV x v->s.heap.IsSliceOf sl vl vu .none->IsPart vl lo->IsPart vu hi->r x lo hi H Q ->
  ∃T id,typeLookup (.type T) "__getitem__"=pure (some (.builtin id))/\s.TypeIs v T/\wpAny (model X.prog X.w) X.A (getItem v (.ref sl)) (EP X pins σ Q) X.xe s
def SlR.or{r r':V->Option Int->Option Int->Hp->VK->Prop}(h:SlR X r)(h':SlR X r'):SlR X (λx lo hi H Q=>r x lo hi H Q\/r' x lo hi H Q):=by
 intro pins s σ H x v vl vu lo hi sl Q I rx hs pl pu q
 rcases q with q|q
 ·exact h pins s σ H x v vl vu lo hi sl Q I rx hs pl pu q
 ·exact h' pins s σ H x v vl vu lo hi sl Q I rx hs pl pu q
def tSl(r:V->Option Int->Option Int->Hp->VK->Prop)(te:TE)(tl th:TO):TE:=λσ H Q=>te σ H λx H1=>tl σ H1 λl H2=>th σ H2 λu H3=>r x l u H3 Q
def qR{r:V->Option Int->Option Int->Hp->VK->Prop}(hr:SlR X r)(he:PE X e te)(hl:PO X lo tl)(hu:PO X hi th):PE X (.Subscript e (.Slice lo hi none p2) pos) (tSl r te tl th):=by
 intro pins s σ H Q I h
 refine Subscript_ (thn (he pins s σ H _ I h) λv s1 ⟨x,H1,I1,r1,q1⟩=>?_)
 refine wpAny_Slice (thn (hl pins s1 σ H1 _ I1 q1) λvl s2 ⟨l,H2,I2,pl,q2⟩=>thn (hu pins s2 σ H2 _ I2 q2) λvu s3 ⟨u,H3,I3,pu,q3⟩=>?_)
 rw[evalPart_none]
 refine Ô ?_
 have I4:Inv X pins σ H3 { s3 with heap:=s3.heap.push { cls:=.type "slice",data:=.fields #[vl,vu,.none] } }:=I3.kept (t':=s3.toks) λb ob q=>Ï _ q
 obtain⟨T,id,hT,ht,hg⟩:=hr pins { s3 with heap:=s3.heap.push { cls:=.type "slice",data:=.fields #[vl,vu,.none] } } σ H3 x v vl vu l u s3.heap.objs.size Q I4 r1 (Heap.IsSliceOf.new ..) pl pu q3
 show wpAny (model X.prog X.w) X.A (subscriptTail e (.Slice lo hi none p2) v (.ref s3.heap.objs.size)) (EP X pins σ Q) X.xe { s3 with heap:=s3.heap.push { cls:=.type "slice",data:=.fields #[vl,vu,.none] } }
 exact tail_any (ops:=[.ref s3.heap.objs.size,v]) ht hT hg (by with_unfolding_all rfl)
def o8(xs:List V)(lo hi:Option Int):List V:=(xs.drop (HT.sIx xs.length 0 lo)).take (HT.sIx xs.length xs.length hi - HT.sIx xs.length 0 lo)
def pL(xs:List V)(lo hi:Option Int):(o8 xs lo hi).length<=xs.length:=by
 unfold o8
 rw[ă,û]
 omega
def Wo(K:Ú):V->Option Int->Option Int->Hp->VK->Prop:=λx lo hi H Q=>∃a xs,x=.ref a/\SqT K H a xs /\
 ¬(HT.sIx xs.length 0 lo=0/\HT.sIx xs.length xs.length hi=xs.length)/\∀p,H p=none->Q (.ref p) (upd H p (.tup (o8 xs lo hi)))
def Qx:SlR X (Wo X.K):=by
 intro pins s σ H x v vl vu lo hi sl Q I rx hs pl pu h
 obtain⟨a,xs,rfl,hx,hw,q⟩:=h
 cases rx
 obtain⟨its,r,ht,hz⟩:=I.tuple hx
 have hlen:its.toArray.size=xs.length:=by rw[Ñ];exact r.length.symm
 refine⟨"tuple",_,PyProof.Rows.slot_tuple_getitem.lookup,ht.typeIs,?_⟩
 refine HT.nC ht hs pl pu (by rw[hlen];exact hw) ?_ (by rw[hlen];exact hz)
 rw[hlen]
 refine⟨.ref s.heap.objs.size,_,I.laid (t':=s.toks) (o:=.tup (o8 xs lo hi)) (λb ob q=>Ï _ q) (É _) ?_,rfl,q _ (I.hok.fresh (É _))⟩
 exact⟨î (pL xs lo hi) hz,_,(r.drop (HT.sIx xs.length 0 lo)).take (HT.sIx xs.length xs.length hi - HT.sIx xs.length 0 lo),IsTup.new _ _⟩
def Ul(K:Ú):R2:=λx y H Q=>∃a b xs ys,x=.ref a/\y=.ref b/\SqT K H a xs/\SqT K H b ys/\xs≠[]/\xs.length+ys.length<=sizeLine /\
 (ys=[]->Q (.ref a) H)/\(ys≠[]->∀p,H p=none->Q (.ref p) (upd H p (.tup (xs++ys))))
def Vals.v7{xs:List V}{us:List Value}(r:Vals xs us):us=[]↔xs=[]:=by
 cases r with
 |nil=>simp
 |cons _ _=>simp
def Mt:OpR X (binaryOp .Add) (Ul X.K):=by
 intro pins s σ H x y v u Q I rx ry h
 obtain⟨a,b,xs,ys,rfl,rfl,ha,hb,hx,hz,q1,q2⟩:=h
 cases rx
 cases ry
 obtain⟨its,r1,p1,_⟩:=I.tuple ha
 obtain⟨its2,r2,p2,_⟩:=I.tuple hb
 refine HT.Ou p1 p2 (λz=>hx (r1.v7.mp z)) (λz=>⟨.ref a,H,I,rfl,q1 (r2.v7.mp z)⟩) (λz=>?_) (by rw[←r1.length,←r2.length];exact hz)
 refine⟨.ref s.heap.objs.size,_,I.laid (t':=s.toks) (o:=.tup (xs++ys)) (λb ob q=>Ï _ q) (É _) ?_,rfl,q2 (λw=>z (r2.v7.mpr w)) _ (I.hok.fresh (É _))⟩
 exact⟨by rw[Æ];exact hz,_,r1.append r2,IsTup.new _ _⟩
end
def ixN(n:Nat)(i:Int):Option Nat:=if 0<=i then (if i<n then some i.toNat else none) else if -(n:Int)<=i then some (i+n).toNat else none
def atI{α:Type}(xs:List α)(i:Int):Option α:=(ixN xs.length i).bind λj=>xs[j]?
def NK{n:Nat}{i:Int}{j:Nat}(h:ixN n i=some j):seqIndex? i n=some j/\j<n/\-(n:Int)<=i/\i<n:=by
 unfold ixN at h
 by_cases h0:0<=i
 ·rw[if_pos h0] at h
  by_cases h1:i<n
  ·rw[if_pos h1] at h
   have e:i.toNat=j:=ç h
   exact⟨by rw[seqIndex_of h0 h1,e],by omega,by omega,h1⟩
  ·rw[if_neg h1] at h;cases h
 ·rw[if_neg h0] at h
  by_cases h1:-(n:Int)<=i
  ·rw[if_pos h1] at h
   have e:(i+n).toNat=j:=ç h
   exact⟨by rw[seqIndex_neg (by omega) h1,e],by omega,h1,by omega⟩
  ·rw[if_neg h1] at h;cases h
def Et{α:Type}{xs:List α}{i:Int}{v:α}(h:atI xs i=some v):∃j,seqIndex? i xs.length=some j/\xs[j]?=some v/\j<xs.length/\-(xs.length:Int)<=i/\i<xs.length:=by
 unfold atI at h
 cases e:ixN xs.length i with
 |none=>rw[e] at h;cases h
 |some j =>
  rw[e] at h
  obtain⟨h1,h2,h3,h4⟩:=NK e
  exact⟨j,h1,h,h2,h3,h4⟩
def gC{α:Type}{xs:List α}{j:Nat}{v:α}(h:xs[j]?=some v):atI xs (j:Int)=some v:=by
 have hj:j<xs.length:=(Ö.mp h).1
 have e:ixN xs.length (j:Int)=some j:=by
  unfold ixN
  rw[if_pos (by omega),if_pos (by omega)];simp
 unfold atI;rw[e];exact h
def K4{α:Type}(xs:List α)(v:α):atI (xs++[v]) (-1)=some v:=by
 have hl:(xs++[v]).length=xs.length+1:=by simp
 have e:ixN (xs++[v]).length (-1)=some xs.length:=by
  unfold ixN
  rw[hl,if_neg (by decide),if_pos (by omega)]
  congr 1
  omega
 unfold atI
 rw[e]
 show(xs++[v])[xs.length]?=some v
 simp
def nW(b:Expr):Prop:=∀o i,subscripted b false o i=operate [o,i] (getItem o i)
def IxR(X:Cx)(r:R2):Prop :=
 ∀(value slice:Expr) (pins:List (Addr×Obj)) (s:Shared) (σ:St) (H:Hp) (x y:V) (v u:Value) (Q:VK),Inv X pins σ H s->RelV x v->RelV y u->r x y H Q ->
  subscripted slice false v u=operate [v,u] (getItem v u)->wpAny (model X.prog X.w) X.A (subscriptTail value slice v u) (EP X pins σ Q) X.xe s
def MtR(X:Cx)(id:String)(r:V->List V->Hp->VK->Prop):Prop :=
 ∀(pins:List (Addr×Obj)) (s:Shared) (σ:St) (H:Hp) (x:V) (xs:List V) (v:Value) (us:List Value) (Q:VK),Inv X pins σ H s->RelV x v->Vals xs us->r x xs H Q ->
  wpAny (model X.prog X.w) X.A (call (.builtin id) (v::us)) (EP X pins σ Q) X.xe s
section
variable {X:Cx}{a b:Expr}{ta tb:TE}{pos:Pos}
def IxR.or{r r':R2}(h:IxR X r)(h':IxR X r'):IxR X (λx y H Q=>r x y H Q\/r' x y H Q):=by
 intro value slice pins s σ H x y v u Q I rx ry q hs
 rcases q with q|q
 ·exact h value slice pins s σ H x y v u Q I rx ry q hs
 ·exact h' value slice pins s σ H x y v u Q I rx ry q hs
def Dk{r:R2}(hr:IxR X r)(ha:PE X a ta)(hb:PE X b tb)(hs:nW b):PE X (.Subscript a b pos) (tOp r ta tb):=by
 intro pins s σ H Q I h
 exact Subscript_ (S6 ha hb I h λv u s2 x y H2 I2 rx ry q=>hr a b pins s2 σ H2 x y v u Q I2 rx ry q (hs _ _))
def Wt(K:Ú):R2:=λx y H Q=>∃p xs i v,x=.ref p/\y=.int i/\SqL K H p xs/\atI xs i=some v/\Q v H
def Ws(K:Ú):R2:=λx y H Q=>∃p xs i v,x=.ref p/\y=.int i/\SqT K H p xs/\atI xs i=some v/\Q v H
def wH:IxR X (Wt X.K):=by
 intro value slice pins s σ H x y v u Q I rx ry h hs
 obtain⟨p,xs,i,z,rfl,rfl,hq,he,q⟩:=h
 cases rx
 obtain⟨t,rfl⟩:=ry
 obtain⟨its,r,pl,hz⟩:=I.list hq
 obtain⟨j,h1,h2,h3,h4,h5⟩:=Et he
 obtain⟨w,ew,rw'⟩:=r.get h2
 have hl:=r.length
 have hn:=wA
 have fin:EP X pins σ Q w s:=⟨z,H,I,rw',q⟩
 by_cases h0:0<=i
 ·have hj:i.toNat=j:=by
   rw[seqIndex_of h0 h5] at h1
   exact ç h1
  exact item_listR pl.isList h0 (by omega) (by rw[hj];simpa using ew) fin hs
 ·have hj:(i+(its.toArray.size:Int)).toNat=j:=by
   rw[seqIndex_neg (by omega) h4] at h1
   rw[Ñ,←hl]
   exact ç h1
  exact subscriptTail_builtinR (x:=w) pl.isList.typeIs slot_list_getitem.lookup
   (wpAny_getItem_list_neg (Q:=λr s'=>r=w/\EP X pins σ Q r s') pl.isList (by omega) (by rw[Ñ] <;> omega) (by omega) (by rw[hj];simpa using ew) ⟨rfl,fin⟩) hs
def JR:IxR X (Ws X.K):=by
 intro value slice pins s σ H x y v u Q I rx ry h hs
 obtain⟨p,xs,i,z,rfl,rfl,hq,he,q⟩:=h
 cases rx
 obtain⟨t,rfl⟩:=ry
 obtain⟨its,r,pl,hz⟩:=I.tuple hq
 obtain⟨j,h1,h2,h3,h4,h5⟩:=Et he
 obtain⟨w,ew,rw'⟩:=r.get h2
 have hl:=r.length
 have hn:=wA
 have fin:EP X pins σ Q w s:=⟨z,H,I,rw',q⟩
 exact subscriptTail_builtinR (x:=w) pl.typeIs slot_tuple_getitem.lookup
  (getItem_tuple (j:=j) (Q:=λr s'=>r=w/\EP X pins σ Q r s') pl (by omega) (by omega) (by rw[Ñ,←hl];exact h1) (by simpa using ew) ⟨rfl,fin⟩) hs
def u5(lo hi:Option Int)(n:Nat):(sliceBounds lo hi none n).1=((HT.sIx n 0 lo:Nat):Int)/\(sliceBounds lo hi none n).2.1=((HT.sIx n n hi:Nat):Int)/\(sliceBounds lo hi none n).2.2=1:=by
 refine⟨?_,?_,rfl⟩
 ·cases lo with
  |none=>simp[sliceBounds,HT.sIx]
  |some i =>
   simp only[sliceBounds,HT.sIx,Option.getD_none,show(1:Int) > 0 by decide,if_true]
   by_cases h:i<0
   ·simp only[h,if_true] <;> omega
   ·simp only[h,if_false] <;> omega
 ·cases hi with
  |none=>simp[sliceBounds,HT.sIx]
  |some i =>
   simp only[sliceBounds,HT.sIx,Option.getD_none,show(1:Int) > 0 by decide,if_true]
   by_cases h:i<0
   ·simp only[h,if_true] <;> omega
   ·simp only[h,if_false] <;> omega
def sU(its:List Value)(lo hi:Option Int):slicePick its.toArray lo hi none=((its.drop (HT.sIx its.length 0 lo)).take (HT.sIx its.length its.length hi - HT.sIx its.length 0 lo)).toArray:=by
 obtain⟨h1,h2,h3⟩:=u5 lo hi its.toArray.size
 unfold slicePick
 rw[h1,h2,h3]
 simp only[sliceRange_one,pick_run,Ñ] <;> rfl
def Wq(K:Ú):V->Option Int->Option Int->Hp->VK->Prop:=λx lo hi H Q=>∃a xs,x=.ref a/\SqL K H a xs/\∀p,H p=none->Q (.ref p) (upd H p (.lst (o8 xs lo hi)))
def u6:SlR X (Wq X.K):=by
 intro pins s σ H x v vl vu lo hi sl Q I rx hs pl pu h
 obtain⟨a,xs,rfl,hx,q⟩:=h
 cases rx
 obtain⟨its,r,ht,hz⟩:=I.list hx
 have hlen:=r.length
 refine⟨"list",_,slot_list_getitem.lookup,ht.isList.typeIs,?_⟩
 refine wpAny_getItem_list_slice ht.isList hs pl pu .none (by simp) ?_ (by rw[Ñ] <;> omega)
 rw[sU,←hlen]
 refine⟨.ref s.heap.objs.size,_,I.laid (t':=s.toks) (o:=.lst (o8 xs lo hi)) (λb ob q=>Ï _ q) (É _) ?_,rfl,q _ (I.hok.fresh (É _))⟩
 exact⟨î (pL xs lo hi) hz,_,0,(r.drop (HT.sIx xs.length 0 lo)).take (HT.sIx xs.length xs.length hi - HT.sIx xs.length 0 lo),ß _ rfl⟩
def nQ:bJ X (.builtin "len") (λxs H Q=>∃p ys,xs=[.ref p]/\(SqL X.K H p ys\/SqT X.K H p ys)/\Q (.int ys.length) H):=by
 intro pins s σ H xs us Q I r h
 obtain⟨p,ys,rfl,hq,q⟩:=h
 obtain⟨u,rfl,rx⟩:=vals1 r
 cases rx
 have hn:=wA
 rcases hq with hq|hq
 ·obtain⟨its,r',pl,hz⟩:=I.list hq
  have hlen:=r'.length
  exact Calls.call_len_list pl.isList (by simp only[Ñ] <;> omega) ⟨.int ys.length,H,I.tok _,⟨s.toks+1,by rw[Ñ,hlen]⟩,q⟩
 ·obtain⟨its,r',pl,hz⟩:=I.tuple hq
  have hlen:=r'.length
  exact len_tuple pl (by simp only[Ñ] <;> omega) ⟨.int ys.length,H,I.tok _,⟨s.toks+1,by rw[Ñ,hlen]⟩,q⟩
def nP:bJ X (.type "list") (λxs H Q=>∃p ys,xs=[.ref p]/\(SqL X.K H p ys\/SqT X.K H p ys)/\∀l,H l=none->Q (.ref l) (upd H l (.lst ys))):=by
 intro pins s σ H xs us Q I r h
 obtain⟨p,ys,rfl,hq,q⟩:=h
 obtain⟨u,rfl,rx⟩:=vals1 r
 cases rx
 have fin:∀(its:List Value),Vals ys its->ys.length<=sizeLine->∀(h':Heap) (c':Nat),(∀b o',s.heap.get? b=some o'->h'.get? b=some o') ->
   h'.get? s.heap.objs.size=some { cls:=.type "list",dict:=none,data:=.seq its.toArray c',slots:=#[] }->EP X pins σ Q (.ref s.heap.objs.size) { s with heap:=h' }:=λits r' hz h' c' kp e =>
  ⟨.ref s.heap.objs.size,_,I.laid (t':=s.toks) kp (É _) (show aX X.prog X.w _ h' _ (.lst ys) from⟨hz,its,c',r',e⟩),rfl,q _ (I.hok.fresh (É _))⟩
 rcases hq with hq|hq
 ·obtain⟨its,r',pl,hz⟩:=I.list hq
  have hlen:=r'.length
  obtain⟨o,ho,hc,n,hd⟩:=pl.isList
  exact call_list_seq p (.inl rfl) ho hc hd (λh' c' kp e=>fin its r' hz h' c' kp e) (by simp only[Ñ] <;> omega)
 ·obtain⟨its,r',pl,hz⟩:=I.tuple hq
  have hlen:=r'.length
  obtain⟨o,ho,hc,n,hd⟩:=pl
  exact call_list_seq p (.inr rfl) ho hc hd (λh' c' kp e=>fin its r' hz h' c' kp e) (by simp only[Ñ] <;> omega)
def tu:bJ X (.type "tuple") (λxs H Q=>∃p ys,xs=[.ref p]/\((SqL X.K H p ys/\∀l,H l=none->Q (.ref l) (upd H l (.tup ys)))\/(SqT X.K H p ys/\Q (.ref p) H))):=by
 intro pins s σ H xs us Q I r h
 obtain⟨p,ys,rfl,h⟩:=h
 obtain⟨u,rfl,rx⟩:=vals1 r
 cases rx
 rcases h with ⟨hq,q⟩|⟨hq,q⟩
 ·obtain⟨its,r',pl,hz⟩:=I.list hq
  have hlen:=r'.length
  refine call_tuple_list pl.isList (λh' kp=>?_) (by simp only[Ñ] <;> omega)
  have I1:Inv X pins σ H { s with heap:=h' }:=I.kept (t':=s.toks) kp
  have I2:Inv X pins σ (upd H h'.objs.size (.tup ys)) { s with heap:=h'.push { cls:=.type "tuple",data:=.seq its.toArray } } :=
   I1.laid (t':=s.toks) (λb o e=>Ï _ e) (É _) (show aX X.prog X.w _ _ _ (.tup ys) from⟨hz,its,r',IsTup.new _ _⟩)
  exact⟨.ref h'.objs.size,_,I2,rfl,q _ (I1.hok.fresh (É _))⟩
 ·obtain⟨its,r',pl,hz⟩:=I.tuple hq
  exact call_tuple_same pl ⟨.ref p,H,I,rfl,q⟩
def tyV(K:Ú)(T:String)(x:V)(H:Hp):Prop:=match x with
 |.str _=>T="str"
 |.int _=>T="int"
 |.ref p=>(T="list"/\∃xs,SqL K H p xs)\/(T="tuple"/\∃o,K.lookup p=some o/\o.cls=.type "tuple"/\o.dict=none) ∨
   (T="dict"/\((∃kvs,H p=some (.dK kvs))\/∃kvs,H p=some (.dT kvs)))\/(T="set"/\∃S n,H p=some (.set S n))
 |_=>False
def Qh{pins:List (Addr×Obj)}{σ:St}{H:Hp}{s:Shared}{T:String}{x:V}{v:Value}(I:Inv X pins σ H s)(r:RelV x v)(ty:tyV X.K T x H) :
  s.TypeIs v T/\∀a,v=.ref a->∃ob,s.heap.get? a=some ob/\ob.dict=none:=by
 cases x with
 |str z =>
  obtain⟨t,rfl⟩:=r
  cases (show T="str" from ty)
  exact⟨typeIs_str s z t,λ_ e=>nomatch e⟩
 |int i =>
  obtain⟨t,rfl⟩:=r
  cases (show T="int" from ty)
  exact⟨typeIs_int s i t,λ_ e=>nomatch e⟩
 |ref p =>
  cases r
  rcases ty with ⟨rfl,xs,hq⟩|⟨rfl,o,hk,hc,hd⟩|⟨rfl,hk⟩|⟨rfl,S,n,hk⟩
  ·obtain⟨its,_,pl,_⟩:=I.list hq
   refine⟨pl.isList.typeIs,λa e=>?_⟩
   cases e
   obtain⟨o,n,e,c,hd,_⟩:=pl
   exact⟨o,e,hd⟩
  ·refine⟨⟨o,I.kIn p o hk,hc⟩,λa e=>?_⟩
   cases e
   exact⟨o,I.kIn _ o hk,hd⟩
  ·have z:∃o,s.heap.get? p=some o/\o.ExactDict:=by
    rcases hk with ⟨kvs,hk⟩|⟨kvs,hk⟩
    ·obtain⟨_,_,_,_,o,_,_,e,ex,_⟩:=I.hok p _ hk
     exact⟨o,e,ex⟩
    ·obtain⟨_,_,_,_,o,_,_,e,ex,_⟩:=I.hok p _ hk
     exact⟨o,e,ex⟩
   obtain⟨o,e,ex⟩:=z
   refine⟨⟨o,e,ex.1⟩,λa e2=>?_⟩
   cases e2
   exact⟨o,e,ex.2.1⟩
  ·obtain⟨o,_,_,_,e,ex,_⟩:=I.hok p _ hk
   refine⟨⟨o,e,ex.1⟩,λa e2=>?_⟩
   cases e2
   exact⟨o,e,ex.2.1⟩
 |_=>exact Ľ ty
def tBM(K:Ú)(T:String)(r:V->List V->Hp->VK->Prop)(to:TE)(t:TA):TE:=λσ H Q=>to σ H λx H1=>tyV K T x H1/\t σ H1 λxs H2=>r x xs H2 Q
variable {o e:Expr}{es:List Expr}{to:TE}{t:TA}{name:Str}{apos cpos:Pos}{T id:String}{r:V->List V->Hp->VK->Prop}
def iZ(pa:PlainAttrs T)(slot:Slot T name id)(hty:typeOf (.builtin id)=pure (.type "method_descriptor"))(hm:MtR X id r)(ho:PE X o to)(ha:PA X (e::es) t)(hbase:attributeBase o name X.env (eval o X.env)=eval o X.env:=by rfl)(hfew:((backTo cpos (starEach (e::es) X.env)).all (λx=>!x.1)&&(backToKw cpos (keywordEach [] X.env)).all (λx=>x.1.isSome)
  &&decide ((e::es).length+([]:List Keyword).length+(if ([]:List Keyword).isEmpty then 0 else 1)<30))=true:=by rfl)(hline:(apos.endLine == cpos.line)=true:=by rfl)(hs:starEach (e::es) X.env=(false,eval e X.env)::starEach es X.env:=by rfl)(hplain:(backTo cpos (starEach es X.env)).any (·.1)=false:=by rfl) :
  PE X (.Call (.Attribute o name apos) (e::es) [] cpos) (tBM X.K T r to t):=by
 intro pins s σ H Q I h
 refine wpAny_Call_method_late hbase hfew hline rfl (thn (ho pins s σ H _ I h) λv s1 ⟨x,H1,I1,r1,ty,q1⟩=>?_)
 obtain⟨h1,h2⟩:=Qh I1 r1 ty
 refine⟨T,id,pa,slot,hty,h1,h2,?_⟩
 have hA:=ha cpos pins s1 σ H1 _ I1 q1
 rw[hs] at hA ⊢
 refine Calls.callWith_builtin (by show(false || (backTo cpos (starEach es X.env)).any (·.1))=false;rw[hplain] <;> rfl) (Calls.evalArgs_plain ?_)
 exact thn hA λus s2 ⟨vs,H2,I2,r2,q2⟩=>hm pins s2 σ H2 x vs v us Q I2 r1 r2 q2
/- xs.append(e),list.index on a module's tuple .. are MtR facts of 06m -/
end
def MtM(X:Cx)(id:String)(r:V->List V->Hp->VK->Prop):Prop :=
 ∀(pins:List (Addr×Obj)) (s:Shared) (σ:St) (H:Hp) (x:V) (xs:List V) (v:Value) (us:List Value) (Q:VK),Inv X pins σ H s->RelV x v->Vals xs us->r x xs H Q ->
  wpAny (model X.prog X.w) X.A (call (.builtin id) (v::us)) (EP X pins σ Q) X.xe s
def Vals.one:∀{x:V}{us:List Value},Vals [x] us->∃u,us=[u]/\RelV x u
 |_,_,.cons r .nil=>⟨_,rfl,r⟩
def Vals.two:∀{x y:V}{us:List Value},Vals [x,y] us->∃u v,us=[u,v]/\RelV x u/\RelV y v
 |_,_,_,.cons r (.cons q .nil)=>⟨_,_,rfl,r,q⟩
def Vals.eraseIdx:∀{xs:List V}{us:List Value} (i:Nat),Vals xs us->Vals (xs.eraseIdx i) (us.eraseIdx i)
 |_,_,_,.nil=>.nil
 |_,_,0,.cons _ t=>t
 |_,_,i+1,.cons r t=>.cons r (Vals.eraseIdx i t)
def Vals.rep{xs:List V}{us:List Value}(h:Vals xs us):∀k:Nat,Vals (È k xs).flatten (È k us).flatten
 |0=>.nil
 |k+1=>by
  rw[Ğ,Ğ,ļ,ļ]
  exact Vals.append h (Vals.rep h k)
def ug{α:Type}:∀(l:List α) (i:Nat),(l.eraseIdx i).length<=l.length
 |[],_=>É _
 |_::_,0=>ĸ _
 |_::r,i+1=>Nat.succ_le_succ (ug r i)
def foldl_rep(its:List Value):∀(k:Nat) (acc:List Value),
  List.foldl (λx1 x2=>x1++x2) acc.toArray (È k its.toArray)=(acc++(È k its).flatten).toArray
 |0,acc=>by simp
 |k+1,acc=>by
  have e:acc.toArray++its.toArray=(acc++its).toArray:=by simp
  have e2:(acc++its)++(È k its).flatten=acc++(È (k+1) its).flatten:=by
   rw[Ğ,ļ,Ż]
  rw[←e2,←foldl_rep its k (acc++its),←e,Ğ,List.foldl_cons]
section
variable {X:Cx}{pins:List (Addr×Obj)}{σ:St}{H:Hp}{s:Shared}{l b:Addr}{xs ys zs:List V}
def Inv.Nj{its its':List Value}{n:Nat}{f:Array Value->Array Value}{t':Nat}(I:Inv X pins σ H s)(hH:H l=some (.lst xs))(e:s.heap.get? l=some { cls:=.type "list",data:=.seq its.toArray n })(hf:f its.toArray=its'.toArray)(hv:Vals ys its')(hz:ys.length<=sizeLine) :
  Inv X pins σ (upd H l (.lst ys)) { s with heap:=s.heap.update l (à f),toks:=t' }:=by
 have q:=PySem.IsL.update e f
 rw[hf] at q
 refine I.write (x:=l) (e:=l) (by rw[hH];exact trivial) (.inl rfl) (λb' u hb hu=>(Ŀ s.heap (à f) (ġ hb)).trans hu) ⟨_,q⟩ ?_
 exact⟨hz,its',_,hv,q⟩
def Inv.Vc{its:List Value}{t':Nat}(I:Inv X pins σ H s)(hv:Vals ys its)(hz:ys.length<=sizeLine) :
  Inv X pins σ (upd H s.heap.objs.size (.lst ys)) { s with heap:=s.heap.push { cls:=.type "list",data:=.seq its.toArray },toks:=t' } :=
 I.laid (λ_ _ q=>Ï _ q) (É _) ⟨hz,its,0,hv,ß _ rfl⟩
def Inv.fresh(I:Inv X pins σ H s):H s.heap.objs.size=none:=I.hok.fresh (É _)
def Inv.yK(I:Inv X pins σ H s)(hH:H l=some (.lst xs)):xs.length<=sizeLine/\∃(its:List Value) (n:Nat),Vals xs its/\xs.length=its.length/\s.heap.get? l=some { cls:=.type "list",data:=.seq its.toArray n }:=by
 obtain⟨z,its,n,r,e⟩:=I.hok l _ hH
 exact⟨z,its,n,r,r.length,e⟩
def yC{n:Nat}(h:n<=sizeLine):Ŝ n=false:=by
 unfold Ŝ
 exact decide_eq_false (by omega)
end
section
variable {X:Cx}
def vg:V->List V->Hp->VK->Prop:=λx vs H Q=>∃l xs y,x=.ref l/\vs=[y]/\H l=some (.lst xs)/\xs.length<sizeLine/\Q .non (upd H l (.lst (xs++[y])))
def fu:MtM X "list.append" vg:=by
 intro pins s σ H x vs v us Q I rx rv h
 obtain⟨l,xs,y,rfl,rfl,hH,hz,q⟩:=h
 cases rx
 obtain⟨u,rfl,ru⟩:=rv.one
 obtain⟨z,its,n,r,hl,e⟩:=I.yK hH
 refine call_meets F.slot_list_append ⟨_,e,rfl⟩ F.entry_list_append (F.args_list_append_2 _ _) (PySem.list_append l its.toArray n u (by rw[Ñ];omega)) ⟨e,?_⟩
 refine⟨.non,_,I.Nj (its':=its++[u]) hH e (by simp) (r.append (.cons ru .nil)) ?_,rfl,q⟩
 rw[Æ,Ü]
 omega
def Dd:V->List V->Hp->VK->Prop:=λx vs H Q=>∃l b xs zs,x=.ref l/\vs=[.ref b]/\H l=some (.lst xs)/\H b=some (.lst zs)/\xs.length+zs.length<=sizeLine/\Q .non (upd H l (.lst (xs++zs)))
def j6:MtM X "list.extend" Dd:=by
 intro pins s σ H x vs v us Q I rx rv h
 obtain⟨l,b,xs,zs,rfl,rfl,hH,hB,hz,q⟩:=h
 cases rx
 obtain⟨u,rfl,ru⟩:=rv.one
 cases ru
 obtain⟨z,its,n,r,hl,e⟩:=I.yK hH
 obtain⟨z2,its2,n2,r2,hl2,e2⟩:=I.yK hB
 have hsz:its.toArray.size+its2.toArray.size<=sizeLine:=by rw[Ñ,Ñ];omega
 have hlong:¬(!its.toArray.isEmpty&&Ŝ (its.toArray.size+its2.toArray.size))=true:=by
  rw[yC hsz,Bool.and_false]
  exact Ð
 refine call_meets F.slot_list_extend ⟨_,e,rfl⟩ F.entry_list_extend (F.args_list_extend_2 _ _)
  (AutoSeq1.list_extend_list_list_0 l its.toArray n b its2.toArray n2 hlong (by rw[Ñ];omega) (by omega)) ⟨e,e2,?_⟩
 refine⟨.non,_,I.Nj (its':=its++its2) hH e (by simp) (r.append r2) ?_,rfl,q⟩
 rw[Æ]
 omega
def Um:R2:=λx y H Q=>∃l b xs zs,x=.ref l/\y=.ref b/\H l=some (.lst xs)/\H b=some (.lst zs)/\xs.length+zs.length<=sizeLine/\∀p,H p=none->Q (.ref p) (upd H p (.lst (xs++zs)))
def Jg:OpR X (binaryOp .Add) Um:=by
 intro pins s σ H x y v u Q I rx ry h
 obtain⟨l,b,xs,zs,rfl,rfl,hH,hB,hz,q⟩:=h
 cases rx
 cases ry
 obtain⟨z,its,n,r,hl,e⟩:=I.yK hH
 obtain⟨z2,its2,n2,r2,hl2,e2⟩:=I.yK hB
 refine PySem.P.add_list e e2 ?_ (by rw[Ñ,Ñ];omega)
 have ea:its.toArray++its2.toArray=(its++its2).toArray:=by simp
 rw[ea]
 exact⟨.ref _,_,I.Vc (t':=s.toks) (r.append r2) (by rw[Æ];omega),rfl,q _ I.fresh⟩
def Ui:R2:=λx y H Q=>∃l k xs,x=.ref l/\y=.int k/\H l=some (.lst xs)/\-(2 ^ 63)<=k/\k<2 ^ 63/\xs.length * k.toNat<=sizeLine /\
 ∀p,H p=none->Q (.ref p) (upd H p (.lst (È k.toNat xs).flatten))
def len_rep{α:Type}(xs:List α)(k:Nat):(È k xs).flatten.length=k * xs.length:=by
 induction k with
 |zero=>simp
 |succ k ih=>rw[Ğ,ļ,Æ,ih,Nat.succ_mul,Nat.add_comm]
def Rg:OpR X (binaryOp .Mult) Ui:=by
 intro pins s σ H x y v u Q I rx ry h
 obtain⟨l,k,xs,rfl,rfl,hH,h1,h2,hz,q⟩:=h
 cases rx
 obtain⟨t,rfl⟩:=ry
 obtain⟨z,its,n,r,hl,e⟩:=I.yK hH
 have hlen:its.toArray.size * k.toNat<=sizeLine:=by rw[Ñ,←hl];exact hz
 have hcap:¬its.toArray.size * k.toNat > (2 ^ 63 - 1) / 8:=by
  have:(sizeLine:Nat)<=(2 ^ 63 - 1) / 8:=by decide
  omega
 have hfit:¬(!Builtin.List.listFitsIndex k)=true:=by
  rw[fitsIndex_both h1 h2]
  exact Ð
 have hlong:¬Ŝ (its.toArray.size * k.toNat)=true:=by
  rw[yC hlen]
  exact Ð
 have hnew:List.foldl (λx1 x2=>x1++x2) #[] (È (if its.toArray.isEmpty=true then 0 else k.toNat) its.toArray)=(È k.toNat its).flatten.toArray:=by
  have f0:∀m:Nat,List.foldl (λx1 x2=>x1++x2) #[] (È m its.toArray)=(È m its).flatten.toArray:=λm=>by
   have:=foldl_rep its m []
   rw[List.nil_append] at this
   exact this
  rw[f0]
  cases its with
  |nil=>simp
  |cons a r'=>rw[if_neg (by simp)]
 refine wpAny_binaryOp_repeat_ref (T:="list") (U:="int") (by decide) ⟨_,e,rfl⟩ (λs'=>typeIs_int s' k t) noFill_list_mul F.fills_int_mul F.slot_int_rmul repeat_list F.slot_int_index.lookup
  (call_meets F.slot_int_rmul (typeIs_int s k t) F.entry_int_rmul (F.args_int_rmul_2 _ _) (int___rmul___int_list k t l its.toArray n)
   ⟨e,rfl,⟨_,e,rfl⟩,call_meets F.slot_list_mul ⟨_,e,rfl⟩ F.entry_list_mul (F.args_list_mul_2 _ _) (AutoListH.list___mul___list_int_3 l its.toArray n k t hfit hcap hlong) ⟨e,?_⟩⟩)
 rw[hnew]
 exact⟨.ref _,_,I.Vc (t':=s.toks) (r.rep k.toNat) (by rw[len_rep,Nat.mul_comm];exact hz),rfl,q _ I.fresh⟩
end
section
variable {prog:Program}{w:World}{A:Around}{E:Value->Shared->Prop}{s:Shared}
end
section
variable {X:Cx}
end
end L2
namespace Att
open PySem PySem.W PySem.Calls PyProof.Rows
def pR{P:Params}{h:Heap}:∀(ns:List Int) (vs:List Value),WellAll P h vs (ns.map WData.int)->IntsAre vs ns:=by
 intro ns
 induction ns with
 |nil =>
  intro vs w
  rw[List.map_nil] at w
  cases w
  exact .nil
 |cons n ns ih =>
  intro vs w
  rw[ã] at w
  cases w with
  |cons a b =>
   cases a
   exact .cons _ _ (ih _ b)
def Fb{l:OpenLaw}{n:Nat}(hn:l.most=some n){P:Params}{h:Heap}{args:List WData}{vals:List Value}(hpre:l.row.toRowW.claim.pre args=true)(hwl:WellAll P h vals args) :
  ∃a vs ns,vals=[ğ a]/\args=[WData.list (ns.map WData.int)]/\h.get? a=some { cls:=.type "list",data:=.seq vs.toArray }/\IntsAre vs ns/\ns.length<=n:=by
 have hsh:WShape.hasAll [] args [.list .int]=true:=(pre_splitW hpre).1
 have hc:l.pre.holds [] { args:=args }=true:=(pre_splitW hpre).2
 obtain⟨d,r,rfl,h1,h2⟩:=hasAllW_cons hsh
 obtain rfl:=hasAllW_nil h2
 obtain⟨xs,rfl,h3⟩:=hasW_list h1
 obtain⟨ns,rfl⟩:=items_int h3
 have hlen:ns.length<=n:=by
  unfold OpenLaw.pre at hc
  have h4:(WTm.not (.lt (.lit (.int (n:Int))) (.len (.arg 0)))).holds [] { args:=[.list (ns.map .int)] }=true:=by
   have h4:=(holds_andW hc).1
   rw[hn] at h4
   exact h4
  have h5:=condW_of h4 (w_not (w_lt w_lit (w_len_list (w_arg rfl))))
  rw[Á] at h5
  refine Nat.le_of_not_lt λq=>?_
  have q':(n:Int)<((ns.length:Nat):Int):=by omega
  first
   |(rw[decide_eq_true q'] at h5;exact absurd h5 (by decide))
   |(simp at h5;omega)
 cases hwl with
 |cons w1 w2 =>
  cases w2
  cases w1 with
  |list ho hall=>exact⟨_,_,ns,rfl,rfl,ho,pR ns _ hall,hlen⟩
def Fi(l:OpenLaw)(args:List WData):l.row.toRowW.claim.post args (.bool true) args=true :=
 postW_of (r:=l.row.toRowW) (X:=(true == true))
  (show WShape.has [] (.bool true) .bool=true by first|rfl|decide|simp[WShape.has,WShape.arms,WShape.armsAll])
  (show(WTm.eq .res (.lit (.bool true))).value [] { args:=args,res:=some (.bool true),after:=args }=some (.bool (true == true)) from w_eq_bool (w_res rfl) w_lit) rfl
def zM{l:OpenLaw}{n:Nat}{q:Program}{loose:List Str}{XP:(Str->Option Value)->Heap->Prop}{YP:World->Heap->Prop}{d:DefRec}(hn:l.most=some n)(hdf:d.params.defaults=[])(call:∀(w:World) (s₀ s₁:Shared) (mg mb:Str->Option Value) (fa:Addr) (o:Obj) (pm cd doc:Value) (a:Addr) (vs:List Value) (ns:List Int),
   Ground q loose [] XP w s₀ mg mb s₁.heap->YP w s₁.heap ->
   s₁.heap.get? fa=some o->o.data=.func (docDef d.name d.params d.body d.scope pm cd doc)->s₁.heap.CodeRec cd d.name->mg d.name=some (.ref fa) ->
   s₁.heap.get? a=some { cls:=.type "list",data:=.seq vs.toArray }->IntsAre vs ns->ns.length<=n->s₁.gens=#[] ->
   codeAny (model l.prog w) callerA (.call (.ref fa) ⟨[.ref a],[]⟩) (λr s'=>r=.ok (.ret (.bool true))/\OldK s₁.heap s'.heap/\s'.os=s₁.os/\AllBare s'.gens) s₁) :
  WalkO q loose XP YP l.row.toRowW d [] (λf vs=>PySem.call f vs):=by
 intro w s₀ s₁ mg mb G Y fa o pm cd doc dV kV ho hd hcd hD hmg hg args vals as hpre hlay hrd hwl hlo
 obtain rfl:dV=.none:=Dflts.none hD hdf
 obtain rfl:kV=.none:=Dflts.noKw hD
 obtain⟨a,vs,ns,rfl,rfl,hobj,hints,hlen⟩:=Fb hn hpre hwl
 refine enter_call (codeAny_mono (call w s₀ s₁ mg mb fa o pm cd doc a vs ns G Y ho (fd_plain hd) hcd hmg hobj hints hlen hg) λr s' hq=>?_)
 obtain⟨rfl,h2,h3,h4⟩:=hq
 exact⟨.inl ⟨.bool true,.bool true,[],rfl,λ_=>rfl,.bool true,Fi l _,λ_=>⟨List.Pairwise.nil,λ_ hm=>(nomatch hm)⟩⟩,h2,h3,h4⟩
section
variable {prog:Program}{w:World}{A:Around}{E:Value->Shared->Prop}{s:Shared}{K:Frag}
def ledger(h:Heap)(L d:Addr):List (Addr×Obj):=(Û h.objs.size).filterMap λa=>if a=L\/a=d then none else (h.get? a).map λo=>(a,o)
end
end Att
namespace L2
open PySem PySem.Spec PyProof.Rows
def n6:∀{vs:List Value}{ns:List Int},IntsAre vs ns->Vals (ns.map V.int) vs
 |_,_,.nil=>.nil
 |_,_,.cons n t h=>.cons ⟨t,rfl⟩ (n6 h)
def gw(s:Stmt):Arguments:=match s with
 |.FunctionDef _ a _ _ _ _ _ _ _ _=>a
 |_=>{ posonlyargs:=[],args:=[],vararg:=none,kwonlyargs:=[],kw_defaults:=[],kwarg:=none,defaults:=[] }
def cH(s:Stmt):List Stmt:=match s with
 |.FunctionDef _ _ b _ _ _ _ _ _ _=>b
 |_=>[]
def ak(s:Stmt):Scope:=match s with
 |.FunctionDef _ _ _ _ _ _ sc _ _ _=>sc
 |_=>{ kind:=.function,names:=[],isGenerator:=false,isCoroutine:=false }
abbrev CX0:CXT:=λ_ _ _ _ _ _=>False
abbrev E0:XK:=λ_ _ _=>False
def O1{X:Cx}:Passes CX0 X E0:=λ_ _ _ _ _ _ _ h=>h.elim
structure Fun(K:Ú)(x qual:Str)(st:Stmt)(f:Addr)(fd:FuncData):Prop where
 ex:∃(oc:Value) (od:Option Addr) (kV doc pm:Value) (an:Option Addr) (cdv ct:Value) (osl:Array (Option Value)),
  fd=W.fnOf x qual (gw st) (cH st) (ak st) .none kV doc pm an cdv ct/\K.lookup f=some ⟨oc,od,.func fd,osl⟩/\W.codeIn K cdv qual=true
 kp:W.keepIn K (.ref f)=true
section
variable {P:Program}{w:World}{K:Ú}{mg:Str->Option Value}{base:Heap}
def Fun.ok{x qual:Str}{st:Stmt}{f:Addr}{fd:FuncData}{N ps:List Str}{k:Nat}{sp:Sp}(F:Fun K x qual st f fd)(S:FnScope N ps (ak st))(len:∀vs H Q E,sp vs H Q E->vs.length=ps.length)(hbody:∀(cdv:Value) (A:Around) (outer:List Env) (s:Shared) (H:Hp) (vs:List V) (Q:VK) (E:XK),Room k (A.deeper (envOfC qual (ak st) s.heap.objs.size f cdv))->sp vs H Q E ->
   ∃t,PSs (BJ CX0 P w K mg base N qual (ak st) f cdv A outer s H E).nox (cH st) t/\t { nx:=λ_ H'=>Q .non H',rt:=Q } (start N vs) H):FnOk P w K mg base CX0 (k+1) f fd ps sp:=by
 obtain⟨oc,od,kV,doc,pm,an,cdv,ct,osl,rfl,lk,hcd⟩:=F.ex
 refine Pu lk hcd S len λA outer s H vs Q E hr hsp=>?_
 obtain⟨t,h,q⟩:=hbody cdv A outer s H vs Q E hr hsp
 exact⟨t,h.nox,q⟩
def Fun.binds{x qual:Str}{st:Stmt}{f:Addr}{fd:FuncData}{ps:List Str}(F:Fun K x qual st f fd)(h:∀(kV doc pm:Value) (an:Option Addr) (cdv ct:Value) (us:List Value),us.length=ps.length->bindArgs (W.fnOf x qual (gw st) (cH st) (ak st) .none kV doc pm an cdv ct) ⟨us,[]⟩=pure (ps.zip us):=by intro _ _ _ _ _ _ us hl;first|(obtain⟨_,rfl⟩:=Nf.len1 us hl;rfl)|(obtain⟨_,_,rfl⟩:=Nf.len2 us hl;rfl)|(obtain⟨_,_,_,rfl⟩:=Nf.WQ us hl;rfl)):Binds K fd ps []:=by
 obtain⟨oc,od,kV,doc,pm,an,cdv,ct,osl,rfl,lk,hcd⟩:=F.ex
 exact .all (h kV doc pm an cdv ct)
def Bp{x qual:Str}{st:Stmt}{f:Addr}{oc:Value}{od an:Option Addr}{osl:Array (Option Value)}{kV doc pm cdv ct:Value}(l:K.lookup f=some ⟨oc,od,.func (W.fnOf x qual (gw st) (cH st) (ak st) .none kV doc pm an cdv ct),osl⟩)(c:W.codeIn K cdv qual=true)(k:W.keepIn K (.ref f)=true):Fun K x qual st f (W.fnOf x qual (gw st) (cH st) (ak st) .none kV doc pm an cdv ct):=⟨⟨oc,od,kV,doc,pm,an,cdv,ct,osl,rfl,l,c⟩,k⟩
end
section
variable {X:Cx}
def pv(i:Nat){x:Str}{pos:Pos}(hN:X.N[i]?=some x:=by rfl)(hv:Vis X.env.scope x:=by first|exact Ė rfl|exact Or.inr (Ė rfl)|exact Or.inr (Or.inr rfl))(hd:(x == ("__debug__":Str))=false:=by decide)(hcd:(x == ("__classdict__":Str))=false:=by decide):PE X (.Name x pos) (jf i):=QT hN hv hd hcd
end
def bD{A B:Prop}(h:B):if false=true then A else B:=by
 rw[if_neg Ð]
 exact h
def aK{A B:Prop}(h:A):if true=true then A else B:=by
 rw[if_pos rfl]
 exact h
def gZ{c A B:Prop}[Decidable c](h1:c->A)(h2:¬c->B):if c then A else B:=by
 by_cases h:c
 ·rw[if_pos h]
  exact h1 h
 ·rw[if_neg h]
  exact h2 h
def Same(H H':Hp):Prop:=∀b o,H b=some o->H' b=some o
def Same.refl(H:Hp):Same H H:=λ_ _ h=>h
def Same.trans{H H1 H2:Hp}(a:Same H H1)(b:Same H1 H2):Same H H2:=λc o h=>b c o (a c o h)
structure CB where
 cl:List (Str×Addr)
 C:Addr
 s:Shared
 H:Hp
 ex:List Addr
abbrev Cx.bF(X:Cx)(own M:List Str)(scope:Scope)(c:CB):Cx where
 prog:=X.prog
 w:=X.w
 K:=X.K
 mg:=X.mg
 base:=X.base
 A:=X.A
 N:=own++M
 s₀:=c.s
 H₀:=c.H
 env:=compEnvC scope c.cl c.C X.env
 outer:=X.stack
 stack:=X.stack
 ex:=c.ex
 fn:=λx=>scope.names.lookup x == some .cell
 calm:=X.calm
 pn:=[]
 sf:=X.sf
 xe:=λ_ _=>False
abbrev Cx.comp(X:Cx)(own:List Str)(scope:Scope)(c:CB):Cx:=X.bF own X.N scope c
def dF(cells:List (Str×Addr)):List (Str×NameKind)->List (Str×Addr)->List (Str×Addr)
 |[],acc=>acc
 |(n,k)::r,acc=>if k == .free then dF cells r ((n,(cells.lookup n).getD 0)::acc) else dF cells r acc
def iT{env:Env}:∀(names:List (Str×NameKind)) (acc:List (Str×Addr)),(∀x∈names,x.2=.free->∃c,env.cells.lookup x.1=some c) ->
  (forIn names acc λ(p:Str×NameKind) (r:List (Str×Addr))=>match p with
   |(name,kind)=>if (kind == ù)=true then do let a ←cellOf env name;pure (Ę ((name,a)::r)) else pure (Ę r):Sem (List (Str×Addr)))=pure (dF env.cells names acc)
 |[],acc,_=>by simp[dF]
 |(n,k)::r,acc,h=>by
  rw[List.forIn_cons]
  by_cases hk:(k == ù)=true
  ·obtain⟨c,hc⟩:=h (n,k) À (by simpa using hk)
   have e:cellOf env n=pure c:=by unfold cellOf;rw[hc]
   have ih:=iT (env:=env) r ((n,c)::acc) λx hx=>h x (Ä _ hx)
   show((if (k == ù)=true then do let a ←cellOf env n;pure (Ę ((n,a)::acc)) else pure (Ę acc)) >>= _:Sem _)=_
   rw[if_pos hk,e]
   unfold dF
   rw[if_pos hk,hc]
   exact ih
  ·have ih:=iT (env:=env) r acc λx hx=>h x (Ä _ hx)
   show((if (k == ù)=true then do let a ←cellOf env n;pure (Ę ((n,a)::acc)) else pure (Ę acc)) >>= _:Sem _)=_
   rw[if_neg hk]
   unfold dF
   rw[if_neg hk]
   exact ih
def BP{scope:Scope}{env:Env}(h:∀x∈scope.names,x.2=.free->∃c,env.cells.lookup x.1=some c):closureFor scope env=pure (dF env.cells scope.names []):=by
 have e:=iT (env:=env) scope.names [] h
 unfold closureFor
 show(forIn scope.names [] _ >>= λcs=>pure cs:Sem _)=_
 have e2:(forIn scope.names ([]:List (Str×Addr)) λ(p:Str×NameKind) (r:List (Str×Addr))=>match p with
   |(name,kind)=>if (kind == ù)=true then do let a ←cellOf env name;pure (Ę ((name,a)::r)) else pure (Ę r):Sem (List (Str×Addr)))=pure (dF env.cells scope.names []):=e
 rw[e2]
 rfl
def nO{cells:List (Str×Addr)}{x:Str}{c:Addr}:∀{names:List (Str×NameKind)}{acc:List (Str×Addr)},(dF cells names acc).lookup x=some c->acc.lookup x=some c\/((x,ù)∈names/\c=(cells.lookup x).getD 0)
 |[],acc,h=>.inl h
 |(n,k)::r,acc,h=>by
  unfold dF at h
  by_cases hk:(k == ù)=true
  ·rw[if_pos hk] at h
   have hk':k=.free:=by simpa using hk
   rcases nO h with q|⟨q1,q2⟩
   ·rw[ó] at q
    cases hx:x == n with
    |true =>
     rw[hx] at q
     have e:x=n:=by simpa using hx
     subst e hk'
     exact .inr ⟨À,(ç q).symm⟩
    |false=>rw[hx] at q;exact .inl q
   ·exact .inr ⟨Ä _ q1,q2⟩
  ·rw[if_neg hk] at h
   rcases nO h with q|⟨q1,q2⟩
   ·exact .inl q
   ·exact .inr ⟨Ä _ q1,q2⟩
def su{cells:List (Str×Addr)}{x:Str}:∀{names:List (Str×NameKind)}{acc:List (Str×Addr)},(acc.lookup x).isSome=true->((dF cells names acc).lookup x).isSome=true
 |[],_,h=>h
 |(n,k)::r,acc,h=>by
  unfold dF
  split
  ·refine su ?_
   rw[ó]
   cases hx:x == n <;> simp[h]
  ·exact su h
def jT{cells:List (Str×Addr)}{x:Str}:∀{names:List (Str×NameKind)}{acc:List (Str×Addr)},(x,ù)∈names->((dF cells names acc).lookup x).isSome=true
 |(n,k)::r,acc,h=>by
  unfold dF
  rcases Ó.mp h with e|h
  ·cases e
   rw[if_pos (by rfl)]
   exact su (by simp[ó])
  ·split
   ·exact jT h
   ·exact jT h
def gM(env:Env)(scope:Scope)(N:List Str):Bool :=
 (scope.kind == .function)&&scope.names.all λy=>match y.2 with
  |.local=>!(N.contains y.1)&&(scope.names.lookup y.1 == some .local)
  |.cell=>!(N.contains y.1)&&(scope.names.lookup y.1 == some .cell)
  |.free=>(scope.names.lookup y.1 == some .free)&&(env.kindOf y.1 == some .cell || env.kindOf y.1 == some .free)
  |_=>true
def dh{env:Env}:∀{names:List (Str×NameKind)}{x:Str}{q:NameKind},(names.map λ(n,k)=>if (k == ù&&env.scope.kind == .function&&env.kindOf n == some .cell) then (n,ą) else (n,k)).lookup x=some q ->
  ∃k,(x,k)∈names/\names.lookup x=some k/\(q=k\/(q=.cell/\k=.free))
 |[],_,_,h=>by simp at h
 |(n,k)::r,x,q,h=>by
  have ih:=@dh env r x q
  have h':Ű x ((if (k == ù&&env.scope.kind == .function&&env.kindOf n == some .cell)=true then (n,ą) else (n,k))::(r.map λ(n,k)=>if (k == ù&&env.scope.kind == .function&&env.kindOf n == some .cell) then (n,ą) else (n,k)))=some q:=h
  by_cases hc:(k == ù&&env.scope.kind == .function&&env.kindOf n == some .cell)=true
  ·rw[if_pos hc,ó] at h'
   cases hx:x == n with
   |true =>
    rw[hx] at h'
    have e:x=n:=by simpa using hx
    subst e
    have hk:k=.free:=by simp at hc;exact hc.1.1
    exact⟨k,À,by simp[ó],.inr ⟨(ç h').symm,hk⟩⟩
   |false =>
    rw[hx] at h'
    obtain⟨k',h1,h2,h3⟩:=ih h'
    exact⟨k',Ä _ h1,by rw[ó,hx];exact h2,h3⟩
  ·rw[if_neg hc,ó] at h'
   cases hx:x == n with
   |true =>
    rw[hx] at h'
    have e:x=n:=by simpa using hx
    subst e
    exact⟨k,À,by simp[ó],.inl (ç h').symm⟩
   |false =>
    rw[hx] at h'
    obtain⟨k',h1,h2,h3⟩:=ih h'
    exact⟨k',Ä _ h1,by rw[ó,hx];exact h2,h3⟩
def HOk.track{P:Program}{w:World}{H:Hp}{h:Heap}{a:Addr}{o:HO}(x:HOk P w H h)(hn:H a=none)(new:aX P w (upd H a o) h a o):HOk P w (upd H a o) h:=λb u e=>by
 by_cases hb:b=a
 ·subst hb;rw[au] at e;cases e;exact new
 ·rw[aq hb] at e
  exact(x b u e).stay (λc v _ q=>q) (λc q=>by rw[aq (aD q hn)];exact q) λc xs q=>by rw[aq (aD q hn)];exact q
def Gy{prog:Program}{w:World}{A:Around}{s:Shared}{elt target iter:Expr}{ifs:List Expr}{scope:Scope}{pos:Pos}{it acc:Value}{env:Env}{R:Result->Shared->Prop}(I:Nat->Shared->Prop)(turn:∀n s,I n s->wpAny (model prog w) A (pyNext it) (λr s₁=>match r with
   |none=>R (.ok .next) s₁
   |some v=>wpAny (model prog w) A (letOwnedTupleGo target it v) (λ_ s₀=>wpAny (model prog w) A (assign target env v) (λ_ s₂ =>
     wpAny (model prog w) A (forIn ifs true λc r=>if r=true then do let ok ←isTrue c env (eval c env);pure (Ę ok) else pure (Ę r)) (λok s₃ =>
      if ok=true then wpAny (model prog w) A (eval elt env) (λx s₄ =>
       wpAny (model prog w) A (call (.builtin "list.append") [acc,x]) (λ_ s₅=>∃m,m<n/\I m s₅) (λ_ _=>False) s₄) (λ_ _=>False) s₃
      else ∃m,m<n/\I m s₃) (λ_ _=>False) s₂) (λ_ _=>False) s₀) (λ_ _=>False) s₁) (λ_ _=>False) s)(n:Nat)(h:I n s):codeAny (model prog w) A (.compLoop (.ListComp elt [⟨target,iter,ifs,0⟩] scope pos) 0 it acc env) R s:=by
 refine codeAny_loop rfl I (λn s hI=>?_) n h
 show wpAny _ A ((compTurn (.ListComp elt [⟨target,iter,ifs,0⟩] scope pos) 0 it acc env).onRaise (λx=>do noteFrame x env;theTreesLotGoes x)) _ _ s
 refine wpAny_noted ?_
 rw[compTurn_list]
 refine Å (wpAny_standAt (Å (į (turn n s hI) (λr s₁ h₁=>?_) λ_ _ h'=>h'.elim)))
 cases r with
 |none=>exact Ô h₁
 |some v =>
  refine Å (į h₁ (λ_ s₀ h₀'=>?_) λ_ _ h'=>h'.elim)
  refine Å (į h₀' (λ_ s₂ h₂=>Å (į h₂ (λok s₃ h₃=>?_) λ_ _ h'=>h'.elim)) λ_ _ h'=>h'.elim)
  cases ok with
  |false=>exact Ô ⟨rfl,h₃⟩
  |true =>
   exact Å (Å (į h₃ (λx s₄ h₄=>Å (į h₄ (λ_ s₅ h₅=>Ô (Ô ⟨rfl,h₅⟩)) λ_ _ h'=>h'.elim)) λ_ _ h'=>h'.elim))
def PTs(X:Cx)(ifs:List Expr)(t:TT):Prop :=
 ∀(pins:List (Addr×Obj)) (s:Shared) (σ:St) (H:Hp) (Q:Bool->Hp->Prop),Inv X pins σ H s->t σ H Q ->
  wpAny (model X.prog X.w) X.A (forIn ifs true λc r=>if r=true then do let ok ←isTrue c X.env (eval c X.env);pure (Ę ok) else pure (Ę r)) (TP X pins σ Q) X.xe s
def LR{X:Cx}:PTs X [] (λ_ H Q=>Q true H):=λ_ _ _ H _ I h=>wpAny_tests_nil ⟨H,I,h⟩
def LQ{X:Cx}{c:Expr}{t:TT}(hc:PT X c t):PTs X [c] t:=λpins s σ H Q I h=>wpAny_tests_one (hc pins s σ H Q I h)
def V4(J:It)(n:Nat)(g:CB->TG)(tt:CB->TT)(te:CB->TE)(σ:St)(Q:VK)(H:Hp):Prop:=∃W:Nat->Nat->List V->Hp->Prop,(∃m,W 0 m [] H)/\∀(c:CB) i m ys H,W i m ys H ->
 (J.stop i H/\∀p,H p=none->Q (.ref p) (upd H p (.lst ys))) ∨
 (J.go i H/\ys.length<sizeLine/\∃N:List V->Hp->Prop,(∀ys' H',N ys' H'->∃m',m'<m/\W (i+1) m' ys' H')/\∀x H',J.yld i H x H'->g c x (È n none++σ) H' λσ2 H2=>tt c σ2 H2 λb H3 =>
  if b=true then te c σ2 H3 λv H4=>N (ys++[v]) H4 else N ys H3)
def tLC(n:Nat)(wi:TI)(g:CB->TG)(tt:CB->TT)(te:CB->TE):TE:=λσ H Q=>wi σ H λJ H1=>V4 J n g tt te σ Q H1
section
variable {X:Cx}{own:List Str}{scope:Scope}{tg iter elt:Expr}{ifs:List Expr}{pos:Pos}{wi:TI}{g:CB->TG}{tt:CB->TT}{te:CB->TE}
def aZ(env:Env)(scope:Scope)(N M:List Str):Bool :=
 gM env scope M&&((N.length == M.length)&&(N.zip M).all λy=>y.1 == y.2 || ((y.2 == ("":Str))&&scope.names.all λz=>!(z.1 == ("":Str))))
def zu{env:Env}{N:List Str}(h:gM env scope N=true):aZ env scope N N=true:=by
 unfold aZ
 rw[h,Bool.true_and,beq_self_eq_true,Bool.true_and,ü]
 rintro⟨a,b⟩ hy
 obtain⟨i,hi,e⟩:=List.mem_iff_getElem.mp hy
 rw[List.getElem_zip] at e
 cases e
 simp
variable {M:List Str}
def fj(h:aZ X.env scope X.N M=true):scope.kind=.function:=by
 unfold aZ gM at h
 simp only[Ë,beq_iff_eq] at h
 exact h.1.1
def bN(h:aZ X.env scope X.N M=true):∀y∈scope.names,(y.2=.local->y.1∉M/\scope.names.lookup y.1=some .local)/\(y.2=.cell->y.1∉M/\scope.names.lookup y.1=some .cell)/\(y.2=.free->scope.names.lookup y.1=some .free/\(X.env.kindOf y.1=some .cell\/X.env.kindOf y.1=some .free)):=by
 unfold aZ at h
 rw[Ë] at h
 have h:=h.1
 unfold gM at h
 rw[Ë,ü] at h
 intro y hy
 have q:=h.2 y hy
 obtain⟨n,k⟩:=y
 cases k with
 |«local»=>simp at q ⊢;exact q
 |cell=>simp at q ⊢;exact q
 |free=>simp at q ⊢;exact q
 |globalExplicit=>simp
 |globalImplicit=>simp
def bw:∀(names:List (Str×NameKind)) (n:Nat) (acc:List (Str×Addr)),cellsFrom n names acc=cellsFrom n names []++acc
 |[],_,_=>rfl
 |(nm,k)::r,n,acc=>by
  show(if (k == ą)=true then cellsFrom (n+1) r ((nm,n)::acc) else cellsFrom n r acc)=(if (k == ą)=true then cellsFrom (n+1) r [(nm,n)] else cellsFrom n r [])++acc
  split
  ·rw[bw r (n+1) ((nm,n)::acc),bw r (n+1) [(nm,n)],Ż]
   rfl
  ·exact bw r n acc
def fC:∀(names:List (Str×NameKind)) (n:Nat) (x:Str) (c:Addr),(x,c)∈cellsFrom n names []->(x,ą)∈names/\n<=c
 |[],_,_,_,h=>nomatch h
 |(nm,k)::r,n,x,c,h=>by
  have h:(x,c)∈(if (k == ą)=true then cellsFrom (n+1) r [(nm,n)] else cellsFrom n r []):=h
  split at h
  ·rename_i hk
   rw[bw] at h
   rcases ä.mp h with z|z
   ·obtain⟨h1,h2⟩:=fC r (n+1) x c z
    exact⟨Ä _ h1,by omega⟩
   ·have z:(x,c)=(nm,n):=by simpa using z
    cases z
    have hk:k=.cell:=by simpa using hk
    subst hk
    exact⟨À,É _⟩
  ·obtain⟨h1,h2⟩:=fC r n x c h
   exact⟨Ä _ h1,h2⟩
def o9:∀(names:List (Str×NameKind)) (n:Nat) (x y:Str) (c:Addr),(x,c)∈cellsFrom n names []->(y,c)∈cellsFrom n names []->x=y
 |[],_,_,_,_,h,_=>nomatch h
 |(nm,k)::r,n,x,y,c,h,h'=>by
  have h:(x,c)∈(if (k == ą)=true then cellsFrom (n+1) r [(nm,n)] else cellsFrom n r []):=h
  have h':(y,c)∈(if (k == ą)=true then cellsFrom (n+1) r [(nm,n)] else cellsFrom n r []):=h'
  by_cases hk:(k == ą)=true
  ·rw[if_pos hk,bw] at h h'
   rcases ä.mp h with z|z <;> rcases ä.mp h' with z'|z'
   ·exact o9 r (n+1) x y c z z'
   ·have:=(fC r (n+1) x c z).2
    have z':(y,c)=(nm,n):=by simpa using z'
    cases z'
    exact absurd this (Nat.not_succ_le_self _)
   ·have:=(fC r (n+1) y c z').2
    have z:(x,c)=(nm,n):=by simpa using z
    cases z
    exact absurd this (Nat.not_succ_le_self _)
   ·have z:(x,c)=(nm,n):=by simpa using z
    have z':(y,c)=(nm,n):=by simpa using z'
    cases z
    cases z'
    rfl
  ·rw[if_neg hk] at h h'
   exact o9 r n x y c h h'
def jZ:∀(names:List (Str×NameKind)) (h:Heap) (b:Addr) (o:Obj),h.get? b=some o->(pushCells h names).get? b=some o
 |[],_,_,_,e=>e
 |(nm,k)::r,h,b,o,e=>by
  show(if (k == ą)=true then pushCells (h.push { cls:=Ď "cell",data:=Data.cell none }) r else pushCells h r).get? b=some o
  split
  ·exact jZ r _ b o (Ï _ e)
  ·exact jZ r h b o e
def oG:∀(names:List (Str×NameKind)) (h:Heap) (x:Str) (c:Addr),(x,c)∈cellsFrom h.objs.size names []->(pushCells h names).IsCell c none
 |[],_,_,_,e=>nomatch e
 |(nm,k)::r,h,x,c,e=>by
  have e:(x,c)∈(if (k == ą)=true then cellsFrom (h.objs.size+1) r [(nm,h.objs.size)] else cellsFrom h.objs.size r []):=e
  show(if (k == ą)=true then pushCells (h.push { cls:=Ď "cell",data:=Data.cell none }) r else pushCells h r).IsCell c none
  by_cases hk:(k == ą)=true
  ·rw[if_pos hk,bw] at e
   rw[if_pos hk]
   rcases ä.mp e with z|z
   ·exact oG r _ x c (by rw[ł];exact z)
   ·have z:(x,c)=(nm,h.objs.size):=by simpa using z
    cases z
    exact⟨_,jZ r _ _ _ (ß _ rfl),rfl⟩
  ·rw[if_neg hk] at e ⊢
   exact oG r h x c e
def Ax{M:Model}{A:Around}{E:Value->Shared->Prop}{s:Shared}{scope:Scope}{globals:Addr}{closure:List (Str×Addr)}{qual:Str}{func:Option Addr}{code:Value}{around:Option Env}{builtins:Addr}{Q:Env->Shared->Prop}(h:Q (newEnv scope s.heap.objs.size globals (cellsFrom (s.heap.objs.size+1) scope.names closure) qual func code around builtins) { s with heap:=pushCells (s.heap.push { cls:=Ď (if around.isSome=true then "dict" else "frame"),data:=Data.dict #[] }) scope.names }) :
  wpAny M A (newFunctionEnv scope globals closure [] qual func code around builtins) Q E s:=by
 unfold newFunctionEnv
 refine Å (wpAny_alloc ?_)
 refine Å (wpAny_layCells _ (λ_ _ _=>rfl) _ _ _ _ ?_)
 rw[ł]
 exact Å (Ô (Ô h))
def SX{n:Nat}{names:List (Str×NameKind)}{cl:List (Str×Addr)}{x:Str}{c:Addr}(h:(cellsFrom n names cl).lookup x=some c):(x,c)∈cellsFrom n names []\/cl.lookup x=some c:=by
 rw[bw,List.lookup_append] at h
 cases e:(cellsFrom n names []).lookup x with
 |none=>rw[e] at h;exact .inr h
 |some d =>
  rw[e] at h
  cases h
  exact .inl (ĕ e)
def KJ{n:Nat}{names:List (Str×NameKind)}{cl:List (Str×Addr)}{x:Str}(h:∀c,(x,c)∈cellsFrom n names []->False):(cellsFrom n names cl).lookup x=cl.lookup x:=by
 rw[bw,List.lookup_append]
 cases e:(cellsFrom n names []).lookup x with
 |none=>rfl
 |some d=>exact(h d (ĕ e)).elim
def yV(h:aZ X.env scope X.N M=true){n:Nat}{x:Str}(hx:(x,ù)∈scope.names):∀c,(x,c)∈cellsFrom n scope.names []->False:=λc z=>by
 have h1:=((bN h _ hx).2.2 rfl).1
 have h2:=((bN h _ (fC _ _ _ _ z).1).2.1 rfl).2
 rw[h1] at h2
 cases h2
def jQ(h:aZ X.env scope X.N M=true):X.N.length=M.length:=by
 unfold aZ at h
 rw[Ë,Ë] at h
 exact eq_of_beq h.2.1
def uH{i:Nat}{x:Str}{k:NameKind}(h:aZ X.env scope X.N M=true)(hx:M[i]?=some x)(_:x∈M)(hn:(x,k)∈scope.names):X.N[i]?=some x:=by
 have hl:=jQ h
 unfold aZ at h
 rw[Ë,Ë,ü] at h
 have hi:i<M.length:=(Ö.mp hx).1
 have hx':M[i]=x:=(Ö.mp hx).2
 have hi':i<X.N.length:=by omega
 have q:=h.2.2 (X.N[i],M[i]) (by
  refine List.mem_iff_getElem.mpr ⟨i,by rw[List.length_zip];omega,?_⟩
  rw[List.getElem_zip])
 rw[Bool.or_eq_true] at q
 rcases q with q|q
 ·have q:X.N[i]=M[i]:=eq_of_beq q
  rw[Ì hi',q,hx']
 ·rw[Ë,ü] at q
  have e:M[i]=("":Str):=eq_of_beq q.1
  have z:=q.2 (x,k) hn
  rw[←hx',e] at z
  simp at z
def BL{pins:List (Addr×Obj)}{σ:St}{H:Hp}{s:Shared}{fp:List Addr}{h₁:Heap}{tk:Nat}(hk:aZ X.env scope X.N M=true)(I:Inv X pins σ H s)(hf:∀b∈fp,sH X pins H b)(hfo:∀b∈fp,∃o,s.heap.get? b=some o)(hns:h₁.Ns (s.heap.objs.size+1) λ_=>none)(old:∀b o,s.heap.get? b=some o->h₁.get? b=some o)(hD:h₁.get? s.heap.objs.size=some { cls:=.type "list",data:=.seq #[] 0 })(hnc:∀x c,(x,c)∈cellsFrom (s.heap.objs.size+2) scope.names []->h₁.IsCell c none) :
  Inv (X.bF own M scope ⟨cellsFrom (s.heap.objs.size+2) scope.names (dF X.env.cells scope.names []),s.heap.objs.size+1,s,H,fp⟩) [(s.heap.objs.size,{ cls:=.type "list",data:=.seq #[] 0 })] (È own.length none++σ) H { s with heap:=h₁,toks:=tk }:=by
 have hkk:=fj hk
 have hka:=bN hk
 have hhas:∀x,(x,ù)∈scope.names->∃c,X.env.cells.lookup x=some c:=λx hx=>I.ok.has x ((hka _ hx).2.2 rfl).2
 have hcl:∀x c,(dF X.env.cells scope.names []).lookup x=some c->X.env.cells.lookup x=some c/\(x,ù)∈scope.names:=λx c e=>by
  rcases nO e with q|⟨q1,q2⟩
  ·simp at q
  ·obtain⟨c',e'⟩:=hhas x q1
   rw[e'] at q2
   exact⟨by rw[e',q2];rfl,q1⟩
 have hcc:∀x c,(cellsFrom (s.heap.objs.size+2) scope.names (dF X.env.cells scope.names [])).lookup x=some c->(X.env.cells.lookup x=some c/\(x,ù)∈scope.names/\c<s.heap.objs.size)\/((x,c)∈cellsFrom (s.heap.objs.size+2) scope.names []/\(x,ą)∈scope.names/\s.heap.objs.size+2<=c):=λx c e=>by
  rcases SX e with z|z
  ·exact .inr ⟨z,fC _ _ _ _ z⟩
  ·obtain⟨h1,h2⟩:=hcl x c z
   obtain⟨v,o,ho,_⟩:=I.cell x c h1
   exact .inl ⟨h1,h2,Î ho⟩
 have hvis:∀x,(relabel scope X.env).names.lookup x=some .cell\/(relabel scope X.env).names.lookup x=some .free->(x,ù)∈scope.names\/(x,ą)∈scope.names:=λx hx=>by
  have key:∀q,(relabel scope X.env).names.lookup x=some q->q=.cell\/q=.free->(x,ù)∈scope.names\/(x,ą)∈scope.names:=λq hq hq'=>by
   obtain⟨k,h1,h2,h3⟩:=dh (env:=X.env) (names:=scope.names) hq
   rcases h3 with h3|⟨_,h3⟩
   ·subst h3
    rcases hq' with z|z
    ·rw[z] at h1;exact .inr h1
    ·rw[z] at h1;exact .inl h1
   ·rw[h3] at h1;exact .inl h1
  rcases hx with hx|hx
  ·exact key _ hx (.inl rfl)
  ·exact key _ hx (.inr rfl)
 have hlt:∀b o,s.heap.get? b=some o->b<s.heap.objs.size:=λb o e=>Î e
 refine⟨⟨I.ok.mod,hkk,I.ok.glob,I.ok.blt,ĸ _,λx y c h1 h2=>?inj,λx hx=>?_,λx c z e=>?cab,I.ok.hd,I.ok.frames,.inl rfl,λb hb=>⟨?_,λx c e=>?exf⟩,I.bs,
   î I.ok.bsz I.sz,λb o e hb=>?_,λb hb hs=>?_,I.stack,I.Cv,λq hq=>⟨(I.ok.sof q hq).1,I.base.frzs _ _ _ (I.ok.sof q hq).2.1,(I.ok.sof q hq).2.2⟩⟩,rfl,I.bare,Un.kept old,⟨_,hns,λi x v h1 h2 h3=>?_⟩,λx c e=>?_,?_,λx c e=>?frc,λp hp=>?_,I.hok.kept old,?_⟩
 case inj =>
  rcases hcc x c h1 with ⟨a1,_,a3⟩|⟨a1,_,a3⟩ <;> rcases hcc y c h2 with ⟨b1,_,b3⟩|⟨b1,_,b3⟩
  ·exact I.ok.inj x y c a1 b1
  ·exact absurd (æ a3 (î (Nat.le_add_right _ 2) b3)) (Ā _)
  ·exact absurd (æ b3 (î (Nat.le_add_right _ 2) a3)) (Ā _)
  ·exact o9 _ _ _ _ _ a1 b1
 case cab =>
  show s.heap.objs.size<=c
  rcases hcc x c e with ⟨_,a2,_⟩|⟨_,_,a3⟩
  ·have h1:=((hka _ a2).2.2 rfl).1
   have z:(scope.names.lookup x == some ą)=true:=z
   rw[h1] at z
   exact absurd z (by decide)
  ·omega
 case exf =>
  rcases hcc x c e with ⟨a1,_,_⟩|⟨_,_,a3⟩
  ·exact(hf b hb).2.2.2.2.1 x c a1
  ·obtain⟨o,e⟩:=hfo b hb
   have:=hlt b o e
   intro z
   subst z
   exact absurd (æ this (î (Nat.le_add_right _ 2) a3)) (Ā _)
 case frc =>
  rcases hcc x c e with ⟨a1,_,_⟩|⟨_,_,a3⟩
  ·exact I.freeC x c a1
  ·exact I.hok.fresh (by omega)
 ·have hx':(relabel scope X.env).names.lookup x=some .cell\/(relabel scope X.env).names.lookup x=some .free:=hx
  refine ŧ.mp (W.cellsFrom_some _ _ _ ?_)
  rcases hvis x hx' with z|z
  ·exact .inr (jT z)
  ·exact .inl ((hka _ z).2.1 rfl).2
 ·obtain⟨o,e⟩:=hfo b hb
  exact á (Ă (hlt b o e))
 ·have hb':b∈fp:=hb
  rcases(hf b hb').2.2.2.1 with z|z
  ·exact I.ok.noex b o e z
  ·exact absurd (æ (Î (I.ok.bs b o e).1) z) (Ā _)
 ·have hb':b∈fp:=hb
  rcases Ó.mp (I.uU b hs) with z|z
  ·exact(hf b hb').2.1 z
  ·exact(hf b hb').2.2.1 z
 ·have hi:own.length<=i:=by
   by_cases hi:i<own.length
   ·rw[ñ (by simpa using hi),Ļ] at h2
    split at h2 <;> cases h2
   ·omega
  have h1':M[i - own.length]?=some x:=by
   have q:(own++M)[i]?=some x:=h1
   rwa [ê hi] at q
  have h2':σ[i - own.length]?=some (some v):=by
   rw[ê (by simpa using hi)] at h2
   simpa using h2
  have h3':Vis (relabel scope X.env) x:=h3
  have hfr:(x,ù)∈scope.names:=by
   rcases h3' with z|z
   ·obtain⟨k,q1,q2,q3⟩:=dh (env:=X.env) (names:=scope.names) z
    rcases q3 with q3|⟨q3,_⟩
    ·subst q3
     exact absurd (Ò h1') ((hka _ q1).1 rfl).1
    ·cases q3
   ·rcases hvis x z with y|y
    ·exact y
    ·exact absurd (Ò h1') ((hka _ y).2.1 rfl).1
  have hkx:=((hka _ hfr).2.2 rfl).2
  obtain⟨m,hm,hl⟩:=I.loc
  obtain⟨u,ru,lu⟩:=hl _ x v (uH hk h1' (Ò h1') hfr) h2' (by rcases hkx with z|z;exact .inr (.inl z);exact .inr (.inr z))
  refine⟨u,ru,.inr ⟨?_,?_⟩⟩
  ·rcases h3' with z|z|z
   ·obtain⟨k,q1,q2,q3⟩:=dh (env:=X.env) (names:=scope.names) z
    rcases q3 with q3|⟨q3,_⟩
    ·subst q3
     exact absurd (Ò h1') ((hka _ q1).1 rfl).1
    ·cases q3
   ·exact .inl z
   ·exact .inr z
  ·rcases lu with ⟨z,_⟩|⟨_,c,e,ic⟩
   ·rcases hkx with q|q
    ·rw[q] at z;cases z
    ·rw[q] at z;cases z
   ·obtain⟨c',e'⟩:=ŧ.mp (jT (cells:=X.env.cells) (acc:=[]) hfr)
    have e2:=(hcl x c' e').1
    rw[e] at e2
    cases e2
    obtain⟨o,ho,hd⟩:=ic
    exact⟨c,(KJ (yV hk hfr)).trans e',o,old _ _ ho,hd⟩
 ·rcases hcc x c e with ⟨z,_,_⟩|⟨z,_,_⟩
  ·obtain⟨v,o,ho,hd⟩:=I.cell x c z
   exact⟨v,o,old _ _ ho,hd⟩
  ·exact⟨none,hnc x c z⟩
 ·exact I.hok.fresh (ĸ _)
 ·have hp':p=(s.heap.objs.size,{ cls:=.type "list",data:=.seq #[] 0 }):=by simpa using hp
  subst hp'
  refine⟨hD,I.hok.fresh (É _),á (Ŗ _),λz=>?_,λv z=>nomatch z⟩
  obtain⟨_,o,ho,_⟩:=I.stack.mem z
  exact absurd (Î ho) (Ā _)
 ·show(È own.length none++σ).length=(own++M).length
  rw[Æ,Æ,Ģ,I.len,jQ hk]
def BK{pins pn:List (Addr×Obj)}{σ σ':St}{H H':Hp}{s s':Shared}{fp:List Addr}{cl:List (Str×Addr)}{ys:List V}{us:List Value}{n:Nat}(I:Inv X pins σ H s)(hf:∀b∈fp,sH X pins H b)(J:Inv (X.bF own M scope ⟨cl,s.heap.objs.size+1,s,H,fp⟩) pn σ' H' s')(hp:(s.heap.objs.size,({ cls:=.type "list",data:=.seq us.toArray n }:Obj))∈pn)(hv:Vals ys us)(hz:ys.length<=sizeLine) :
  Inv X pins σ (upd H' s.heap.objs.size (.lst ys)) s'/\H' s.heap.objs.size=none:=by
 obtain⟨hD,hDn,_⟩:=J.pin _ (â _ hp)
 refine⟨I.call' J.os ⟨λb o e n hb hx=>J.base.keep b o e n hb hx,λb o e n hb hx=>J.base.slot b o e n hb hx,λb o e n hx=>?_,λb o e hx=>J.base.there b o e hx,λb xs e=>?_,λb o u e=>?_,λb ps e=>?_⟩ ?_ J.bare ?_,hDn⟩
 ·rw[aq (á (Î e))]
  exact J.base.free b o e n hx
 ·have q:=J.base.tups b xs e
  rw[aq (aD q hDn)]
  exact q
 ·have q:=J.base.frzs b o u e
  rw[aq (aD q hDn)]
  exact q
 ·obtain⟨more,q⟩:=J.base.tbls b ps e
  exact⟨more,by rw[aq (aD q hDn)];exact q⟩
 ·exact J.hok.track hDn ⟨hz,us,n,hv,hD⟩
 ·intro b hb
  exact⟨(hf b hb).2.2.2.1,(hf b hb).2.1,(hf b hb).2.2.2.2.1,(hf b hb).2.2.2.2.2⟩
def rZ{pins pn:List (Addr×Obj)}{σ σ':St}{H H':Hp}{s s':Shared}{fp:List Addr}{cl:List (Str×Addr)}(hk:aZ X.env scope X.N M=true)(I:Inv X pins σ H s)(hf:∀b∈fp,sH X pins H b)(hcl:∀x,(x,ù)∈scope.names->∃c,cl.lookup x=some c/\X.env.cells.lookup x=some c)(J:Inv (X.bF own M scope ⟨cl,s.heap.objs.size+1,s,H,fp⟩) pn σ' H' s'):Inv (X.bF own M scope ⟨cl,s.heap.objs.size+1,s,H,fp⟩) pn (È own.length none++σ) H' s':=by
 have hka:=bN hk
 refine⟨J.ok,J.os,J.bare,J.base,?_,J.cell,J.free,J.freeC,J.pin,J.hok,?_⟩
 ·obtain⟨mC,hmC,_⟩:=J.loc
  refine⟨mC,hmC,λi x v h1 h2 h3=>?_⟩
  have hi:own.length<=i:=by
   by_cases hi:i<own.length
   ·rw[ñ (by simpa using hi),Ļ] at h2
    split at h2 <;> cases h2
   ·omega
  have h1':M[i - own.length]?=some x:=by
   have q:(own++M)[i]?=some x:=h1
   rwa [ê hi] at q
  have h2':σ[i - own.length]?=some (some v):=by
   rw[ê (by simpa using hi)] at h2
   simpa using h2
  have h3':Vis (relabel scope X.env) x:=h3
  have nloc:¬(relabel scope X.env).names.lookup x=some .local:=λz=>by
   obtain⟨k,q1,q2,q3⟩:=dh (env:=X.env) (names:=scope.names) z
   rcases q3 with q3|⟨q3,_⟩
   ·subst q3
    exact absurd (Ò h1') ((hka _ q1).1 rfl).1
   ·cases q3
  have hkk:(relabel scope X.env).names.lookup x=some .cell\/(relabel scope X.env).names.lookup x=some .free:=by
   rcases h3' with z|z
   ·exact absurd z nloc
   ·exact z
  have hfr:(x,ù)∈scope.names:=by
   have key:∀q,(relabel scope X.env).names.lookup x=some q->q=.cell\/q=.free->(x,ù)∈scope.names:=λq hq hq'=>by
    obtain⟨k,h1,h2,h3⟩:=dh (env:=X.env) (names:=scope.names) hq
    rcases h3 with h3|⟨_,h3⟩
    ·subst h3
     rcases hq' with z|z
     ·rw[z] at h1;exact absurd (Ò h1') ((hka _ h1).2.1 rfl).1
     ·rw[z] at h1;exact h1
    ·rw[h3] at h1;exact h1
   rcases hkk with hx|hx
   ·exact key _ hx (.inl rfl)
   ·exact key _ hx (.inr rfl)
  have hkx:=((hka _ hfr).2.2 rfl).2
  obtain⟨m,hm,hl⟩:=I.loc
  obtain⟨u,ru,lu⟩:=hl _ x v (uH hk h1' (Ò h1') hfr) h2' (by rcases hkx with z|z;exact .inr (.inl z);exact .inr (.inr z))
  refine⟨u,ru,.inr ⟨hkk,?_⟩⟩
  rcases lu with ⟨z,_⟩|⟨_,c,e,ic⟩
  ·rcases hkx with q|q
   ·rw[q] at z;cases z
   ·rw[q] at z;cases z
  ·obtain⟨c',e',e2⟩:=hcl x hfr
   rw[e] at e2
   cases e2
   obtain⟨o,ho,hd⟩:=ic
   obtain⟨sl,q⟩:=J.base.any ho (I.freeC x c e) λz=>(hf c z).2.2.2.2.1 x c e rfl
   exact⟨c,e',_,q,hd⟩
 ·show(È own.length none++σ).length=(own++M).length
  rw[Æ,Æ,Ģ,I.len,jQ hk]
def uE{pins:List (Addr×Obj)}{σ:St}{H:Hp}{s:Shared}{it:Addr}{fp:List Addr}{tn:Nat->Heap->Prop}{J:It}{W:Nat->Nat->List V->Hp->Prop}{E:Value->Shared->Prop}{RR:Value->Addr->Result->Shared->Prop}{Cm:Cx->Prop}(hc:∀c,Cm (X.bF own M scope c))(hk:aZ X.env scope X.N M=true)(hg:∀c,PG (X.bF own M scope c) tg (g c))(ht:∀c,PTs (X.bF own M scope c) ifs (tt c))(he:∀c,PE (X.bF own M scope c) elt (te c))(I:Inv X pins σ H s)(T:TurnG Cm X.prog X.w X.K tg J fp it tn)(st:tn 0 s.heap)(hf:∀b∈fp,sH X pins H b){m0:Nat}(w0:W 0 m0 [] H){D:List V->Hp->Prop}(turn:∀(c:CB) i m ys H,W i m ys H->(J.stop i H/\D ys H) ∨
   (J.go i H/\ys.length<sizeLine/\∃N:List V->Hp->Prop,(∀ys' H',N ys' H'->∃m',m'<m/\W (i+1) m' ys' H')/\∀x H',J.yld i H x H'->g c x (È own.length none++σ) H' λσ2 H2=>tt c σ2 H2 λb H3 =>
    if b=true then te c σ2 H3 λv H4=>N (ys++[v]) H4 else N ys H3))(fin:∀s' m' ys H',(s'.heap.Ns (s.heap.objs.size+1) m')->H' (s.heap.objs.size+1)=none->H' s.heap.objs.size=none->Inv X pins σ (upd H' s.heap.objs.size (.lst ys)) s'->D ys H'->RR (.ref s.heap.objs.size) (s.heap.objs.size+1) (.ok .next) s') :
  wpAny (model X.prog X.w) X.A (newList []) (λacc s₃=>wpAny (model X.prog X.w) X.A (newFunctionEnv scope X.env.globals (dF X.env.cells scope.names []) [] X.env.qual none .none (some X.env)) (λcenv s₄ =>
   codeAny (model X.prog X.w) X.A (.compStart (.ListComp elt [⟨tg,iter,ifs,0⟩] scope pos) 0 (.ref it) acc { cenv with scope:=relabel scope X.env }) (RR acc cenv.locals) s₄) E s₃) E s:=by
 have hkk:=fj hk
 have hka:=bN hk
 refine wpAny_newObj_type (Ax ?_)
 dsimp only
 have hC:(s.heap.push { cls:=.type "list",dict:=none,data:=.seq ([]:List Value).toArray }).objs.size=s.heap.objs.size+1:=ł ..
 rw[hC]
 generalize hH2:s.heap.push { cls:=.type "list",dict:=none,data:=.seq ([]:List Value).toArray }=H2 at hC ⊢
 generalize hH3:H2.push { cls:=Ď (if (some X.env:Option Env).isSome=true then "dict" else "frame"),data:=Data.dict #[] }=H3
 generalize hh1:pushCells H3 scope.names=h₁
 have hC3:H3.objs.size=s.heap.objs.size+2:=by rw[←hH3,ł,hC]
 have old3:∀b o,H3.get? b=some o->h₁.get? b=some o:=λb o e=>hh1 ▸ jZ _ _ _ _ e
 have old2:∀b o,H2.get? b=some o->h₁.get? b=some o:=λb o e=>old3 b o (hH3 ▸ Ï _ e)
 have old:∀b o,s.heap.get? b=some o->h₁.get? b=some o:=λb o e=>old2 b o (hH2 ▸ Ï _ e)
 have hacc:h₁.get? s.heap.objs.size=some { cls:=.type "list",data:=.seq #[] 0 }:=old2 _ _ (hH2 ▸ ß _ rfl)
 have hns:h₁.Ns (s.heap.objs.size+1) λ_=>none:=by
  have z:=Heap.Ns.new H2 (Ď (if (some X.env:Option Env).isSome=true then "dict" else "frame"))
  rw[hC,hH3] at z
  exact z.keeps old3
 have hnc:∀x c,(x,c)∈cellsFrom (s.heap.objs.size+2) scope.names []->h₁.IsCell c none:=λx c e=>by
  rw[←hC3] at e
  exact hh1 ▸ oG _ _ _ _ e
 have hfo:∀b∈fp,∃o,s.heap.get? b=some o:=λb hb=>let ⟨o,e,_⟩:=T.obj 0 _ st b hb;⟨o,e⟩
 have st₁:tn 0 h₁:=T.keep 0 _ _ st λb _ o e=>old b o e
 have I₁:=BL (own:=own) (tk:=s.toks) hk I hf hfo hns old hacc hnc
 have loop:∀s₃:Shared,s₃={ s with heap:=h₁,toks:=s.toks } ->
   codeAny (model X.prog X.w) X.A (.compLoop (.ListComp elt [⟨tg,iter,ifs,0⟩] scope pos) 0 (.ref it) (.ref s.heap.objs.size) (compEnvC scope (cellsFrom (s.heap.objs.size+2) scope.names (dF X.env.cells scope.names [])) (s.heap.objs.size+1) X.env))
    (RR (.ref s.heap.objs.size) (s.heap.objs.size+1)) s₃:=by
  rintro s₃ rfl
  have neD:∀b∈fp,b≠s.heap.objs.size:=λb hb=>by
   obtain⟨o,e⟩:=hfo b hb
   exact á (Î e)
  have stat:∀{H':Hp}{o:Obj},(∀b∈fp,H' b=none)->∀b∈fp,sH (X.bF own M scope ⟨cellsFrom (s.heap.objs.size+2) scope.names (dF X.env.cells scope.names []),s.heap.objs.size+1,s,H,fp⟩) [(s.heap.objs.size,o)] H' b:=λ{H' o} hn b hb =>
   ⟨hn b hb,(I₁.ok.exf b hb).1,I₁.ok.exfs b hb,.inl hb,(I₁.ok.exf b hb).2,λp hp=>by
    have hp':p=(s.heap.objs.size,o):=by simpa using hp
    subst hp'
    exact ġ (neD b hb)⟩
  refine Gy (λk s'=>∃i ys us n H',Inv (X.bF own M scope ⟨cellsFrom (s.heap.objs.size+2) scope.names (dF X.env.cells scope.names []),s.heap.objs.size+1,s,H,fp⟩) [(s.heap.objs.size,{ cls:=.type "list",data:=.seq (us:List Value).toArray n })] (È own.length none++σ) H' s' /\
    Vals ys us/\ys.length<=sizeLine/\tn i s'.heap/\(∀b∈fp,H' b=none)/\W i k ys H') ?_ m0 ⟨0,[],[],0,H,I₁,.nil,ô _,st₁,λb hb=>(hf b hb).1,w0⟩
  rintro k s3 ⟨i,ys,us,n,H3,I3,hv,hz,st3,fr3,w3⟩
  rcases turn ⟨cellsFrom (s.heap.objs.size+2) scope.names (dF X.env.cells scope.names []),s.heap.objs.size+1,s,H,fp⟩ i k ys H3 w3 with ⟨stop,d⟩|⟨go,hlt,N,hN,step⟩
  ·refine thn (T.done (X.bF own M scope ⟨cellsFrom (s.heap.objs.size+2) scope.names (dF X.env.cells scope.names []),s.heap.objs.size+1,s,H,fp⟩) rfl rfl rfl (hc _) i _ s3 _ H3 _ I3 (stat fr3) st3 stop) λr s4 ⟨hr,I4⟩=>?_
   subst hr
   obtain⟨m',hm',_⟩:=I4.loc
   obtain⟨J4,hDn⟩:=BK I hf I4 (ï.mpr rfl) hv hz
   exact fin s4 m' ys H3 hm' I4.free hDn J4 d
  ·refine thn (T.item (X.bF own M scope ⟨cellsFrom (s.heap.objs.size+2) scope.names (dF X.env.cells scope.names []),s.heap.objs.size+1,s,H,fp⟩) rfl rfl rfl (hc _) i _ s3 _ H3 _ I3 (stat fr3) st3 go) λr s4 ⟨u,hr,h4⟩=>?_
   subst hr
   refine thn h4 λ_ s5 ⟨x,H5,I5,r5,y5,st5,fr5⟩=>?_
   have I5':=I5.pinned (stat fr5) (T.obj _ _ st5)
   refine thn (hg _ _ s5 _ H5 x u _ I5' r5 (step x H5 y5)) λ_ s6 ⟨σ6,H6,I6,q6⟩=>?_
   refine thn (ht _ _ s6 σ6 H6 _ I6 q6) λb s7 ⟨H7,I7,q7⟩=>?_
   -- the turn's end: the iterator's records stand,the names are forgotten
   have clH:∀x,(x,ù)∈scope.names->∃c,(cellsFrom (s.heap.objs.size+2) scope.names (dF X.env.cells scope.names [])).lookup x=some c/\X.env.cells.lookup x=some c:=λx hx=>by
    obtain⟨c,e⟩:=I.ok.has x ((hka _ hx).2.2 rfl).2
    obtain⟨c',e'⟩:=ŧ.mp (jT (cells:=X.env.cells) (acc:=[]) hx)
    rcases nO e' with q|⟨_,q⟩
    ·simp at q
    ·rw[e] at q
     exact⟨c',(KJ (yV hk hx)).trans e',by rw[e,q];rfl⟩
   have keepT:∀{H':Hp}{σ':St}{s':Shared}{pn:List (Addr×Obj)},(∀p∈ju fp s5.heap,p∈pn)->Inv (X.bF own M scope ⟨cellsFrom (s.heap.objs.size+2) scope.names (dF X.env.cells scope.names []),s.heap.objs.size+1,s,H,fp⟩) pn σ' H' s'->tn (i+1) s'.heap/\∀b∈fp,H' b=none:=λ{H' σ' s' pn} hs I' =>
    ⟨T.keep _ _ _ st5 λb hb o e=>(I'.pin (b,o) (â _ (hs _ (iQ hb e)))).1,λb hb=>by
     obtain⟨o,e,_⟩:=T.obj _ _ st5 b hb
     exact(I'.pin (b,o) (â _ (hs _ (iQ hb e)))).2.1⟩
   cases b with
   |false =>
    rw[if_neg Ð]
    rw[if_neg Ð] at q7
    obtain⟨m',hm',w7⟩:=hN _ _ q7
    obtain⟨t7,f7⟩:=keepT (λp hp=>â _ hp) I7
    exact⟨m',hm',i+1,ys,us,n,H7,rZ hk I hf clH I7.lZ,hv,hz,t7,f7,w7⟩
   |true =>
    rw[if_pos rfl]
    rw[if_pos rfl] at q7
    refine thn (he _ _ s7 σ6 H7 _ I7 q7) λu8 s8 ⟨v8,H8,I8,r8,q8⟩=>?_
    obtain⟨m',hm',w8⟩:=hN _ _ q8
    obtain⟨t8,f8⟩:=keepT (λp hp=>â _ hp) I8
    obtain⟨hD8,nD8,lD8,fD8,_⟩:=I8.pin (s.heap.objs.size,{ cls:=.type "list",data:=.seq us.toArray n }) (â _ (Ě _ (ï.mpr rfl)))
    refine append_at (hsz:=by rw[Ñ,←hv.length];exact Nat.le_of_lt hlt) hD8 λh9 hs9 hD9=>?_
    have J8:Inv (X.bF own M scope ⟨cellsFrom (s.heap.objs.size+2) scope.names (dF X.env.cells scope.names []),s.heap.objs.size+1,s,H,fp⟩) (ju fp s5.heap) σ6 H8 s8:=I8.qd λp hp=>I8.pin p (â _ (â _ hp))
    have J9:Inv (X.bF own M scope ⟨cellsFrom (s.heap.objs.size+2) scope.names (dF X.env.cells scope.names []),s.heap.objs.size+1,s,H,fp⟩) (ju fp s5.heap) σ6 H8 { s8 with heap:=h9 }:=J8.turned (t':=s8.toks) (it:=s.heap.objs.size) (λb o hb e=>(hs9.2 b hb).trans e) nD8 lD8 (.inr (É _))
     (λx c e z=>by
      obtain⟨v,o,ho,hd⟩:=J8.cell x c e
      rw[z,hD8] at ho
      cases ho
      cases hd)
     (λp hp=>by
      have hp':p∈ju fp s5.heap:=by simpa using hp
      exact neD _ (tZ hp').1)
    obtain⟨t9,f9⟩:=keepT (λp hp=>hp) J9
    have e9:h9.get? s.heap.objs.size=some { cls:=.type "list",data:=.seq (us++[u8]).toArray (n+1) }:=by
     rw[hD9,List.push_toArray]
    have J9':Inv (X.bF own M scope ⟨cellsFrom (s.heap.objs.size+2) scope.names (dF X.env.cells scope.names []),s.heap.objs.size+1,s,H,fp⟩) [(s.heap.objs.size,{ cls:=.type "list",data:=.seq (us++[u8]).toArray (n+1) })] σ6 H8 { s8 with heap:=h9 }:=J9.qd λp hp=>by
     have hp':p=(s.heap.objs.size,{ cls:=.type "list",data:=.seq (us++[u8]).toArray (n+1) }):=by simpa using hp
     subst hp'
     exact⟨e9,nD8,lD8,fD8,λv z=>nomatch z⟩
    exact⟨m',hm',i+1,ys++[v8],us++[u8],n+1,H8,rZ hk I hf clH J9',hv.append (.cons r8 .nil),by rw[Æ,Ü];exact hlt,t9,f9,w8⟩
 exact codeAny_compStart_list (loop _ rfl) (T.self _ 0 _ _ _ st₁ (loop _ rfl))
def uG{pins:List (Addr×Obj)}{σ:St}{H:Hp}{s:Shared}(hk:aZ X.env scope X.N M=true)(I:Inv X pins σ H s):closureFor scope X.env=pure (dF X.env.cells scope.names []) :=
 BP λx hx hf=>I.ok.has x.1 ((bN hk x hx).2.2 hf).2
def uF{pins:List (Addr×Obj)}{σ:St}{H:Hp}{s s':Shared}{C:Addr}{h':Heap}{m:Str->Option Value}(I:Inv X pins σ H s')(hs:X.s₀.heap.objs.size<=C)(hC:C≠X.env.locals)(hcl:∀x c,X.env.cells.lookup x=some c->c≠C)(hp:∀p∈X.pn++pins,p.1≠C)(hn:H C=none)(hb:Heap.SameBut C s'.heap h'):Inv X pins σ H { s' with heap:=h' }:=I.turned (t':=s'.toks) (λb o hb' e=>(hb.2 b hb').trans e) hn hC (.inr hs) hcl hp
def Im(own M:List Str)(hc:X.calm=true)(hi:PI X tg iter wi)(hg:∀c,PG (X.bF own M scope c) tg (g c))(ht:∀c,PTs (X.bF own M scope c) ifs (tt c))(he:∀c,PE (X.bF own M scope c) elt (te c))(hk:aZ X.env scope X.N M=true:=by rfl)(hs:∀x,foldedSetIterable iter X.env x=pure x:=by intro _;rfl) :
  PE X (.ListComp elt [⟨tg,iter,ifs,0⟩] scope pos) (tLC own.length wi g tt te):=by
 intro pins s σ H Q I h
 rw[eval_ListComp]
 have hka:=bN hk
 refine wpAny_comprehension_free (use:=none) rfl hs (uG hk I) (fj hk) (λx hx hl=>((hka x hx).1 hl).2) (thn (hi pins s σ H _ I h) λv s1 h1=>thn h1 λitv s2 h2=>?_)
 obtain⟨it,fp,tn,J,H2,e,I2,T,st2,f2,W,⟨m0,w0⟩,turn⟩:=h2
 subst e
 refine uE (RR:=λacc C=>compPost (model X.prog X.w) X.A X.xe none (EP X pins σ Q) acc C) (D:=λys H=>∀p,H p=none->Q (.ref p) (upd H p (.lst ys))) (λ_=>hc) hk hg ht he I2 T st2 f2 w0 turn ?_
 intro s' m' ys H' hns hCn hDn J' d
 have lt2:∀{b:Addr}{o:Obj},s2.heap.get? b=some o->b≠s2.heap.objs.size+1:=λe=>á (Ă (Î e))
 refine⟨m',hns,λh' hb=>⟨.ref s2.heap.objs.size,_,uF (m:=m') (s:=s2) J' (î I2.sz (ĸ _)) (ġ (á (Ă I2.lt))) (λx c e=>?_) (λp hp=>?_) ?_ hb,rfl,d _ hDn⟩⟩
 ·obtain⟨v,o,ho,_⟩:=I2.cell x c e
  exact lt2 ho
 ·exact lt2 (I2.pin p hp).1
 ·rw[aq (ž (Ŗ _))]
  exact hCn
def Ma{Cm:Cx->Prop}(own M:List Str){i:Nat}{y:Str}{py spos:Pos}(hc:∀c,Cm (X.bF own M scope c))(hN:X.N.Nodup)(hiN:X.N[i]?=some y)(hx:Loc X.env.scope y)(hi:PIG Cm X tg iter wi)(hg:∀c,PG (X.bF own M scope c) tg (g c))(ht:∀c,PTs (X.bF own M scope c) ifs (tt c))(he:∀c,PE (X.bF own M scope c) elt (te c))(hsw:swapsWith (.ListComp elt [⟨tg,iter,ifs,0⟩] scope pos) (some (.Name y py)) spos.line X.env=pure true:=by rfl)(hk:aZ X.env scope X.N M=true:=by rfl)(hs:∀x,foldedSetIterable iter X.env x=pure x:=by intro _;rfl)(hf:X.fn y=true\/X.env.scope.names.lookup y=some .local:=by first|exact .inl rfl|exact .inr rfl|assumption) :
  PS X (.Assign [.Name y py] (.ListComp elt [⟨tg,iter,ifs,0⟩] scope pos) spos) (sO (tLC own.length wi g tt te) (jJ i)):=by
 intro pins s σ H D I h
 rw[exec_Assign_Name_used _ _ _ _ hsw]
 have hka:=bN hk
 refine Å (wpAny_standAt (Å ?_))
 show wpAny _ X.A (do let _ ←comprehension (.ListComp elt [⟨tg,iter,ifs,0⟩] scope pos) scope X.env _ (newList []) false (eval iter X.env) (some (assign (.Name y py) X.env))) _ _ s
 refine Å (į (wpAny_comprehension_free (use:=some (assign (.Name y py) X.env)) (Q:=λ_ s'=>SP X pins D .next s') rfl hs (uG hk I) (fj hk) (λx hx hl=>((hka x hx).1 hl).2)
  (thn (hi pins s σ H _ I h) λv s1 h1=>thn h1 λitv s2 h2=>?_)) (λ_ s' hq=>Ô (Ô hq)) λ_ _ e=>e)
 obtain⟨it,fp,tn,J,H2,e,I2,T,st2,f2,W,⟨m0,w0⟩,turn⟩:=h2
 subst e
 refine uE (RR:=λacc C=>compPost (model X.prog X.w) X.A X.xe (some (assign (.Name y py) X.env)) (λ_ s'=>SP X pins D .next s') acc C) (D:=λys H=>∀p,H p=none->jJ i (.ref p) σ (upd H p (.lst ys)) D.nx) hc hk hg ht he I2 T st2 f2 w0 turn ?_
 intro s' m' ys H' hns hCn hDn J' d
 have lt2:∀{b:Addr}{o:Obj},s2.heap.get? b=some o->b≠s2.heap.objs.size+1:=λe=>á (Ă (Î e))
 show wpAny _ X.A (assign (.Name y py) X.env (.ref s2.heap.objs.size)) _ _ _
 refine wpAny_assign_Name (tM (v:=.ref s2.heap.objs.size) J' (λj h=>yD hN h hiN) hiN hx rfl (λs'' J'' ⟨a,hsb,ha⟩=>?_) hf)
 have hLne:X.env.locals≠s2.heap.objs.size+1:=á (Ă I2.lt)
 have hCa:s2.heap.objs.size+1≠a:=by
  rcases ha with ha|ha
  ·rw[ha];exact ġ hLne
  ·obtain⟨v,o,ho,_⟩:=I2.cell _ _ ha
   exact ġ (lt2 ho)
 refine⟨m',hns.sameBut hsb hCa,λh' hb=>⟨_,_,uF (m:=m') (s:=s2) J'' (î I2.sz (ĸ _)) (ġ hLne) (λx c e=>?_) (λp hp=>?_) ?_ hb,d _ hDn⟩⟩
 ·obtain⟨v,o,ho,_⟩:=I2.cell x c e
  exact lt2 ho
 ·exact lt2 (I2.pin p hp).1
 ·rw[aq (ž (Ŗ _))]
  exact hCn
def Ig(own M:List Str){i:Nat}{y:Str}{py spos:Pos}(hc:X.calm=true)(hN:X.N.Nodup)(hiN:X.N[i]?=some y)(hx:Loc X.env.scope y)(hi:PI X tg iter wi)(hg:∀c,PG (X.bF own M scope c) tg (g c))(ht:∀c,PTs (X.bF own M scope c) ifs (tt c))(he:∀c,PE (X.bF own M scope c) elt (te c))(hsw:swapsWith (.ListComp elt [⟨tg,iter,ifs,0⟩] scope pos) (some (.Name y py)) spos.line X.env=pure true:=by rfl)(hk:aZ X.env scope X.N M=true:=by rfl)(hs:∀x,foldedSetIterable iter X.env x=pure x:=by intro _;rfl)(hf:X.fn y=true\/X.env.scope.names.lookup y=some .local:=by first|exact .inl rfl|exact .inr rfl|assumption) :
  PS X (.Assign [.Name y py] (.ListComp elt [⟨tg,iter,ifs,0⟩] scope pos) spos) (sO (tLC own.length wi g tt te) (jJ i)):=Ma own M (λ_=>hc) hN hiN hx hi hg ht he hsw hk hs hf
def Uu(own:List Str)(hc:X.calm=true)(hi:PI X tg iter wi)(hg:∀c,PG (X.comp own scope c) tg (g c))(ht:∀c,PTs (X.comp own scope c) ifs (tt c))(he:∀c,PE (X.comp own scope c) elt (te c))(hk:gM X.env scope X.N=true:=by rfl)(hs:∀x,foldedSetIterable iter X.env x=pure x:=by intro _;rfl) :
  PE X (.ListComp elt [⟨tg,iter,ifs,0⟩] scope pos) (tLC own.length wi g tt te):=Im own X.N hc hi hg ht he (zu hk) hs
def Ih(own:List Str){i:Nat}{y:Str}{py spos:Pos}(hc:X.calm=true)(hN:X.N.Nodup)(hiN:X.N[i]?=some y)(hx:Loc X.env.scope y)(hi:PI X tg iter wi)(hg:∀c,PG (X.comp own scope c) tg (g c))(ht:∀c,PTs (X.comp own scope c) ifs (tt c))(he:∀c,PE (X.comp own scope c) elt (te c))(hsw:swapsWith (.ListComp elt [⟨tg,iter,ifs,0⟩] scope pos) (some (.Name y py)) spos.line X.env=pure true:=by rfl)(hk:gM X.env scope X.N=true:=by rfl)(hs:∀x,foldedSetIterable iter X.env x=pure x:=by intro _;rfl)(hf:X.fn y=true\/X.env.scope.names.lookup y=some .local:=by first|exact .inl rfl|exact .inr rfl|assumption) :
  PS X (.Assign [.Name y py] (.ListComp elt [⟨tg,iter,ifs,0⟩] scope pos) spos) (sO (tLC own.length wi g tt te) (jJ i)):=Ig own X.N hc hN hiN hx hi hg ht he hsw (zu hk) hs hf
end
section
variable {X:Cx}{tg:Expr}{K:Ú}{g:CB->TG}{tt:CB->TT}{te:CB->TE}{σ:St}{H:Hp}{Q:VK}{n:Nat}
def WY(K:Ú)(tl:TE):TI:=λσ H R=>tl σ H λx H1=>∃a,x=.ref a/\(((∃xs,SqL K H1 a xs)/\R (Itl K a) H1)\/((∃xs,SqT K H1 a xs)/\R (Itt K a) H1))
def QL{l:Expr}{tl:TE}(hl:PE X l tl):PI X tg l (WY X.K tl):=by
 intro pins s σ H R I h
 refine thn (hl pins s σ H _ I h) λv s1 ⟨x,H1,I1,r1,q1⟩=>?_
 obtain⟨a,e,q1⟩:=q1
 subst e
 cases r1
 rcases q1 with ⟨⟨xs,hq⟩,q⟩|⟨⟨xs,hq⟩,q⟩
 ·obtain⟨its,rv,p,hz⟩:=I1.list hq
  refine wpAny_pyIter_list p.isList ?_
  refine⟨s1.heap.objs.size,[s1.heap.objs.size],_,_,H1,rfl,I1.kept (t':=s1.toks) λb o e=>Ï _ e,Eu a _,⟨_,ß _ rfl,rfl,rfl⟩,λb hb=>?_,q⟩
  have e:b=s1.heap.objs.size:=by simpa using hb
  subst e
  exact I1.R4 (É _) (I1.hok.fresh (É _))
 ·obtain⟨its,rv,p,hz⟩:=I1.tuple hq
  refine wpAny_pyIter_tuple (show s1.heap.IsTuple a its.toArray from p) ?_
  refine⟨s1.heap.objs.size,[s1.heap.objs.size],_,_,H1,rfl,I1.kept (t':=s1.toks) λb o e=>Ï _ e,zX a _,⟨_,ß _ rfl,rfl,rfl⟩,λb hb=>?_,q⟩
  have e:b=s1.heap.objs.size:=by simpa using hb
  subst e
  exact I1.R4 (É _) (I1.hok.fresh (É _))
end
end L2
namespace NfSort
open PySem PySem.W PyProof.Rows
def kwp{α:Type}(n:Nat)(key:Nat->Int):KasT α->(α->Prop)->Prop
 |.ret a,Q=>Q a
 |.ask i j k,Q=>i<n/\j<n/\kwp n key (k (decide (key i<key j))) Q
def bH{α:Type}{n:Nat}{key:Nat->Int}{Q Q':α->Prop}(h:∀a,Q a->Q' a):∀{t:KasT α},kwp n key t Q->kwp n key t Q'
 |.ret a,q=>h a q
 |.ask _ _ k,q=>⟨q.1,q.2.1,bH h q.2.2⟩
def fO{α β:Type}{n:Nat}{key:Nat->Int}{f:α->KasT β}{Q:β->Prop}:∀{t:KasT α},kwp n key t (λa=>kwp n key (f a) Q)->kwp n key (t.bind f) Q
 |.ret a,q=>q
 |.ask _ _ k,q=>⟨q.1,q.2.1,fO q.2.2⟩
def ql{α:Type}{n:Nat}{key:Nat->Int}{cmp:Nat->Nat->(Bool->Shared->Prop)->Shared->Prop}{s:Shared}{G:α->Shared->Prop}(hc:∀i j C,i<n->j<n->C (decide (key i<key j)) s->cmp i j C s) :
  ∀{t:KasT α},kwp n key t (λa=>G a s)->t.kasWp cmp G s
 |.ret _,q=>q
 |.ask i j k,q=>hc i j _ q.1 q.2.1 (ql hc q.2.2)
section
variable {n:Nat}{key:Nat->Int}{p:Array Nat}
def Pm(n:Nat)(p:Array Nat):Prop:=p.Perm (Û n).toArray
def kk(key:Nat->Int)(p:Array Nat)(i:Nat):Int:=key (p.getD i 0)
def Pm.size(h:Pm n p):p.size=n:=by
 have:=Array.Perm.size_eq h
 simpa using this
def getD_eq(p:Array Nat)(i:Nat):p.getD i 0=(p[i]?).getD 0:=by
 by_cases h:i<p.size <;> simp[Array.getD,h]
def Pm.lt(h:Pm n p){i:Nat}(hi:i<n):p.getD i 0<n:=by
 have hs:=h.size
 have hi':i<p.size:=by omega
 have hm:p[i]∈p.toList:=by
  have:=Array.getElem_mem hi'
  simpa using this
 have hp:p.toList.Perm (Û n):=by
  have:=Array.perm_iff_toList_perm.mp h
  simpa using this
 have e:p.getD i 0=p[i]:=by simp[Array.getD,hi']
 rw[e]
 exact ċ.mp (hp.mem_iff.mp hm)
def Pm.rev(h:Pm n p)(i j:Nat):Pm n (kas_rev p i j):=Array.Perm.trans (mirror_perm _ _ _ _) h
def Pm.bub(h:Pm n p)(i j:Nat):Pm n (bubble p i j):=Array.Perm.trans (bubble_perm _ _ _) h
def wD(h:Pm n p){i j:Nat}(hj:j<=n)(t:Nat):kk key (kas_rev p i j) t=if i<=t/\t<j then kk key p (i+j - 1 - t) else kk key p t:=by
 unfold kk kas_rev
 rw[getD_eq,getElem?_mirror_all (by rw[h.size];exact hj)]
 split
 ·rw[getD_eq]
 ·rw[getD_eq]
def RJ(h:Pm n p){k l:Nat}(hk:k<n)(hl:l<=k)(t:Nat):kk key (bubble p k (k - l)) t=if t=l then kk key p k else if l<t/\t<=k then kk key p (t - 1) else kk key p t:=by
 unfold kk
 rw[getD_eq,getElem?_bubble (by rw[h.size];exact hk) _ (by omega)]
 have e:k - (k - l)=l:=by omega
 rw[e]
 split
 ·rw[getD_eq]
 ·split
  ·rw[getD_eq]
  ·rw[getD_eq]
def Up(key:Nat->Int)(p:Array Nat)(m:Nat):Prop:=∀i j,i<=j->j<m->kk key p i<=kk key p j
def Dn(key:Nat->Int)(p:Array Nat)(m:Nat):Prop:=∀i j,i<=j->j<m->kk key p j<=kk key p i
def Rn(key:Nat->Int)(p:Array Nat)(m q:Nat):Prop:=q+1<=m/\∀t,m<=t+q+1->t<m->kk key p t=kk key p (m - 1)
def Up.more{a:Nat}(h:Up key p a)(h1:1<=a)(hx:kk key p (a - 1)<=kk key p a):Up key p (a+1):=λi j hij hj=>by
 by_cases hja:j<a
 ·exact h i j hij hja
 ·obtain rfl:j=a:=by omega
  by_cases hi:i=j
  ·subst hi;exact ć _
  ·exact Int.le_trans (h i (j - 1) (by omega) (by omega)) hx
def Dn.more{a:Nat}(h:Dn key p a)(h1:1<=a)(hx:kk key p a<=kk key p (a - 1)):Dn key p (a+1):=λi j hij hj=>by
 by_cases hja:j<a
 ·exact h i j hij hja
 ·obtain rfl:j=a:=by omega
  by_cases hi:i=j
  ·subst hi;exact ć _
  ·exact Int.le_trans hx (h i (j - 1) (by omega) (by omega))
def Ce(hp:Pm n p):∀(f a:Nat),1<=a->a+f<=n->Up key p a->kwp n key (kas_asc p f a) (λm=>a<=m/\m<=a+f/\Up key p m/\(m<a+f->kk key p m<kk key p (m - 1)))
 |0,a,h1,hf,hu=>⟨É _,É _,hu,λh=>absurd h (by omega)⟩
 |f+1,a,h1,hf,hu=>by
  refine⟨hp.lt (by omega),hp.lt (by omega),?_⟩
  by_cases hc:key (p.getD a 0)<key (p.getD (a - 1) 0)
  ·(rw[decide_eq_true hc];dsimp only;rw[if_pos rfl])
   exact⟨É _,by omega,hu,λ_=>hc⟩
  ·(rw[decide_eq_false hc];dsimp only;rw[if_neg Ð])
   refine bH (λm ⟨a1,a2,a3,a4⟩=>⟨by omega,by omega,a3,λh=>a4 (by omega)⟩) (Ce hp f (a+1) (by omega) (by omega) (hu.more h1 (Int.not_lt.mp hc)))
def CZ(hp:Pm n p){a q:Nat}(ha:a<=n)(hr:Rn key p a q)(t:Nat):kk key (kas_rev p (a - (q+1)) a) t=kk key p t:=by
 rw[wD hp ha]
 split
 ·rename_i h
  rw[hr.2 t (by omega) h.2]
  exact hr.2 _ (by have:=hr.1;omega) (by omega)
 ·rfl
def Dn.eq{p':Array Nat}{m:Nat}(h:Dn key p m)(e:∀t,kk key p' t=kk key p t):Dn key p' m:=λi j a b=>by rw[e,e];exact h i j a b
def Ei:∀(f:Nat) (p:Array Nat) (a q:Nat),Pm n p->1<=a->a+f<=n->Dn key p a->Rn key p a q ->
  kwp n key (kas_desc f p a q) (λr=>Pm n r.1/\a<=r.2.1/\r.2.1<=a+f/\Dn key r.1 r.2.1/\Rn key r.1 r.2.1 r.2.2)
 |0,p,a,q,hp,h1,hf,hd,hr=>⟨hp,É _,É _,hd,hr⟩
 |f+1,p,a,q,hp,h1,hf,hd,hr=>by
  refine⟨hp.lt (by omega),hp.lt (by omega),?_⟩
  have fin:∀{p':Array Nat}{q':Nat},Pm n p'->Dn key p' (a+1)->Rn key p' (a+1) q'->kwp n key (kas_desc f p' (a+1) q') (λr=>Pm n r.1/\a<=r.2.1/\r.2.1<=a+(f+1)/\Dn key r.1 r.2.1/\Rn key r.1 r.2.1 r.2.2):=λx y z =>
   bH (λr ⟨a1,a2,a3,a4,a5⟩=>⟨a1,by omega,by omega,a4,a5⟩) (Ei f _ (a+1) _ x (by omega) (by omega) y z)
  have rn0:∀p':Array Nat,Rn key p' (a+1) 0:=λp'=>⟨by omega,λt h1 h2=>by
   have e:t=a+1 - 1:=by omega
   rw[e]⟩
  by_cases hc:key (p.getD a 0)<key (p.getD (a - 1) 0)
  ·(rw[decide_eq_true hc];dsimp only;rw[if_pos rfl])
   have hc':kk key p a<kk key p (a - 1):=hc
   by_cases hq:q > 0
   ·rw[if_pos hq]
    have e:=CZ (key:=key) hp (by omega) hr
    exact fin (hp.rev _ _) ((hd.more h1 (Int.le_of_lt hc')).eq e) (rn0 _)
   ·rw[if_neg hq]
    exact fin hp (hd.more h1 (Int.le_of_lt hc')) (rn0 _)
  ·(rw[decide_eq_false hc];dsimp only;rw[if_neg Ð])
   refine⟨hp.lt (by omega),hp.lt (by omega),?_⟩
   by_cases hc2:key (p.getD (a - 1) 0)<key (p.getD a 0)
   ·(rw[decide_eq_true hc2];dsimp only;rw[if_pos rfl])
    exact⟨hp,É _,(by show a<=a+(f+1);omega),hd,hr⟩
   ·(rw[decide_eq_false hc2];dsimp only;rw[if_neg Ð])
    have e:kk key p a=kk key p (a - 1):=Int.le_antisymm (Int.not_lt.mp hc2) (Int.not_lt.mp hc)
    refine fin hp (hd.more h1 (Int.le_of_eq e)) ⟨by have:=hr.1;omega,λt t1 t2=>?_⟩
    show _=kk key p a
    by_cases ht:t=a
    ·rw[ht]
    ·rw[e]
     exact hr.2 t (by omega) (by omega)
def xO{a:Nat}(hp:Pm n p)(h1:1<=a)(ha:a<=n)(hd:Dn key p a):kwp n key (kas_tail3 a n p) (λr=>Pm n r.2/\1<=r.1/\r.1<=n/\Up key r.2 r.1):=by
 unfold kas_tail3
 have hu:Up key (kas_rev p 0 a) a:=λi j hij hj=>by
  rw[wD hp ha,wD hp ha,if_pos ⟨by omega,by omega⟩,if_pos ⟨by omega,hj⟩]
  exact hd _ _ (by omega) (by omega)
 refine fO (bH (λm ⟨a1,a2,a3,_⟩=>?_) (Ce (hp.rev 0 a) (n - a) a h1 (by omega) hu))
 exact⟨hp.rev 0 a,by omega,by omega,a3⟩
def pK{a:Nat}(hp:Pm n p)(ha:a+1<=n)(hd:Dn key p (a+1)):kwp n key (kas_descPart a n p) (λr=>Pm n r.2/\1<=r.1/\r.1<=n/\Up key r.2 r.1):=by
 unfold kas_descPart
 refine fO (bH (λr ⟨a1,a2,a3,a4,a5⟩=>?_) (Ei (n - (a+1)) p (a+1) 0 hp (by omega) (by omega) hd ⟨by omega,λt h1 h2=>by
  have e:t=a+1 - 1:=by omega
  rw[e]⟩))
 split
 ·exact xO (a1.rev _ _) (by omega) (by omega) (a4.eq (CZ a1 (by omega) a5))
 ·exact xO a1 (by omega) (by omega) a4
def KH(hp:Pm n p)(h1:1<=n):kwp n key (kas_count n p) (λr=>Pm n r.2/\1<=r.1/\r.1<=n/\Up key r.2 r.1):=by
 unfold kas_count
 have u1:Up key p 1:=λi j hij hj=>by
  have e:i=j:=by omega
  rw[e];exact ć _
 refine fO (bH (λm ⟨a1,a2,a3,a4⟩=>?_) (Ce hp (n - 1) 1 (É _) (by omega) u1))
 by_cases hm:m=n
 ·rw[if_pos (by simpa using hm)]
  exact⟨hp,by omega,by omega,a3⟩
 ·rw[if_neg (by simpa using hm)]
  have hlt:=a4 (by omega)
  by_cases hm1:m > 1
  ·rw[if_pos hm1]
   refine⟨hp.lt (by omega),hp.lt (by omega),?_⟩
   by_cases hc:key (p.getD 0 0)<key (p.getD (m - 1) 0)
   ·(rw[decide_eq_true hc];dsimp only;rw[if_pos rfl])
    exact⟨hp,by omega,by omega,a3⟩
   ·(rw[decide_eq_false hc];dsimp only;rw[if_neg Ð])
    have hall:∀t,t<m->kk key p t=kk key p 0:=λt ht=>by
     have e1:=a3 0 t (by omega) ht
     have e2:=a3 t (m - 1) (by omega) (by omega)
     have e3:kk key p (m - 1)<=kk key p 0:=Int.not_lt.mp hc
     omega
    have e:∀t,kk key (kas_rev p 0 m) t=kk key p t:=λt=>by
     rw[wD hp (by omega)]
     split
     ·rename_i h
      rw[hall t h.2,hall _ (by omega)]
     ·rfl
    refine pK (hp.rev 0 m) (by omega) (Dn.eq (p:=p) (Dn.more (λi j hij hj=>?_) (by omega) (Int.le_of_lt hlt)) e)
    rw[hall i (by omega),hall j hj]
    exact ć _
  ·rw[if_neg hm1]
   obtain rfl:m=1:=by omega
   refine pK hp (by omega) (Dn.more (λi j hij hj=>?_) (by omega) (Int.le_of_lt hlt))
   have e:i=j:=by omega
   rw[e];exact ć _
def qQ{k:Nat}(hp:Pm n p)(hk:k<n)(hu:Up key p k):∀(f l r:Nat),l<=r->r<=k->r<=l+f->(∀t,t<l->kk key p t<=kk key p k)->(∀t,r<=t->t<k->kk key p k<kk key p t) ->
  kwp n key (kas_place p k f l r) (λl'=>l'<=k/\(∀t,t<l'->kk key p t<=kk key p k)/\(∀t,l'<=t->t<k->kk key p k<kk key p t))
 |0,l,r,h1,h2,h3,h4,h5=>⟨by omega,h4,λt a b=>h5 t (by omega) b⟩
 |f+1,l,r,h1,h2,h3,h4,h5=>by
  unfold kas_place
  by_cases hlr:l ≥ r
  ·rw[if_pos hlr]
   exact⟨by omega,h4,λt a b=>h5 t (by omega) b⟩
  ·rw[if_neg hlr]
   have hm:(l+r) / 2<r:=by omega
   refine⟨hp.lt hk,hp.lt (by omega),?_⟩
   by_cases hc:key (p.getD k 0)<key (p.getD ((l+r) / 2) 0)
   ·(rw[decide_eq_true hc];dsimp only;rw[if_pos rfl])
    have hc':kk key p k<kk key p ((l+r) / 2):=hc
    exact qQ hp hk hu f l _ (by omega) (by omega) (by omega) h4 λt a b=>Int.lt_of_lt_of_le hc' (hu _ t a b)
   ·(rw[decide_eq_false hc];dsimp only;rw[if_neg Ð])
    have hc':kk key p ((l+r) / 2)<=kk key p k:=Int.not_lt.mp hc
    exact qQ hp hk hu f _ r (by omega) (by omega) (by omega) (λt a=>Int.le_trans (hu t _ (by omega) (by omega)) hc') h5
def KY:∀(f:Nat) (p:Array Nat) (k:Nat),Pm n p->k+f<=n->Up key p k->kwp n key (kas_bin f p k) (λp'=>Pm n p'/\Up key p' (k+f))
 |0,p,k,hp,hk,hu=>⟨hp,hu⟩
 |f+1,p,k,hp,hk,hu=>by
  unfold kas_bin
  refine fO (bH (λl ⟨a1,a2,a3⟩=>?_) (qQ hp (by omega) hu k 0 k (ô _) (É _) (by omega) (λt h=>absurd h (by omega)) (λt h1 h2=>absurd h1 (by omega))))
  have e:=RJ (key:=key) hp (k:=k) (by omega) a1
  have hu':Up key (bubble p k (k - l)) (k+1):=λi j hij hj=>by
   rw[e,e]
   by_cases hi:i=l
   ·rw[if_pos hi]
    by_cases hj':j=l
    ·rw[if_pos hj'];exact ć _
    ·rw[if_neg hj',if_pos ⟨by omega,by omega⟩]
     exact Int.le_of_lt (a3 _ (by omega) (by omega))
   ·rw[if_neg hi]
    by_cases hi2:l<i/\i<=k
    ·rw[if_pos hi2,if_neg (by omega),if_pos ⟨by omega,by omega⟩]
     exact hu _ _ (by omega) (by omega)
    ·rw[if_neg hi2]
     by_cases hj':j=l
     ·rw[if_pos hj']
      exact a2 i (by omega)
     ·rw[if_neg hj']
      by_cases hj2:l<j/\j<=k
      ·rw[if_pos hj2]
       exact hu _ _ (by omega) (by omega)
      ·rw[if_neg hj2]
       exact hu _ _ hij (by omega)
  refine bH (λp' ⟨b1,b2⟩=>⟨b1,?_⟩) (KY f _ (k+1) (hp.bub _ _) (by omega) hu')
  have e2:k+(f+1)=k+1+f:=by omega
  rw[e2];exact b2
def Cz(h1:1<=n):kwp n key (kas_sort n) (λp=>Pm n p/\Up key p n):=by
 unfold kas_sort
 refine fO (bH (λr ⟨a1,a2,a3,a4⟩=>?_) (KH (p:=(Û n).toArray) (Array.Perm.refl _) h1))
 have e:max r.1 1=r.1:=by omega
 rw[e]
 split
 ·refine bH (λp' ⟨b1,b2⟩=>⟨b1,?_⟩) (KY (n - r.1) r.2 r.1 a1 (by omega) a4)
  have e2:r.1+(n - r.1)=n:=by omega
  rw[e2] at b2;exact b2
 ·have e2:r.1=n:=by omega
  rw[e2] at a4
  exact⟨a1,a4⟩
end
end NfSort
namespace L2
open PySem PySem.Spec PyProof.Rows
section
variable {prog:Program}{w:World}{A:Around}{E:Value->Shared->Prop}{s:Shared}
end
section
variable {X:Cx}{pos:Pos}
def J2(K:Ú)(n:Nat)(t:TGs):TG:=λv σ H Q=>∃a xs,v=.ref a/\SqL K H a xs/\xs.length=n/\t xs σ H Q
end
section
variable {X:Cx}
def xg:bJ X (.builtin "isinstance") (λxs H Q=>∃x c t b,xs=[x,.ty c]/\TyOf X.K H x t/\W.kitOne X.K t (.type c)=some b/\Q (.bl b) H):=by
 intro pins s σ H xs us Q I r h
 obtain⟨x,c,t,b,rfl,ty,e,q⟩:=h
 obtain⟨u,u2,rfl,rx,rc⟩:=vals2 r
 cases rc
 exact Gh I rx ty e λtk=>⟨.bl b,H,I.tok _,rfl,q⟩
def Jc:OpR X (compareOp .Is) (λx y H Q=>∃a b,x=.bl a/\y=.bl b/\Q (.bl (decide (a=b))) H):=by
 intro pins s σ H x y v u Q I rx ry h
 obtain⟨a,b,rfl,rfl,q⟩:=h
 cases rx
 cases ry
 refine Ô ?_
 refine⟨.bl (decide (a=b)),H,I,?_,q⟩
 cases a <;> cases b <;> rfl
def yt:OpR X (compareOp .IsNot) (λx y H Q=>∃a b,x=.bl a/\y=.bl b/\Q (.bl (!decide (a=b))) H):=by
 intro pins s σ H x y v u Q I rx ry h
 obtain⟨a,b,rfl,rfl,q⟩:=h
 cases rx
 cases ry
 refine Ô ?_
 refine⟨.bl (!decide (a=b)),H,I,?_,q⟩
 cases a <;> cases b <;> rfl
def Ck:∀{bs:List Bool}{us:List Value},Vals (bs.map V.bl) us->us=bs.map Value.bool
 |[],_,h=>by cases h;rfl
 |b::bs,_,h=>by
  cases h with
  |cons r t =>
   cases r
   rw[Ck t]
   rfl
def all_range(bs:List Bool):(Û bs.length).all (λi=>bs.getD i true)=bs.all id:=by
 rw[ě]
 simp only[ü,ċ]
 constructor
 ·intro h x hx
  obtain⟨i,hi,e⟩:=List.mem_iff_getElem.mp hx
  have q:=h i hi
  simp[hi] at q
  rw[←e];exact q
 ·intro h i hi
  have q:=h bs[i] (Ħ hi)
  simpa[hi] using q
def GQ(hc:X.calm=true):bJ X (.builtin "all") (λxs H Q=>∃(p:Addr) (bs:List Bool),xs=[.ref p]/\SqL X.K H p (bs.map V.bl)/\Q (.bl (bs.all id)) H):=by
 intro pins s σ H xs us Q I r h
 obtain⟨p,bs,rfl,hp,q⟩:=h
 obtain⟨u,rfl,rx⟩:=vals1 r
 cases rx
 obtain⟨its,rv,pl,hz⟩:=I.list hp
 have e:=Ck rv
 subst e
 have hlt:p≠s.heap.objs.size:=by obtain⟨o,ho,_⟩:=pl.isList;exact á (Î ho)
 refine call_all_walk (wpAny_pyIter_list pl.isList ?_)
 refine⟨_,_,_,_,_,_,λi=>bs.getD i true,rfl,Walks.list (A:=X.A.in1) (I.ok.hd hc) _ p hlt _,⟨⟨_,ß _ rfl,rfl,rfl⟩,pl.isList.push _⟩,?_,λh' tk hk=>?_⟩
 ·intro i v s Q E hP hQ
  have hP':(bs.map Value.bool)[i]?=some v:=by simpa using hP
  rw[è] at hP'
  cases hb:bs[i]? with
  |none=>rw[hb] at hP';cases hP'
  |some b =>
   rw[hb] at hP'
   cases hP'
   refine Į ?_
   have e:bs.getD i true=b:=by rw[Ê,hb];rfl
   have hQ':Q (bs.getD i true) s:=hQ
   rw[e] at hQ'
   exact hQ'
 ·have e:(Û (bs.map Value.bool).toArray.size).all (λi=>bs.getD i true)=bs.all id:=by
   rw[Ñ,Á]
   exact all_range bs
  rw[e]
  refine⟨.bl (bs.all id),H,I.kept λb o eb=>hk b o ?_ (Ï _ eb),rfl,q⟩
  intro hm
  have:b=s.heap.objs.size:=by simpa using hm
  exact absurd (Î eb) (by rw[this];exact Ā _)
def uI(hc:X.calm=true):bJ X (.builtin "min") (λxs H Q=>∃p a b,xs=[.ref p]/\SqT X.K H p [.int a,.int b]/\Q (.int (if b<a then b else a)) H):=by
 intro pins s σ H xs us Q I r h
 obtain⟨p,a,b,rfl,hp,q⟩:=h
 obtain⟨u,rfl,rx⟩:=vals1 r
 cases rx
 obtain⟨its,rv,pl,hz⟩:=I.tuple hp
 obtain⟨v1,v2,rfl,⟨t1,rfl⟩,⟨t2,rfl⟩⟩:=vals2 rv
 have pl':s.heap.IsTuple p (intItems #[(a,t1),(b,t2)]):=by
  have z:s.heap.IsTuple p #[Ĝ a t1,Ĝ b t2]:=pl
  simpa[intItems] using z
 have hlt:p<s.heap.objs.size:=by obtain⟨o,ho,_⟩:=pl;exact Î ho
 refine call_min_walk (wpAny_pyIter_tuple pl' ?_)
 refine⟨_,[s.heap.objs.size,p],[s.heap.objs.size],_,_,_,_,rfl,Walks.tuple (A:=X.A.in1) (I.ok.hd hc) _ p (á hlt) (intItems #[(a,t1),(b,t2)]),⟨⟨_,ß _ rfl,rfl,rfl⟩,pl'.push _⟩,λc hc=>?_,by simp[intItems],
  CmpOf.ints_lt (numAt #[(a,t1),(b,t2)]) (λ_ _=>intItems_at),λv h' tk hP hk=>?_⟩
 ·show c<(s.heap.push _).objs.size
  rw[ł]
  rcases Ó.mp hc with rfl|hc
  ·exact Ŗ _
  ·have:c=p:=by simpa using hc
   rw[this];exact Ă hlt
 ·have hv:v=if b<a then Ĝ b t2 else Ĝ a t1:=by
   have hP':(intItems #[(a,t1),(b,t2)])[argBest (λi j=>decide (numAt #[(a,t1),(b,t2)] i<numAt #[(a,t1),(b,t2)] j)) 1]?=some v:=by
    have hsz2:(intItems #[(a,t1),(b,t2)]).size - 1=1:=by simp[intItems]
    rw[←hsz2];exact hP
   by_cases hba:b<a
   ·have e:argBest (λi j=>decide (numAt #[(a,t1),(b,t2)] i<numAt #[(a,t1),(b,t2)] j)) 1=1:=by simp[argBest,numAt,hba]
    rw[e] at hP'
    simpa[intItems,hba] using hP'.symm
   ·have e:argBest (λi j=>decide (numAt #[(a,t1),(b,t2)] i<numAt #[(a,t1),(b,t2)] j)) 1=0:=by simp[argBest,numAt,hba]
    rw[e] at hP'
    simpa[intItems,hba] using hP'.symm
  subst hv
  refine⟨.int (if b<a then b else a),H,I.kept λb o eb=>hk b o ?_ (Ï _ eb),?_,q⟩
  ·intro hm
   have:b=s.heap.objs.size:=by simpa using hm
   exact absurd (Î eb) (by rw[this];exact Ā _)
  ·by_cases hba:b<a
   ·rw[if_pos hba,if_pos hba];exact⟨_,rfl⟩
   ·rw[if_neg hba,if_neg hba];exact⟨_,rfl⟩
def GK(hc:X.calm=true):bJ X (.builtin "max") (λxs H Q=>∃p a b,xs=[.ref p]/\SqT X.K H p [.int a,.int b]/\Q (.int (if b > a then b else a)) H):=by
 intro pins s σ H xs us Q I r h
 obtain⟨p,a,b,rfl,hp,q⟩:=h
 obtain⟨u,rfl,rx⟩:=vals1 r
 cases rx
 obtain⟨its,rv,pl,hz⟩:=I.tuple hp
 obtain⟨v1,v2,rfl,⟨t1,rfl⟩,⟨t2,rfl⟩⟩:=vals2 rv
 have pl':s.heap.IsTuple p (intItems #[(a,t1),(b,t2)]):=by
  have z:s.heap.IsTuple p #[Ĝ a t1,Ĝ b t2]:=pl
  simpa[intItems] using z
 have hlt:p<s.heap.objs.size:=by obtain⟨o,ho,_⟩:=pl;exact Î ho
 refine call_max_walk (wpAny_pyIter_tuple pl' ?_)
 refine⟨_,[s.heap.objs.size,p],[s.heap.objs.size],_,_,_,_,rfl,Walks.tuple (A:=X.A.in1) (I.ok.hd hc) _ p (á hlt) (intItems #[(a,t1),(b,t2)]),⟨⟨_,ß _ rfl,rfl,rfl⟩,pl'.push _⟩,λc hc=>?_,by simp[intItems],
  CmpOf.ints_gt (numAt #[(a,t1),(b,t2)]) (λ_ _=>intItems_at),λv h' tk hP hk=>?_⟩
 ·show c<(s.heap.push _).objs.size
  rw[ł]
  rcases Ó.mp hc with rfl|hc
  ·exact Ŗ _
  ·have:c=p:=by simpa using hc
   rw[this];exact Ă hlt
 ·have hv:v=if b > a then Ĝ b t2 else Ĝ a t1:=by
   have hP':(intItems #[(a,t1),(b,t2)])[argBest (λi j=>decide (numAt #[(a,t1),(b,t2)] i > numAt #[(a,t1),(b,t2)] j)) 1]?=some v:=by
    have hsz2:(intItems #[(a,t1),(b,t2)]).size - 1=1:=by simp[intItems]
    rw[←hsz2];exact hP
   by_cases hba:b > a
   ·have e:argBest (λi j=>decide (numAt #[(a,t1),(b,t2)] i > numAt #[(a,t1),(b,t2)] j)) 1=1:=by simp[argBest,numAt,hba]
    rw[e] at hP'
    simpa[intItems,hba] using hP'.symm
   ·have e:argBest (λi j=>decide (numAt #[(a,t1),(b,t2)] i > numAt #[(a,t1),(b,t2)] j)) 1=0:=by simp[argBest,numAt,hba]
    rw[e] at hP'
    simpa[intItems,hba] using hP'.symm
  subst hv
  refine⟨.int (if b > a then b else a),H,I.kept λb o eb=>hk b o ?_ (Ï _ eb),?_,q⟩
  ·intro hm
   have:b=s.heap.objs.size:=by simpa using hm
   exact absurd (Î eb) (by rw[this];exact Ā _)
  ·by_cases hba:b > a
   ·rw[if_pos hba,if_pos hba];exact⟨_,rfl⟩
   ·rw[if_neg hba,if_neg hba];exact⟨_,rfl⟩
def RQ{prog:Program}{w:World}{A:Around}{E:Value->Shared->Prop}{s:Shared}{l:Addr}{n:Nat}{x:Int}{t:Tok}{u:Value}{Q:Value->Shared->Prop}{its:List Value}(ho:s.heap.get? l=some { cls:=.type "list",data:=.seq its.toArray n })(hfit:¬(!Builtin.List.listFitsIndex x)=true)(hsz:its.toArray.size<=sizeLine)(h:Q .none { s with heap:=s.heap.update l (à λxs=>(xs.extract 0 (if x<0 then (x+(xs.size:Int)).toNat else min x.toNat xs.size)).push u++xs.extract (if x<0 then (x+(xs.size:Int)).toNat else min x.toNat xs.size)),toks:=s.toks }) :
  wpAny (model prog w) A (call (.builtin "list.insert") [.ref l,.int x t,u]) Q E s:=by
 generalize its.toArray=ia at ho hsz
 exact call_meets PySem.F.slot_list_insert ⟨_,ho,rfl⟩ PySem.F.entry_list_insert (PySem.F.args_list_insert_3 _ _ _) (PySem.AutoSeq1.list_insert_list_int_val_1 l ia n x t u hfit hsz) ⟨ho,h⟩
def Dc:V->List V->Hp->VK->Prop:=λx vs H Q=>∃l xs k y,x=.ref l/\vs=[.int (k:Nat),y]/\H l=some (.lst xs)/\k<=xs.length/\xs.length<sizeLine/\Q .non (upd H l (.lst (xs.take k++y::xs.drop k)))
def FP:MtM X "list.insert" Dc:=by
 intro pins s σ H x vs v us Q I rx rv h
 obtain⟨l,xs,k,y,rfl,rfl,hH,hk,hz,q⟩:=h
 cases rx
 obtain⟨u1,u,rfl,⟨t,rfl⟩,ru⟩:=rv.two
 obtain⟨z,its,n,r,hl,e⟩:=I.yK hH
 have h24:(sizeLine:Nat)=16777216:=é
 have hfit:¬(!Builtin.List.listFitsIndex (k:Int))=true:=by
  have q1:decide (-(2 ^ 63:Int)<=(k:Int))=true:=decide_eq_true (by omega)
  have q2:decide ((k:Int)<2 ^ 63)=true:=decide_eq_true (by omega)
  unfold Builtin.List.listFitsIndex
  rw[q1,q2]
  exact Ð
 have hsz:its.toArray.size<=sizeLine:=by
  have e1:its.toArray.size=xs.length:=(Ñ ..).trans hl.symm
  rw[e1]
  exact z
 have hx0:¬((k:Int)<0):=by omega
 have hxk:(k:Int).toNat=k:=Ø k
 generalize hx:(k:Int)=x at hfit hx0 hxk
 refine RQ (its:=its) e hfit hsz ?_
 refine⟨.non,_,I.Nj (its':=its.take k++u::its.drop k) hH e ?_ ?_ ?_,rfl,q⟩
 ·have hm:min k its.length=k:=by omega
  have e2:=W.kl_ins_eq its k u
  simp only[hx0,if_false,hxk,Ñ,hm]
  exact e2
 ·exact(r.take k).append (.cons ru (r.drop k))
 ·rw[Æ,Ù,ă,û]
  omega
def GF:bJ X (.type "range") (λxs H Q=>∃j,xs=[.int j]/\∀p,H p=none->Q (.ref p) (upd H p (.rng 0 j))):=by
 intro pins s σ H xs us Q I r h
 obtain⟨j,rfl,q⟩:=h
 obtain⟨u,rfl,t,rfl⟩:=vals1 r
 refine call_range_1 ?_
 exact⟨.ref s.heap.objs.size,_,I.laid (o:=.rng 0 j) (λb o e=>Ï _ e) (É _) ⟨_,_,_,ß _ rfl⟩,rfl,q _ I.fresh⟩
def yd(lo hi:Int):List V:=(Û (hi - lo).toNat).map λi=>V.int (lo+(i:Nat))
def zV{lo:Int}:∀{n:Nat}{us:List Value},us.length=n->(∀j v,us[j]?=some v->∃t,v=Ĝ (lo+(j:Nat) * 1) t)->Vals ((Û n).map λi=>V.int (lo+(i:Nat))) us:=by
 intro n us hl h
 have key:∀(us:List Value) (k:Nat),(∀j v,us[j]?=some v->∃t,v=Ĝ (lo+((k+j:Nat):Int)) t)->Vals ((List.range' k us.length).map λi=>V.int (lo+(i:Nat))) us:=by
  intro us
  induction us with
  |nil=>intro k _;exact .nil
  |cons u us ih =>
   intro k hk
   obtain⟨t,e⟩:=hk 0 u (by simp)
   rw[Ù,List.range'_succ,ã]
   refine .cons ⟨t,by simpa using e⟩ (ih (k+1) λj v hv=>?_)
   obtain⟨t,e⟩:=hk (j+1) v (by simpa using hv)
   exact⟨t,by rw[e];congr 2;omega⟩
 have q:=key us 0 λj v hv=>by
  obtain⟨t,e⟩:=h j v hv
  exact⟨t,by rw[e];simp⟩
 rw[hl,←List.range_eq_range'] at q
 exact q
def tD(hc:X.calm=true):bJ X (.type "list") (λxs H Q=>∃p lo hi,xs=[.ref p]/\H p=some (.rng lo hi)/\(-1000<=lo/\lo<=1000/\-1000<=hi/\hi<=1000)/\∀l,H l=none->Q (.ref l) (upd H l (.lst (yd lo hi)))):=by
 intro pins s σ H xs us Q I r h
 obtain⟨p,lo,hi,rfl,hp,⟨b1,b2,b3,b4⟩,q⟩:=h
 obtain⟨u,rfl,rx⟩:=vals1 r
 cases rx
 obtain⟨t,u,v,e⟩:=I.hok p _ hp
 have hsz:Builtin.Range.rangeSize lo hi 1=(((hi - lo).toNat:Nat):Int):=by rw[rangeSize_one];split <;> omega
 refine call_list_range (I.ok.hd hc) (show IsRange s.heap p lo hi 1 t u v from e) (small_one (by omega) (by omega) (by omega) (by omega)) hsz (by omega) λh' tk acc' c' hk ho ⟨hn,hit⟩=>?_
 have hv:Vals (yd lo hi) acc'.toList:=zV (by simpa using hn) λj w hw=>hit j w (by simpa using hw)
 refine⟨.ref s.heap.objs.size,_,I.laid (o:=.lst (yd lo hi)) hk (É _) ⟨?_,acc'.toList,c',hv,by simpa using ho⟩,rfl,q _ I.fresh⟩
 unfold yd
 rw[Á,Ō,é]
 omega
end
abbrev Tie:=Int×Int
def Pr(H:Hp)(v:V)(t:Tie):Prop:=∃p,v=.ref p/\H p=some (.tup [.int t.1,.int t.2])
abbrev Prs(H:Hp):List V->List Tie->Prop:=Paired (Pr H)
def aH(t:Tie):Int:=64 * t.1+t.2
def pC(t:Tie):Prop:=0<=t.2/\t.2<64
def code_inj{a b:Tie}(ha:pC a)(hb:pC b)(h:aH a=aH b):a=b:=by
 obtain⟨a1,a2⟩:=a
 obtain⟨b1,b2⟩:=b
 unfold pC aH at *
 simp only at *
 have e:a1=b1:=by omega
 have e2:a2=b2:=by omega
 rw[e,e2]
def jV(h:Heap)(u:Value)(t:Tie):Prop:=∃a o t1 t2 n,u=.ref a/\h.get? a=some o/\o.cls=.type "tuple"/\o.data=.seq #[.int t.1 t1,.int t.2 t2] n
def jV.keep{h h':Heap}{u:Value}{t:Tie}(x:jV h u t)(k:∀a o,h.get? a=some o->o.cls=.type "tuple"->h'.get? a=some o):jV h' u t:=by
 obtain⟨a,o,t1,t2,n,e,ho,hc,hd⟩:=x
 exact⟨a,o,t1,t2,n,e,k a o ho hc,hc,hd⟩
def QM{α β:Type}{F:α->β->Prop}{l₁:List α}{l₂:List β}(h:Paired F l₁ l₂):∀{i:Nat}{b:β},l₂[i]?=some b->∃a,l₁[i]?=some a/\F a b:=by
 induction h with
 |nil=>intro i x e;simp at e
 |cons r t ih =>
  intro i x e
  cases i with
  |zero=>simp at e;subst e;exact⟨_,rfl,r⟩
  |succ i =>
   obtain⟨c,e1,f⟩:=ih (by simpa using e)
   exact⟨c,by simpa using e1,f⟩
def yj{α β:Type}{F:α->β->Prop}{l₁:List α}{l₂:List β}(h:Paired F l₁ l₂)(da:α)(db:β):∀(p:List Nat),(∀i∈p,i<l₂.length)->Paired F (p.map λi=>l₁.getD i da) (p.map λi=>l₂.getD i db)
 |[],_=>.nil
 |i::p,hp=>by
  have hi:i<l₂.length:=hp i À
  obtain⟨a,e,f⟩:=QM h (i:=i) (b:=l₂[i]) (by simp[hi])
  refine .cons ?_ (yj h da db p λj hj=>hp j (Ä _ hj))
  have e1:l₁.getD i da=a:=by rw[Ê,e];rfl
  have e2:l₂.getD i db=l₂[i]:=by simp[hi]
  show F (l₁.getD i da) (l₂.getD i db)
  rw[e1,e2]
  exact f
def Qw{α:Type}:∀us:List α,Ĥ (λx=>x.snd) (us.zip us)=us
 |[]=>rfl
 |u::us=>by rw[List.zip_cons_cons,ã,Qw us]
def dI{α:Type}(l:List α)(d:α):(Û l.length).map (λi=>l.getD i d)=l:=by
 apply List.ext_getElem
 ·simp
 ·intro i h1 h2
  simp at h1 ⊢
  simp[h1]
section
variable {X:Cx}{pins:List (Addr×Obj)}{σ:St}{H:Hp}{s:Shared}
def Inv.pairs(I:Inv X pins σ H s):∀{vs:List V}{ts:List Tie}{us:List Value},Prs H vs ts->Vals vs us->Paired (jV s.heap) us ts
 |_,_,_,.nil,r=>by cases r;exact .nil
 |_,_,_,.cons p q,r=>by
  cases r with
  |cons r rr =>
   refine .cons ?_ (I.pairs q rr)
   obtain⟨a,rfl,e⟩:=p
   cases r
   obtain⟨_,its,rv,⟨o,ho,hc,n,hd⟩⟩:=I.hok a _ e
   obtain⟨v1,v2,rfl,⟨t1,rfl⟩,⟨t2,rfl⟩⟩:=vals2 rv
   exact⟨a,o,t1,t2,n,rfl,ho,hc,hd⟩
end
section
variable {prog:Program}{w:World}{A:Around}{E:Value->Shared->Prop}{s:Shared}
def Jw{x y:Value}{a b:Tie}{Q:Bool->Shared->Prop}(hx:jV s.heap x a)(hy:jV s.heap y b)(na:pC a)(nb:pC b)(h:Q (decide (aH a<aH b)) s):wpAny (model prog w) A (keyLt' (tuples' true) x y) Q E s:=by
 obtain⟨p,o,t1,t2,n,rfl,ho,hc,hd⟩:=hx
 obtain⟨p',o',t1',t2',n',rfl,ho',hc',hd'⟩:=hy
 obtain⟨a1,a2⟩:=a
 obtain⟨b1,b2⟩:=b
 unfold pC at na nb
 simp only at na nb
 refine W.kat_lt ho hd ho' hd' ?_
 refine W.kat_cons (wpAny_eqBool_int ?_)
 by_cases e1:a1=b1
 ·subst e1
  rw[beq_self_eq_true]
  refine W.kat_yes (W.kat_cons (wpAny_eqBool_int ?_))
  by_cases e2:a2=b2
  ·subst e2
   rw[beq_self_eq_true]
   refine W.kat_yes (W.kat_nil ?_)
   have e:decide (aH (a1,a2)<aH (a1,a2))=false:=decide_eq_false (Int.lt_irrefl _)
   rw[e] at h
   exact h
  ·rw[beq_eq_false_iff_ne.mpr e2]
   refine W.kat_no (W.kat_one _ _ (lt_int ?_))
   have e:decide (aH (a1,a2)<aH (a1,b2))=decide (a2<b2):=by
    apply decide_eq_decide.mpr
    unfold aH
    omega
   rw[e] at h
   exact h
 ·rw[beq_eq_false_iff_ne.mpr e1]
  refine W.kat_no (oneLt_int ?_)
  have e:decide (aH (a1,a2)<aH (b1,b2))=decide (a1<b1):=by
   apply decide_eq_decide.mpr
   unfold aH
   simp only
   constructor
   ·intro h;omega
   ·intro h;omega
  rw[e] at h
  exact h
def JQ:∀{us:List Value}{ts:List Tie},Paired (jV s.heap) us ts->∃fs,W.KatTups s.heap us fs/\fs.length=us.length/\∀v∈fs,∃i t,v=Ĝ i t
 |_,_,.nil=>⟨[],.nil,rfl,λ_ h=>nomatch h⟩
 |_,_,.cons p q=>by
  obtain⟨a,o,t1,t2,n,rfl,ho,hc,hd⟩:=p
  obtain⟨fs,k,hl,hv⟩:=JQ q
  refine⟨_::fs,.cons ho hc hd (f:=Ĝ _ t1) rfl k,by simp[hl],λv hv'=>?_⟩
  rcases Ó.mp hv' with rfl|h
  ·exact⟨_,_,rfl⟩
  ·exact hv v h
def Tg{n:Nat}{key:Nat->Int}{p:Array Nat}(hp:NfSort.Pm n p)(h1:1<=n)(hs:NfSort.Up key p n):NfSort.kwp n key (W.kas_count n p) (λr=>r.1=n/\r.2=p):=by
 unfold W.kas_count
 have go:∀(f a:Nat),1<=a->a+f=n->NfSort.kwp n key (W.kas_asc p f a) (λm=>m=n):=by
  intro f
  induction f with
  |zero=>intro a _ h;exact h
  |succ f ih =>
   intro a ha h
   refine⟨hp.lt (by omega),hp.lt (by omega),?_⟩
   have hc:¬key (p.getD a 0)<key (p.getD (a - 1) 0):=Int.not_lt.mpr (hs (a - 1) a (by omega) (by omega))
   rw[decide_eq_false hc]
   exact ih (a+1) (by omega) (by omega)
 refine NfSort.fO (NfSort.bH (λm e=>?_) (go (n - 1) 1 (É _) (by omega)))
 rw[if_pos (by simpa using e)]
 exact⟨e,rfl⟩
open PySem.W in
def Lq{prog:Program}{w:World}{A:Around}{E:Value->Shared->Prop}{κ:SortKind}{it:Array Keyed}{n:Nat}{Q:Unit->SortSt->Shared->Prop}{G:Array Nat->Shared->Prop}{s:Shared}(h2:2<=n)(hmr:minRun' n n 0<=n)(hG:∀p' st' s',p'.size=n->arrOf st'=p'.map (kas_item it)->failedOf st'=none->G p' s'->Q () st' s')(h:(kas_count n (ĵ (Û n))).kasWp (kas_cmp prog w A κ it) (λr s'=>r.1=n/\G r.2 s') s) :
  kasC (model prog w) A E sortRuns' Q (kas_st κ it (ĵ (Û n))) s:=by
 obtain⟨r,rfl⟩:∃r,n=r+2:=⟨n - 2,by omega⟩
 have hrs:(ĵ (Û (r+2))).size=r+2:=by simp
 rw[sortRuns'_eq]
 refine kasC_bind (kasC_get ?_)
 dsimp only
 have hsz:(arrOf (kas_st κ it (ĵ (Û (r+2))))).size=r+2:=by
  show((ĵ (Û (r+2))).map (kas_item it)).size=_
  rw[Array.size_map,hrs]
 simp only[hsz]
 refine kasC_bind (kasC_range ?_)
 show kasC _ _ _ (forIn (0::1::List.range' 2 r) _ _) _ _ _
 refine kasC_cons ?_
 dsimp only
 rw[if_neg (by omega)]
 simp only[Nat.sub_zero,Nat.zero_add]
 refine kasC_bind (kas_count_ (by omega) (by rw[hrs];exact É _) (λm p' s' hm1 hm2 hp hg=>?_) h)
 have hps:p'.size=r+2:=hp.trans hrs
 obtain⟨e,hg⟩:=hg
 have e':m=r+2:=e
 subst e'
 dsimp only
 rw[if_neg (by omega)]
 refine kasC_bind (kasC_get ?_)
 rw[show(pendingOf (kas_st κ it p')).back?=none from rfl]
 dsimp only
 refine kasC_bind (kasC_modify (kasC_pure ?_))
 show kasC _ _ _ (forIn (1::List.range' 2 r) _ _) _ _ _
 refine kasC_cons ?_
 dsimp only
 rw[if_pos (É _)]
 refine kasC_pure ?_
 dsimp only
 refine kasC_bind (kasC_range ?_)
 show kasC _ _ _ (forIn (0::1::List.range' 2 r) _ _) _ _ _
 refine kasC_cons ?_
 refine kasC_bind (kasC_get ?_)
 rw[if_pos (show(pendingOf (setPending (kas_st κ it p') ((pendingOf (kas_st κ it p')).push (0,r+2,0)))).size<=1 from É 1)]
 refine kasC_pure ?_
 dsimp only
 exact kasC_pure (hG p' _ _ hps rfl rfl hg)
def Srt(ts:List Tie):Prop:=ts.length<64\/ts.length=300/\∀i j,i<=j->j<ts.length->aH (ts.getD i (0,0))<=aH (ts.getD j (0,0))
def Srt.lt{ts:List Tie}:Srt ts->ts.length<512
 |.inl h=>by omega
 |.inr h=>by omega
def EY{a:Addr}{us:List Value}{ts:List Tie}{n:Nat}{P:PySem.Fin->Shared->Prop}(ho:s.heap.get? a=some (seqObj "list" us.toArray n))(hp:Paired (jV s.heap) us ts)(hn:∀t∈ts,pC t)(h64:Srt ts)(h:∀p:List Nat,p.Perm (Û us.length)->(∀i j,i<=j->j<us.length->aH (ts.getD (p.getD i 0) (0,0))<=aH (ts.getD (p.getD j 0) (0,0))) ->
   P (.done (.ret .none)) { s with heap:=sortedHeap s.heap a us (p.map λi=>us.getD i đ).toArray }) :
  wpAny (model prog w) A (Builtin.«list.sort» ⟨[.ref a],[]⟩) P E s:=by
 have hlen:=hp.length
 have hbig:=h64.lt
 have h24:=é
 rw[list_sort_plain]
 have ha:a<s.heap.objs.size:=Î ho
 refine Å (listItems_at ho rfl ?_)
 refine Å (ŵ ho rfl ?_ (by rw[Ñ,é];omega) (ô _))
 obtain⟨e1,ho1⟩:∃e1,(s.heap.update a (à λ_=>(#[]:Array Value))).get? a=some (seqObj "list" #[] e1):=⟨_,get?_update_seq ho (λ_=>#[])⟩
 refine Å (seqEpoch_at ho1 rfl ?_)
 refine Å (wpAny_newTuple ?_ (by show us.length<=_;rw[é];omega))
 refine Å (wpAny_newList ?_ (ô _))
 refine ņ ?_
 have ho6:(((s.heap.update a (à λ_=>(#[]:Array Value))).push (seqObj "tuple" us.toArray 0)).push (seqObj "list" #[] 0)).get? a=some (seqObj "list" #[] e1):=by
  rw[Đ _ _ _ (by rw[size_push',ď];exact á (Ă ha)),Đ _ _ _ (by rw[ď];exact á ha)]
  exact ho1
 have kept:∀b o,s.heap.get? b=some o->o.cls=.type "tuple"->(((s.heap.update a (à λ_=>(#[]:Array Value))).push (seqObj "tuple" us.toArray 0)).push (seqObj "list" #[] 0)).get? b=some o:=λb o q hc=>by
  have hlt:b<s.heap.objs.size:=Î q
  have hne:b≠a:=λz=>by
   rw[z,ho] at q
   cases q
   have z2:(Ď "list")=Ď "tuple":=hc
   injection z2 with z3
   exact absurd z3 (by decide)
  rw[Đ _ _ _ (by rw[size_push',ď];exact á (Ă hlt)),Đ _ _ _ (by rw[ď];exact á hlt),Heap.get?_update_ne _ _ _ _ hne]
  exact q
 show wpAny (model prog w) A _ P E { s with heap:=((s.heap.update a (à λ_=>(#[]:Array Value))).push (seqObj "tuple" us.toArray 0)).push (seqObj "list" #[] 0) }
 dsimp only
 have hsz:us.toArray.size=us.length:=by simp
 have hp6:Paired (jV (((s.heap.update a (à λ_=>(#[]:Array Value))).push (seqObj "tuple" us.toArray 0)).push (seqObj "list" #[] 0))) us ts:=Paired.Ba hp λu t x=>x.keep kept
 by_cases h2:us.toArray.size<2
 ·rw[if_pos h2,if_pos h2]
  refine Å (Ô ?_)
  rw[StateT.run_pure]
  refine Å (Ô ?_)
  dsimp only
  have eout:(arrOf (SortSt.mk' general' (us.toArray.zip us.toArray) #[] 7 none)).map (·.2)=((Û us.length).map λi=>us.getD i đ).toArray:=by
   rw[dI]
   show(us.toArray.zip us.toArray).map (·.2)=us.toArray
   apply Array.toList_inj.mp
   simp
   exact Qw us
  rw[eout]
  refine Å (seqEpoch_at ho6 rfl ?_)
  refine Å (ŵ ho6 rfl ?_ (ô _) (by rw[Ñ,Á,Ō,é];omega))
  simp only[bne_self_eq_false,ģ,if_false]
  refine Ô (h _ (List.Perm.refl _) λi j hij hj=>?_)
  have:i=j:=by omega
  subst this
  exact ć _
 ·rw[if_neg h2,if_neg h2]
  have h2':2<=us.length:=by omega
  obtain⟨fs,hk,hfl,hfi⟩:=JQ (s:={ s with heap:=((s.heap.update a (à λ_=>(#[]:Array Value))).push (seqObj "tuple" us.toArray 0)).push (seqObj "list" #[] 0) }) hp6
  refine Å (W.kat_kind (T:=.type "int") hk (by omega) (λv hv=>by obtain⟨i,t,rfl⟩:=hfi v hv;exact W.Looks.of_pure rfl) rfl ?_)
  have hcmp:∀i j C,i<us.length->j<us.length->C (decide (aH (ts.getD i (0,0))<aH (ts.getD j (0,0)))) { s with heap:=((s.heap.update a (à λ_=>(#[]:Array Value))).push (seqObj "tuple" us.toArray 0)).push (seqObj "list" #[] 0) } ->
    W.kas_cmp prog w A (tuples' true) (us.toArray.zip us.toArray) i j C { s with heap:=((s.heap.update a (à λ_=>(#[]:Array Value))).push (seqObj "tuple" us.toArray 0)).push (seqObj "list" #[] 0) }:=λi j C hi hj hC=>by
   unfold W.kas_cmp
   rw[W.kat_item rfl,W.kat_item rfl]
   have key:∀k,k<us.length->jV (((s.heap.update a (à λ_=>(#[]:Array Value))).push (seqObj "tuple" us.toArray 0)).push (seqObj "list" #[] 0)) (us.getD k đ) (ts.getD k (0,0))/\pC (ts.getD k (0,0)):=λk hk=>by
    have hk':k<ts.length:=by omega
    have ek:ts.getD k (0,0)=ts[k]:=by simp[hk']
    obtain⟨u,eu,pu⟩:=QM hp6 (i:=k) (b:=ts[k]) (by simp[hk'])
    have eu':us.getD k đ=u:=by rw[Ê,eu];rfl
    rw[ek,eu']
    exact⟨pu,hn _ (Ħ hk')⟩
   exact Jw (key i hi).1 (key j hj).1 (key i hi).2 (key j hj).2 hC
  have G:W.kasC (model prog w) A E sortRuns' (λ_ st' s'=>∃p:Array Nat,s'={ s with heap:=((s.heap.update a (à λ_=>(#[]:Array Value))).push (seqObj "tuple" us.toArray 0)).push (seqObj "list" #[] 0) }/\arrOf st'=p.map (W.kas_item (us.toArray.zip us.toArray))/\failedOf st'=none/\NfSort.Pm us.length p/\NfSort.Up (λi=>aH (ts.getD i (0,0))) p us.length) (W.kas_st (tuples' true) (us.toArray.zip us.toArray) (ĵ (Û us.length))) { s with heap:=((s.heap.update a (à λ_=>(#[]:Array Value))).push (seqObj "tuple" us.toArray 0)).push (seqObj "list" #[] 0) }:=by
   rcases h64 with h64|⟨h64,hs⟩
   ·exact W.kas_runs (G:=λp s'=>s'={ s with heap:=((s.heap.update a (à λ_=>(#[]:Array Value))).push (seqObj "tuple" us.toArray 0)).push (seqObj "list" #[] 0) }/\NfSort.Pm us.length p/\NfSort.Up (λi=>aH (ts.getD i (0,0))) p us.length) h2' (by omega) (λp' st' s' a1 a2 a3 a4=>⟨p',a4.1,a2,a3,a4.2⟩)
     (NfSort.ql hcmp (NfSort.bH (λp hp=>⟨rfl,hp⟩) (NfSort.Cz (by omega))))
   ·have hu:NfSort.Up (λi=>aH (ts.getD i (0,0))) (ĵ (Û us.length)) us.length:=λi j hij hj=>by
     unfold NfSort.kk
     have eg:∀k,k<us.length->(ĵ (Û us.length)).getD k 0=k:=λk hk=>by simp[Array.getD,hk]
     rw[eg i (by omega),eg j hj]
     exact hs i j hij (by omega)
    exact Lq (G:=λp s'=>s'={ s with heap:=((s.heap.update a (à λ_=>(#[]:Array Value))).push (seqObj "tuple" us.toArray 0)).push (seqObj "list" #[] 0) }/\NfSort.Pm us.length p/\NfSort.Up (λi=>aH (ts.getD i (0,0))) p us.length) h2' (by rw[hlen,h64];decide +kernel) (λp' st' s' a1 a2 a3 a4=>⟨p',a4.1,a2,a3,a4.2⟩)
     (NfSort.ql (G:=λr s'=>r.1=us.length/\s'={ s with heap:=((s.heap.update a (à λ_=>(#[]:Array Value))).push (seqObj "tuple" us.toArray 0)).push (seqObj "list" #[] 0) }/\NfSort.Pm us.length r.2/\NfSort.Up (λi=>aH (ts.getD i (0,0))) r.2 us.length) hcmp (NfSort.bH (λr ⟨e1,e2⟩=>⟨e1,rfl,by rw[e2];exact⟨Array.Perm.refl _,hu⟩⟩) (Tg (Array.Perm.refl _) (by omega) hu)))
  have est:SortSt.mk' (tuples' true) (us.toArray.zip us.toArray) #[] 7 none=W.kas_st (tuples' true) (us.toArray.zip us.toArray) (ĵ (Û us.length)):=by
   have e:=W.kas_range (us.toArray.zip us.toArray)
   rw[show(us.toArray.zip us.toArray).size=us.length by simp] at e
   show SortSt.mk' (tuples' true) (us.toArray.zip us.toArray) #[] 7 none=SortSt.mk' (tuples' true) ((ĵ (Û us.length)).map (W.kas_item (us.toArray.zip us.toArray))) #[] 7 none
   rw[e]
  have eT:tuples' (Ď "int" != Ď "tuple")=tuples' true:=rfl
  rw[eT,est]
  refine Å (į G ?_ λ_ _ e=>e)
  rintro⟨⟨⟩,st'⟩ s' ⟨p,rfl,har,hf,hpm,hup⟩
  dsimp only
  have hout:=W.kat_snds (ks:=us) (vs:=us) rfl har
  rw[hout]
  have hsz2:p.size=us.length:=hpm.size
  refine Å (seqEpoch_at ho6 rfl ?_)
  refine Å (ŵ ho6 rfl ?_ (ô _) (by rw[Ñ,Á,Ī,hsz2,é];omega))
  rw[hf]
  simp only[bne_self_eq_false,ģ,if_false]
  refine Ô (h p.toList ?_ λi j hij hj=>?_)
  ·have:=Array.perm_iff_toList_perm.mp hpm
   simpa using this
  ·have q:=hup i j hij hj
   unfold NfSort.kk at q
   have eg:∀k,p.toList.getD k 0=p.getD k 0:=λk=>by
    rw[NfSort.getD_eq,Ê]
    simp
   rw[eg,eg]
   exact q
def jR{l:Addr}{vs:List Value}{Q:List Value->Shared->Prop}(hl:IsTup s.heap l vs.toArray)(h:Q vs { s with heap:=(s.heap.push (seqObj "list" #[] 0)).update s.heap.objs.size (à (·++vs.toArray)) })(hsz:vs.length<=sizeLine) :
  wpAny (model prog w) A (collect (.ref l)) Q E s:=by
 obtain⟨o,ho,hc,n,hd⟩:=id hl
 unfold collect
 refine Å (wpAny_runValue (ŷ entry_proto_collect' ?_))
 show wpAny _ _ (do again (.builtin "list.__iadd__" ⟨[←newList [],.ref l],[]⟩)) _ _ s
 refine Å (wpAny_newList (Ô ⟨Code.quiet_builtin _ (by decide +kernel),ŷ entry_list_iadd' ?_⟩))
 show wpAny _ _ (ŕ (.ref s.heap.objs.size) (.ref l) (.ref s.heap.objs.size)) _ _ { s with heap:=s.heap.push (seqObj "list" #[] 0) }
 unfold ŕ
 have ho':(s.heap.push (seqObj "list" #[] 0)).get? l=some o:=Ï _ ho
 refine Å (wpAny_typeOf (T:="tuple") ⟨o,ho',hc⟩ ?_)
 have ht:(Ď "tuple" == Ď "tuple")=true:=by rfl
 rw[if_pos (by rw[ht];simp)]
 refine Å (listItems_at ho' hd ?_)
 refine Å (listItems_at (xs:=#[]) (n:=0) (ß _ rfl) rfl ?_)
 rw[if_neg (by simp)]
 refine Å (ŵ (xs:=#[]) (n:=0) (ß _ rfl) rfl ?_ (ô _) (by show(#[]++vs.toArray).size<=sizeLine+1;simp only[Array.size_append,Ñ,List.length_nil];omega))
 refine Ô ?_
 show wpAny (model prog w) A (do
   let o ←load s.heap.objs.size
   match o.data with
   |.seq xs _=>pure xs.toList
   |_=>unsupported "internal:collect") Q E { s with heap:=(s.heap.push (seqObj "list" #[] 0)).update s.heap.objs.size (à (·++vs.toArray)) }
 refine Å (wpAny_load (get?_update_seq (ß _ rfl) _) ?_)
 show wpAny _ _ (pure ((#[]:Array Value)++vs.toArray).toList) Q E _
 rw[show((#[]:Array Value)++vs.toArray).toList=vs by simp]
 exact Ô h
def uY{l:Addr}{us:List Value}{ts:List Tie}{Q:Value->Shared->Prop}(hl:s.heap.IsList l us.toArray\/IsTup s.heap l us.toArray)(hp:Paired (jV s.heap) us ts)(hn:∀t∈ts,pC t)(h64:Srt ts)(h:∀p:List Nat,p.Perm (Û us.length)->(∀i j,i<=j->j<us.length->aH (ts.getD (p.getD i 0) (0,0))<=aH (ts.getD (p.getD j 0) (0,0))) ->
   Q (.ref (s.heap.objs.size+1)) { s with heap:=sortedAll s.heap us (p.map λi=>us.getD i đ).toArray }) :
  wpAny (model prog w) A (call (.builtin "sorted") [.ref l]) Q E s:=by
 have h24:=é
 have hlen:=hp.length
 have hbig:=h64.lt
 refine Calls.call_function_entry kind_sorted plain_sorted entry_sorted (args_sorted1 _) ?_
 unfold Builtin.«sorted»
 refine Å (m:=checkCount "sorted" 1 1 _) (Ô ?_)
 have hsz:((s.heap.push (seqObj "list" #[] 0)).update s.heap.objs.size (à (·++us.toArray))).objs.size=s.heap.objs.size+1:=by
  rw[ď,size_push']
 have hoL:(((s.heap.push (seqObj "list" #[] 0)).update s.heap.objs.size (à (·++us.toArray))).push (seqObj "list" us.toArray 0)).get? (s.heap.objs.size+1)=some (seqObj "list" us.toArray 0):=by
  rw[←hsz];exact ß _ rfl
 have keep:∀b o,s.heap.get? b=some o->(((s.heap.push (seqObj "list" #[] 0)).update s.heap.objs.size (à (·++us.toArray))).push (seqObj "list" us.toArray 0)).get? b=some o:=λb o q=>by
  have hlt:b<s.heap.objs.size:=Î q
  rw[Đ _ _ _ (by rw[hsz];exact á (Ă hlt)),Heap.get?_update_ne _ _ _ _ (á hlt),Đ _ _ _ (á hlt)]
  exact q
 have go:∀{Q':List Value->Shared->Prop},Q' us { s with heap:=(s.heap.push (seqObj "list" #[] 0)).update s.heap.objs.size (à (·++us.toArray)) }->wpAny (model prog w) A.in1 (collect (.ref l)) Q' (λe s'=>E e s') s:=λ{Q'} hq=>by
  rcases hl with hl|hl
  ·exact collect_list hl hq (by omega)
  ·exact jR hl hq (by omega)
 refine Å (go ?_)
 refine Å (wpAny_newList ?_ (by omega))
 show wpAny _ _ _ _ _ { s with heap:=((s.heap.push (seqObj "list" #[] 0)).update s.heap.objs.size (à (·++us.toArray))).push (seqObj "list" us.toArray 0) }
 rw[hsz]
 refine Å (ņ (wpAny_call_entry slot_list_sort ⟨_,hoL,rfl⟩ entry_list_sort (EY hoL (Paired.Ba hp λu t x=>x.keep λa o e _=>keep a o e) hn h64 λp a1 a2=>⟨_,rfl,?_⟩) (args_list_sort _)))
 exact Ô ⟨_,rfl,h p a1 a2⟩
end
section
variable {X:Cx}
def xU{ts:List Tie}{p:List Nat}(hp:p.Perm (Û ts.length))(h:∀i j,i<=j->j<ts.length->aH (ts.getD (p.getD i 0) (0,0))<=aH (ts.getD (p.getD j 0) (0,0))) :
  (p.map λi=>ts.getD i (0,0)).Perm ts/\(p.map λi=>ts.getD i (0,0)).Pairwise (λa b=>aH a<=aH b):=by
 refine⟨?_,?_⟩
 ·have q:=hp.map λi=>ts.getD i (0,0)
  rw[dI] at q
  exact q
 ·have hl:p.length=ts.length:=by simpa using hp.length_eq
  rw[List.pairwise_iff_getElem]
  intro i j hi hj hij
  rw[Á] at hi hj
  have q:=h i j (by omega) (by omega)
  have ei:p.getD i 0=p[i]:=by simp[hi]
  have ej:p.getD j 0=p[j]:=by simp[hj]
  rw[ei,ej] at q
  simpa using q
def wZ:bJ X (.builtin "sorted") (λxs H Q=>∃(p:Addr) (vs:List V) (ts:List Tie),xs=[.ref p]/\(SqL X.K H p vs\/SqT X.K H p vs)/\Prs H vs ts/\(∀t∈ts,pC t)/\Srt ts /\
  ∀l ws us,H l=none->Prs H ws us->us.Perm ts->us.Pairwise (λa b=>aH a<=aH b)->Q (.ref l) (upd H l (.lst ws))):=by
 intro pins s σ H xs us Q I r h
 obtain⟨p,vs,ts,rfl,hp,hpr,hn,h64,q⟩:=h
 obtain⟨u,rfl,rx⟩:=vals1 r
 cases rx
 have h24:=é
 have fin:∀its:List Value,Vals vs its->(s.heap.IsList p its.toArray\/IsTup s.heap p its.toArray)->wpAny (model X.prog X.w) X.A (call (.builtin "sorted") [.ref p]) (EP X pins σ Q) X.xe s:=λits rv hl=>by
  have hpv:=I.pairs hpr rv
  have hlen:=hpr.length
  have hlen2:=rv.length
  have hbig:=h64.lt
  refine uY hl hpv hn h64 λpp hpp hord=>?_
  have eits:its.length=ts.length:=by omega
  rw[eits] at hpp hord
  obtain⟨hperm,hpw⟩:=xU hpp hord
  have hlt:∀i∈pp,i<ts.length:=λi hi=>ċ.mp (hpp.mem_iff.mp hi)
  have hw:=yj hpr V.non (0,0) pp hlt
  have hvv:Vals (pp.map λi=>vs.getD i V.non) (pp.map λi=>its.getD i đ):=yj rv V.non đ pp λi hi=>by have:=hlt i hi;omega
  obtain⟨e,he⟩:=sortedAll_at s.heap its (pp.map λi=>its.getD i đ).toArray
  refine⟨.ref (s.heap.objs.size+1),upd H (s.heap.objs.size+1) (.lst (pp.map λi=>vs.getD i V.non)),I.laid (t':=s.toks) (λb o eb=>sortedAll_old eb) (ĸ _) ?_,rfl,q _ _ _ (I.hok.fresh (ĸ _)) hw hperm hpw⟩
  refine⟨?_,_,e,hvv,he⟩
  have hl3:pp.length=ts.length:=by simpa using hpp.length_eq
  rw[Á]
  omega
 rcases hp with hp|hp
 ·obtain⟨its,rv,pl,hz⟩:=I.list hp
  exact fin its rv (.inl pl.isList)
 ·obtain⟨its,rv,pl,hz⟩:=I.tuple hp
  exact fin its rv (.inr pl)
def pD(t:Tie):PyData:=.tuple [.int t.1,.int t.2]
def JL:∀ts:List Tie,ĩ (ts.map pD)=true
 |[]=>rfl
 |t::ts=>by
  show(PyData.canLay0 (pD t)&&ĩ (ts.map pD))=true
  rw[JL ts]
  rfl
def zm:∀ts:List Tie,ī (ts.map pD)<=1
 |[]=>ô _
 |t::ts=>by
  show max (PyData.depth (pD t)) (ī (ts.map pD))<=1
  have h1:=zm ts
  have h2:PyData.depth (pD t)=1:=rfl
  omega
def Kg:∀ts us:List Tie,PyData.eqvAll (ts.map pD) (us.map pD)=decide (ts=us)
 |[],[]=>rfl
 |[],_::_=>rfl
 |_::_,[]=>rfl
 |t::ts,u::us=>by
  show(ý (pD t) (pD u)&&PyData.eqvAll (ts.map pD) (us.map pD))=_
  rw[Kg ts us]
  have e:ý (pD t) (pD u)=decide (t=u):=by
   show((t.1 == u.1)&&((t.2 == u.2)&&true))=_
   rw[Bool.and_true,ě]
   simp[Prod.ext_iff]
  rw[e,ě]
  simp
inductive DatV(K:Ú)(H:Hp):V->PyData->Prop
 |lst {a:Addr}{vs:List V}{ts:List Tie}:SqL K H a vs->Prs H vs ts->DatV K H (.ref a) (.list (ts.map pD))
 |tup {a:Addr}{vs:List V}{ts:List Tie}:SqT K H a vs->Prs H vs ts->DatV K H (.ref a) (.tuple (ts.map pD))
 |web {a b:Addr}{n:Int}{vs:List V}{ts:List Tie}:SqT K H a [.int n,.ref b]->SqT K H b vs->Prs H vs ts->DatV K H (.ref a) (.tuple [.int n,.tuple (ts.map pD)])
def Oq(ts us:List Tie):ý (.list (ts.map pD)) (.list (us.map pD))=decide (ts=us):=Kg ts us
end
end L2
namespace L2
open PySem PySem.Spec PyProof.Rows HT
section
variable {prog:Program}{w:World}{A:Around}{E:Value->Shared->Prop}{s:Shared}
end
section
variable {X:Cx}{e:Expr}{te:TE}{p1 p2 p3 pos:Pos}
end
end L2
namespace PySem
open Sem (wp)
open AutoSeq1 (wpAny_loadPart')
section
variable {prog:Program}{w:World}{A:Around}{E:Value->Shared->Prop}{s:Shared}
end
end PySem
namespace L2
open PySem PySem.Spec PyProof.Rows
section
variable {κ:Type} [DecidableEq κ]
def jg(kvs:List (κ×V))(k:κ):Option V:=(kvs.find? λkv=>decide (kv.1=k)).map (·.2)
def putK(kvs:List (κ×V))(k:κ)(v:V):List (κ×V) :=
 if (kvs.any λkv=>decide (kv.1=k))=true then kvs.map (λkv=>if kv.1=k then (kv.1,v) else kv) else kvs++[(k,v)]
def qG{p:κ×V}{r:List (κ×V)}{k:κ}(e:p.1=k):jg (p::r) k=some p.2:=by simp[jg,Ŋ,e]
def qH{p:κ×V}{r:List (κ×V)}{k:κ}(e:¬p.1=k):jg (p::r) k=jg r k:=by simp[jg,Ŋ,e]
def lY(k:κ):∀kvs:List (κ×V),(kvs.any λkv=>decide (kv.1=k))=(jg kvs k).isSome
 |[]=>rfl
 |p::r=>by
  rw[List.any_cons]
  by_cases e:p.1=k
  ·simp only[qG e,decide_eq_true e,Bool.true_or,Option.isSome_some]
  ·rw[qH e,decide_eq_false e,Bool.false_or];exact lY k r
def jG(kvs:List (κ×V))(k:κ)(v:V):(putK kvs k v).length<=kvs.length+1:=by
 unfold putK
 split
 ·rw[Á];omega
 ·rw[Æ,Ù,List.length_nil];omega
def sG.Gi{o:Option V}{u:Option Value}(r:sG o u):o.isSome=u.isSome:=by
 cases o with
 |none=>cases u with
  |none=>rfl
  |some _=>exact(show False from r).elim
 |some _=>cases u with
  |none=>exact(show False from r).elim
  |some _=>rfl
def KV.val{kvs:List (κ×V)}{vs:List (κ×Value)}(r:KV kvs vs)(k:κ):sG (jg kvs k) (valueAt vs k):=by
 unfold KV at r
 induction r with
 |nil=>exact ŏ
 |@cons p q ps qs h t ih =>
  obtain⟨h1,h2⟩:=h
  by_cases e:p.1=k
  ·have e':q.1=k:=h1.symm.trans e
   have b:valueAt (q::qs) k=some q.2:=by simp[valueAt,Ŋ,e']
   rw[qG e,b];exact h2
  ·have e':¬q.1=k:=λz=>e (h1.trans z)
   have b:valueAt (q::qs) k=valueAt qs k:=by simp[valueAt,Ŋ,e']
   rw[qH e,b];exact ih
def KV.any{kvs:List (κ×V)}{vs:List (κ×Value)}(r:KV kvs vs)(k:κ):(kvs.any λkv=>decide (kv.1=k))=vs.any λkv=>decide (kv.1=k):=by
 unfold KV at r
 induction r with
 |nil=>rfl
 |cons h t ih=>rw[List.any_cons,List.any_cons,ih,h.1]
def KV.repl{kvs:List (κ×V)}{vs:List (κ×Value)}(r:KV kvs vs)(k:κ){y:V}{u:Value}(ry:RelV y u) :
  KV (kvs.map λkv=>if kv.1=k then (kv.1,y) else kv) (vs.map λkv=>if kv.1=k then (kv.1,u) else kv):=by
 unfold KV at r ⊢
 induction r with
 |nil=>exact .nil
 |@cons p q ps qs h t ih =>
  rw[ã,ã]
  refine .cons ?_ ih
  obtain⟨h1,h2⟩:=h
  by_cases e:p.1=k
  ·rw[if_pos e,if_pos (h1.symm.trans e)];exact⟨h1,ry⟩
  ·rw[if_neg e,if_neg (λz=>e (h1.trans z))];exact⟨h1,h2⟩
def KV.put{kvs:List (κ×V)}{vs:List (κ×Value)}(r:KV kvs vs)(k:κ){y:V}{u:Value}(ry:RelV y u):KV (putK kvs k y) (stored vs k u):=by
 unfold putK stored
 rw[r.any k]
 by_cases e:(vs.any λkv=>decide (kv.1=k))=true
 ·rw[if_pos e,if_pos e];exact r.repl k ry
 ·rw[if_neg e,if_neg e];exact Paired.snoc r ⟨rfl,ry⟩
def KV.length{kvs:List (κ×V)}{vs:List (κ×Value)}(r:KV kvs vs):kvs.length=vs.length:=Paired.length r
end
def Dz{P:Program}{w:World}{k:Key}{u:Value}(r:RelV (kV k) u):(bC P w).is k u=true:=by
 cases k with
 |inl i=>obtain⟨t,e⟩:=(show ∃t,u=Ĝ i t from r);subst e;exact yI P w i t
 |inr x=>obtain⟨t,e⟩:=(show ∃t,u=Value.str x t from r);subst e;exact yH P w x t
def uo{P:Program}{w:World}:∀{ks:List Key}{us:List Value},Vals (ks.map kV) us->ItemsAre (bC P w) ks us
 |[],_,r=>by rw[List.map_nil] at r;cases r;exact .nil
 |k::ks,_,r=>by
  rw[ã] at r
  cases r with
  |cons h t=>exact .cons (Dz h) (uo t)
abbrev KT(H:Hp):List (List Key×V)->List (List Key×Addr×Value)->Prop:=Paired λp q=>p.1=q.1/\H q.2.1=some (.tup (p.1.map kV))/\RelV p.2 q.2.2
def KT.val{H:Hp}{kvs:List (List Key×V)}{xs:List (List Key×Addr×Value)}(r:KT H kvs xs)(k:List Key):sG (jg kvs k) ((atKey xs k).map (·.2)):=by
 induction r with
 |nil=>exact ŏ
 |@cons p q ps qs h t ih =>
  obtain⟨h1,_,h2⟩:=h
  by_cases e:p.1=k
  ·have e':q.1=k:=h1.symm.trans e
   have b:atKey (q::qs) k=some q.2:=by simp[atKey,Ŋ,e']
   rw[qG e,b];exact h2
  ·have e':¬q.1=k:=λz=>e (h1.trans z)
   have b:atKey (q::qs) k=atKey qs k:=by simp[atKey,Ŋ,e']
   rw[qH e,b];exact ih
def KT.repl{H:Hp}{kvs:List (List Key×V)}{xs:List (List Key×Addr×Value)}(r:KT H kvs xs)(k:List Key){y:V}{u:Value}(ry:RelV y u) :
  KT H (kvs.map λkv=>if kv.1=k then (kv.1,y) else kv) (xs.map (putAt k u)):=by
 induction r with
 |nil=>exact .nil
 |@cons p q ps qs h t ih =>
  rw[ã,ã]
  refine .cons ?_ ih
  obtain⟨h1,h2,h3⟩:=h
  unfold putAt
  by_cases e:p.1=k
  ·rw[if_pos e,if_pos (h1.symm.trans e)];exact⟨h1,h2,ry⟩
  ·rw[if_neg e,if_neg (λz=>e (h1.trans z))];exact⟨h1,h2,h3⟩
def KT.put{H:Hp}{kvs:List (List Key×V)}{xs:List (List Key×Addr×Value)}(r:KT H kvs xs)(k:List Key){b:Addr}{y:V}{u:Value}(hb:H b=some (.tup (k.map kV)))(ry:RelV y u) :
  KT H (putK kvs k y) (storedH xs k b u):=by
 have e:(kvs.any λkv=>decide (kv.1=k))=(atKey xs k).isSome:=by
  rw[lY,(r.val k).Gi,Option.isSome_map]
 unfold putK storedH
 rw[e]
 by_cases q:(atKey xs k).isSome=true
 ·rw[if_pos q,if_pos q];exact r.repl k ry
 ·rw[if_neg q,if_neg q];exact Paired.snoc r ⟨rfl,hb,ry⟩
def KT.keeps{H H':Hp}{kvs:List (List Key×V)}{xs:List (List Key×Addr×Value)}(r:KT H kvs xs)(ht:∀b ys,H b=some (.tup ys)->H' b=some (.tup ys)):KT H' kvs xs :=
 Paired.Ba r λ_ _ z=>⟨z.1,ht _ _ z.2.1,z.2.2⟩
section
variable {P:Program}{w:World}{H:Hp}{h:Heap}{a:Addr}
def Oz{u:HO}(ok:HOk P w H h)(e:Rd H a u):aX P w H h a u:=e.ok ok
def Kr{kvs:List (Key×V)}(ok:HOk P w H h)(e:Rd H a (.dK kvs)):kvs.length<=sizeLine/\(a == sysModules)=false/\∃vs,KV kvs vs/\h.DictOf (bC P w) a vs :=
 show aX P w H h a (.dK kvs) from Oz ok e
def Ks{kvs:List (Key×V)}(ok:HOk P w H h)(e:H a=some (.dK kvs)):kvs.length<=sizeLine/\(a == sysModules)=false/\∃vs,KV kvs vs/\h.DictOf (bC P w) a vs:=Kr ok (.inl e)
def wF{ks:List Key}(ok:HOk P w H h)(e:H a=some (.tup (ks.map kV))):(tupleKind (bC P w)).is h ks a:=by
 obtain⟨_,its,r,o,h1,h2,n,h3⟩:=(show aX P w H h a (.tup (ks.map kV)) from ok a _ e)
 exact⟨o,its.toArray,n,h1,h2,h3,by simpa using uo r⟩
def Km{kvs:List (List Key×V)}(ok:HOk P w H h)(e:Rd H a (.dT kvs)):kvs.length<=sizeLine/\(a == sysModules)=false /\
  ∃xs,KT H kvs xs/\h.DictOfH (tupleKind (bC P w)) a xs:=by
 obtain⟨z,y,xs,r,o,es,ep,h1,h2,h3,h4,h5⟩:=(show aX P w H h a (.dT kvs) from Oz ok e)
 refine⟨z,y,xs,r,o,es,ep,h1,h2,h3,h4,λx hx=>?_,h5⟩
 have all:∀{l:List (List Key×V)}{m:List (List Key×Addr×Value)},KT H l m->∀x∈m,(tupleKind (bC P w)).is h x.1 x.2.1:=by
  intro l m q
  induction q with
  |nil=>intro x hx;exact nomatch hx
  |@cons p q ps qs hq t ih =>
   intro x hx
   rcases Ó.mp hx with e|hx
   ·subst e
    exact wF ok (by rw[←hq.1];exact hq.2.1)
   ·exact ih x hx
 exact all r x hx
def Ko{kvs:List (List Key×V)}(ok:HOk P w H h)(e:H a=some (.dT kvs)):kvs.length<=sizeLine/\(a == sysModules)=false /\
  ∃xs,KT H kvs xs/\h.DictOfH (tupleKind (bC P w)) a xs:=Km ok (.inl e)
end
def sJ(H:Hp)(a:Addr)(y:V)(r:Option V):Prop :=
 (∃kvs k,Rd H a (.dK kvs)/\y=kV k/\r=jg kvs k)\/∃kvs k b,Rd H a (.dT kvs)/\y=.ref b/\H b=some (.tup (k.map kV))/\r=jg kvs k
def zR(H:Hp)(a:Addr)(y v:V)(H':Hp):Prop :=
 (∃kvs k,H a=some (.dK kvs)/\y=kV k/\kvs.length<sizeLine/\H'=upd H a (.dK (putK kvs k v))) ∨
 ∃kvs k b,H a=some (.dT kvs)/\y=.ref b/\H b=some (.tup (k.map kV))/\kvs.length<sizeLine/\H'=upd H a (.dT (putK kvs k v))
def sJ.k{H:Hp}{a:Addr}{kvs:List (Key×V)}{k:Key}(e:H a=some (.dK kvs)):sJ H a (kV k) (jg kvs k):=.inl ⟨kvs,k,.inl e,rfl,rfl⟩
def zR.k{H:Hp}{a:Addr}{kvs:List (Key×V)}{k:Key}{v:V}(e:H a=some (.dK kvs))(hl:kvs.length<sizeLine):zR H a (kV k) v (upd H a (.dK (putK kvs k v))):=.inl ⟨kvs,k,e,rfl,hl,rfl⟩
section
variable {X:Cx}{pins:List (Addr×Obj)}{σ:St}{H:Hp}{s:Shared}{a:Addr}{y v:V}{u r:Value}{o:Option V}{A:Around}{E:Value->Shared->Prop}
def Inv.big(I:Inv X pins σ H s):sysModules<s.heap.objs.size:=by
 have h:mainGlobals<s.heap.objs.size:=(I.mod.glob.keeps I.bk).lt
 exact Nat.lt_trans (by decide) h
def Gw{Q:Value->Shared->Prop}(hu:A.units+1<cLine)(I:Inv X pins σ H s)(g:sJ H a y (some v))(ry:RelV y u)(h:∀w' s',Inv X pins σ H s'->RelV v w'->Q w' s') :
  wpAny (model X.prog X.w) A (getItem (.ref a) u) Q E s:=by
 rcases g with ⟨kvs,k,e,ey,l⟩|⟨kvs,k,b,e,ey,eb,l⟩
 ·subst ey
  obtain⟨z,hd,vs,rel,dd⟩:=Kr I.hok e
  obtain⟨w',hw,rw'⟩:=sG.some_of (v:=v) (o:=valueAt vs k) (by rw[l];exact rel.val k)
  exact wpAny_getItem_of (Dz ry) dd.mapOf hw (h w' _ (I.tok _) rw')
 ·subst ey
  cases (show u=ğ b from ry)
  obtain⟨z,hd,xs,rel,dd⟩:=Km I.hok e
  obtain⟨w',hw,rw'⟩:=sG.some_of (v:=v) (o:=(atKey xs k).map (·.2)) (by rw[l];exact rel.val k)
  obtain⟨p,hp,hp2⟩:=Option.map_eq_some_iff.mp hw
  refine wpAny_getItem_heap (tupleKind_room_in1 hu) (wF I.hok eb) dd hp ?_
  rw[hp2]
  exact h w' _ (I.tok _) rw'
def qC{h':Heap}{t':Nat}{ob:HO}(I:Inv X pins σ H s)(mu:Mut (H a))(hs:Heap.SameBut a s.heap h')(he:∃q,h'.get? a=some q)(new:aX X.prog X.w (upd H a ob) h' a ob) :
  Inv X pins σ (upd H a ob) { s with heap:=h',toks:=t' } :=
 I.write (x:=a) (e:=a) mu (.inl rfl) (λb q hb z=>(hs.2 b hb).trans z) he new
def Ku{P:Program}{w:World}{H':Hp}{h':Heap}{kvs:List (Key×V)}{vs:List (Key×Value)}(z:kvs.length<=sizeLine)(hd:(a == sysModules)=false)(rel:KV kvs vs)(dd:h'.DictOf (bC P w) a vs) :
  aX P w H' h' a (.dK kvs):=⟨z,hd,vs,rel,dd⟩
def Gv{H':Hp}{Q:Unit->Shared->Prop}(hu:A.units+1<cLine)(I:Inv X pins σ H s)(g:zR H a y v H')(ry:RelV y u)(rv:RelV v r)(h:∀s',Inv X pins σ H' s'->Q () s') :
  wpAny (model X.prog X.w) A (setItem (.ref a) u r) Q E s:=by
 rcases g with ⟨kvs,k,e,ey,l,eH⟩|⟨kvs,k,b,e,ey,eb,l,eH⟩
 ·subst ey eH
  obtain⟨z,hd,vs,rel,dd⟩:=Ks I.hok e
  have hz:vs.length<=sizeLine:=by rw[←rel.length];exact z
  have hl:(putK kvs k v).length<=sizeLine:=by have:=jG kvs k v;omega
  refine wpAny_setItem_pairs (hsz:=hz) (Dz ry) dd λh' dd' hs=>h _ ?_
  have he:∃q,h'.get? a=some q:=let ⟨q,_,_,hq,_⟩:=dd';⟨q,hq⟩
  exact qC I (by rw[e];exact ŏ) hs he (Ku hl hd (rel.put k rv) dd')
 ·subst ey eH
  cases (show u=ğ b from ry)
  obtain⟨z,hd,xs,rel,dd⟩:=Ko I.hok e
  have hz:xs.length<=sizeLine:=by rw[←Paired.length rel];exact z
  have hl:(putK kvs k v).length<=sizeLine:=by have:=jG kvs k v;omega
  refine wpAny_setItem_heap (hsz:=hz) (tupleKind_room_in1 hu) (wF I.hok eb) dd λh' dd' hs=>h _ ?_
  obtain⟨q,es,ep,hq,h2,h3,h4,_,h5⟩:=dd'
  refine qC I (by rw[e];exact ŏ) hs ⟨q,hq⟩ ⟨hl,hd,_,(rel.put k eb rv).keeps λc ys ec=>?_,q,es,ep,hq,h2,h3,h4,h5⟩
  rw[aq (Pa ec e (λz=>nomatch z))]
  exact ec
end
section
variable {X:Cx}{pins:List (Addr×Obj)}{σ:St}{H:Hp}{s:Shared}{a:Addr}{kvs:List (Key×V)}{k:Key}{u:Value}{A:Around}{E:Value->Shared->Prop}
end
def V3(i:Expr):Prop:=∀ov iv,subscripted i false ov iv=operate [ov,iv] (getItem ov iv)
def Lk{prog:Program}{w:World}{A:Around}{E:Value->Shared->Prop}{s:Shared}{env:Env}{value slice:Expr}{pos:Pos}{T id:String}{Q:Value->Shared->Prop}(hl:typeLookup (.type T) "__getitem__"=pure (some (.builtin id)))(hs:V3 slice)(h:wpAny (model prog w) A (eval value env) (λo s₁=>wpAny (model prog w) A (eval slice env) (λi s₂=>s₂.TypeIs o T/\wpAny (model prog w) A (getItem o i) Q E s₂) E s₁) E s) :
  wpAny (model prog w) A (eval (.Subscript value slice pos) env) Q E s:=by
 refine Subscript_ (į h (λo s₁ h₁=>į h₁ (λi s₂ h₂=>?_) λ_ _ x=>x) λ_ _ x=>x)
 obtain⟨hT,h₂⟩:=h₂
 unfold subscriptTail
 refine Å ?_
 rw[getitemInPython_of_ne hT.not_modules]
 refine Å (wpAny_specialOf hT hl ?_)
 have fin:wpAny (model prog w) A (subscripted slice false o i) (λr s₃=>wpAny (model prog w) A (letTemporaryGo value o r >>= λ_=>pure r) Q E s₃) E s₂:=by
  rw[hs o i]
  exact wpAny_operating (į h₂ (λr s₃ h₃=>Å (wpAny_letTemporaryGo (Ô h₃))) λ_ _ x=>x)
 first
  |exact Ô (Å fin)
  |exact Å (Ô (Å fin))
  |exact Å fin
def zj{X:Cx}{pins:List (Addr×Obj)}{σ:St}{H:Hp}{s:Shared}{a:Addr}{y:V}{o:Option V}(I:Inv X pins σ H s)(g:sJ H a y o):s.TypeIs (.ref a) "dict":=by
 rcases g with ⟨kvs,k,e,_,_⟩|⟨kvs,k,b,e,_,_,_⟩
 ·obtain⟨_,_,vs,_,dd⟩:=Kr I.hok e
  exact dd.typeIs
 ·obtain⟨_,_,xs,_,dd⟩:=Km I.hok e
  exact dd.typeIs
def TV(td ty:TE):TE:=λσ H Q=>td σ H λx H1=>ty σ H1 λy H2=>∃a v,x=.ref a/\sJ H2 a y (some v)/\Q v H2
def Ug(td ty tv:TE):TS:=λD σ H=>tv σ H λv H1=>td σ H1 λx H2=>ty σ H2 λy H3=>∃a H4,x=.ref a/\zR H3 a y v H4/\D.nx σ H4
section
variable {X:Cx}{o i e value:Expr}{pos pos' tpos:Pos}{td ty tv:TE}
def iG(hu:X.A.units+1<cLine)(ho:PE X o td)(hi:PE X i ty)(hs:V3 i):PE X (.Subscript o i pos) (TV td ty):=by
 intro pins s σ H Q I h
 refine Lk PySem.F.slot_dict_getitem.lookup hs (thn (ho pins s σ H _ I h) λu s1 ⟨x,H1,I1,rx,q1⟩=>thn (hi pins s1 σ H1 _ I1 q1) λiv s2 ⟨y,H2,I2,ry,a,v,ex,g,q2⟩=>?_)
 subst ex
 obtain rfl:u=ğ a:=rx
 exact⟨zj I2 g,Gw hu I2 g ry λw' s3 I3 rw'=>⟨v,H2,I3,rw',q2⟩⟩
def vh(hu:X.A.units+1<cLine)(ho:PE X o td)(hi:PE X i ty)(hv:PE X value tv)(hs:swapsWith value (some (.Subscript o i pos')) pos.line X.env=pure false) :
  PS X (.Assign [.Subscript o i pos'] value pos) (Ug td ty tv):=by
 intro pins s σ H D I h
 refine wpAny_Assign_Subscript (thn (hv pins s σ H _ I h) λr s1 ⟨v,H1,I1,rv,q1⟩=>thn (ho pins s1 σ H1 _ I1 q1) λu s2 ⟨x,H2,I2,rx,q2⟩=>thn (hi pins s2 σ H2 _ I2 q2) λiv s3 ⟨y,H3,I3,ry,a,H4,ex,g,q3⟩=>?_) hs
 subst ex
 obtain rfl:u=ğ a:=rx
 exact Gv hu I3 g ry rv λs4 I4=>⟨σ,H4,I4,q3⟩
end
def yZ{P:Program}{w:World}{H:Hp}(h:Heap)(hb:sysModules<h.objs.size):aX P w H (h.push { cls:=.type "dict",data:=.dict #[] }) h.objs.size (.dK []) :=
 ⟨ô _,beq_eq_false_iff_ne.mpr (ġ (á hb)),[],.nil,Heap.DictOf.new h⟩
def Kq{P:Program}{w:World}{H:Hp}(h:Heap)(hb:sysModules<h.objs.size):aX P w H (h.push { cls:=.type "dict",data:=.dict #[] }) h.objs.size (.dT []) :=
 ⟨ô _,beq_eq_false_iff_ne.mpr (ġ (á hb)),[],.nil,_,#[],0,ß _ rfl,⟨rfl,rfl,rfl⟩,rfl,rfl,List.nodup_nil⟩
def Qv:TE:=λ_ H Q=>∀p,H p=none->Q (.ref p) (upd H p (.dK []))
section
variable {X:Cx}{pos:Pos}
def Ip:PE X (.Dict [] [] pos) Qv:=λpins s σ H Q I h =>
 wpAny_Dict_empty ⟨.ref s.heap.objs.size,_,I.laid (a:=s.heap.objs.size) (o:=.dK []) (t':=s.toks) (λ_ _ q=>Ï _ q) (É _) (yZ s.heap I.big),rfl,h _ (I.hok.fresh (É _))⟩
end
def uT:List (TE×TE)->St->Hp->(List (V×V)->Hp->Prop)->Prop
 |[],_,H,Q=>Q [] H
 |(tk,tv)::r,σ,H,Q=>tk σ H λx H1=>tv σ H1 λy H2=>uT r σ H2 λps H3=>Q ((x,y)::ps) H3
abbrev VV:List (V×V)->List (Value×Value)->Prop:=Paired λp q=>RelV p.1 q.1/\RelV p.2 q.2
def PPs(X:Cx)(pos:Pos)(keys:List (Option Expr))(values:List Expr)(trs:List (TE×TE)):Prop :=
 ∀(pins:List (Addr×Obj)) (s:Shared) (σ:St) (H:Hp) (Q:List (V×V)->Hp->Prop),Inv X pins σ H s->uT trs σ H Q ->
  wpAny (model X.prog X.w) X.A (evalPairs (pairTrees keys values X.env pos)) (λvs s'=>∃ps H',Inv X pins σ H' s'/\VV ps vs/\Q ps H') X.xe s
def vm{X:Cx}{pos:Pos}:PPs X pos [] [] []:=λpins s σ H Q I h=>pairTrees_nil_walk ⟨[],H,I,.nil,h⟩
def jt{X:Cx}{pos:Pos}{k v:Expr}{ks:List (Option Expr)}{vs:List Expr}{tk tv:TE}{trs:List (TE×TE)}(hk:PE X k tk)(hv:PE X v tv)(hr:PPs X pos ks vs trs) :
  PPs X pos (some k::ks) (v::vs) ((tk,tv)::trs):=λpins s σ H Q I h =>
 pairTrees_cons_walk (thn (hk pins s σ H _ I h) λu s1 ⟨x,H1,I1,rx,q1⟩=>thn (hv pins s1 σ H1 _ I1 q1) λw2 s2 ⟨y,H2,I2,ry,q2⟩ =>
  thn (hr pins s2 σ H2 _ I2 q2) λws s3 ⟨ps,H3,I3,rel,q3⟩=>⟨(x,y)::ps,H3,I3,.cons ⟨rx,ry⟩ rel,q3⟩)
def lR(kvs more:List (Key×V)):List (Key×V):=more.foldl (λacc kv=>putK acc kv.1 kv.2) kvs
def KV.merge:∀{more:List (Key×V)}{rs:List (Key×Value)}{kvs:List (Key×V)}{vs:List (Key×Value)},KV more rs->KV kvs vs->KV (lR kvs more) (merged vs rs):=by
 intro more rs kvs vs r
 unfold KV at r
 induction r generalizing kvs vs with
 |nil=>intro q;exact q
 |@cons p q ps qs h t ih =>
  intro r0
  have e:KV (putK kvs p.1 p.2) (stored vs q.1 q.2):=by
   have:=r0.put p.1 h.2
   rw[←h.1];exact this
  exact ih e
def kZ:∀(more kvs:List (Key×V)),(lR kvs more).length<=kvs.length+more.length
 |[],kvs=>by show kvs.length<=kvs.length+0;omega
 |p::r,kvs=>by
  have h1:=kZ r (putK kvs p.1 p.2)
  have h2:=jG kvs p.1 p.2
  show(lR (putK kvs p.1 p.2) r).length<=_
  rw[Ù];omega
def sy{P:Program}{w:World}:∀{kvs:List (Key×V)}{ws:List (Value×Value)},VV (kvs.map λkv=>(kV kv.1,kv.2)) ws->∃rs,Carries (bC P w) ws rs/\KV kvs rs
 |[],_,r=>by rw[List.map_nil] at r;cases r;exact⟨[],ŏ,.nil⟩
 |p::kvs,_,r=>by
  rw[ã] at r
  cases r with
  |@cons a b as bs h t =>
   obtain⟨rs,c,q⟩:=sy (P:=P) (w:=w) t
   obtain⟨b1,b2⟩:=b
   exact⟨(p.1,b2)::rs,⟨Dz h.1,rfl,c⟩,.cons ⟨rfl,h.2⟩ q⟩
def TQ(trs:List (TE×TE)):TE:=λσ H Q=>∀p,H p=none->uT trs σ (upd H p (.dK [])) λps H2=>H2 p=some (.dK [])/\∃kvs:List (Key×V),ps=kvs.map (λkv=>(kV kv.1,kv.2))/\kvs.length<=15/\Q (.ref p) (upd H2 p (.dK (lR [] kvs)))
def Dm{X:Cx}{pos:Pos}{keys:List (Option Expr)}{values:List Expr}{trs:List (TE×TE)}(h:PPs X pos keys values trs)(hall:keys.all (·.isSome)=true)(hl:keys.length=values.length)(h0:keys≠[])(h15:keys.length<=15):PE X (.Dict keys values pos) (TQ trs):=by
 intro pins s σ H Q I q
 have hn:=I.hok.fresh (É s.heap.objs.size)
 have I1:=I.laid (a:=s.heap.objs.size) (o:=.dK []) (h':=s.heap.push { cls:=.type "dict",data:=.dict #[] }) (t':=s.toks) (λ_ _ q=>Ï _ q) (É _) (yZ s.heap I.big)
 refine wpAny_Dict_walk (knd:=bC X.prog X.w) hall hl h0 h15 (thn (h pins _ σ _ _ I1 (q _ hn)) λws s2 ⟨ps,H2,I2,rel,e,kvs,ep,lk,q2⟩=>?_)
 subst ep
 obtain⟨rs,c,rk⟩:=sy (P:=X.prog) (w:=X.w) rel
 obtain⟨z,hd,vs0,r0,dd⟩:=Ks I2.hok e
 cases r0
 refine⟨rs,c,dd,λh' dd' hs=>⟨.ref s.heap.objs.size,_,?_,rfl,q2⟩⟩
 have hz:(lR [] kvs).length<=sizeLine:=by
  have h1:=kZ kvs []
  rw[List.length_nil] at h1
  rw[é];omega
 have he:∃q,h'.get? s.heap.objs.size=some q:=let ⟨q,_,_,hq,_⟩:=dd';⟨q,hq⟩
 exact qC I2 (by rw[e];exact ŏ) hs he (Ku hz hd (rk.merge .nil) dd')
structure M1(X:Cx)(o:Expr)(m:Str)(apos:Pos)(e:Expr)(cpos:Pos):Prop where
 base:attributeBase o m X.env (eval o X.env)=eval o X.env
 few:((backTo cpos (starEach [e] X.env)).all (λx=>!x.1)&&(backToKw cpos (keywordEach [] X.env)).all (λx=>x.1.isSome)
 &&decide (([e]:List Expr).length+([]:List Keyword).length+(if ([]:List Keyword).isEmpty then 0 else 1)<30))=true
 line:(apos.endLine == cpos.line)=true
 trees:backTo cpos (starEach [e] X.env)=[(false,eval e X.env)]
structure M2(X:Cx)(o:Expr)(m:Str)(apos:Pos)(e f:Expr)(cpos:Pos):Prop where
 base:attributeBase o m X.env (eval o X.env)=eval o X.env
 few:((backTo cpos (starEach [e,f] X.env)).all (λx=>!x.1)&&(backToKw cpos (keywordEach [] X.env)).all (λx=>x.1.isSome)
 &&decide (([e,f]:List Expr).length+([]:List Keyword).length+(if ([]:List Keyword).isEmpty then 0 else 1)<30))=true
 line:(apos.endLine == cpos.line)=true
 trees:backTo cpos (starEach [e,f] X.env)=[(false,eval e X.env),(false,eval f X.env)]
section
variable {X:Cx}{pins:List (Addr×Obj)}{σ:St}{H:Hp}{s:Shared}{a:Addr}{y d:V}{u r:Value}{o:Option V}{A:Around}{E:Value->Shared->Prop}
end
section
variable {X:Cx}{o e f:Expr}{apos cpos:Pos}{td ty tx:TE}
end
section
variable {X:Cx}{pins:List (Addr×Obj)}{σ:St}{H:Hp}{s:Shared}{a:Addr}{kvs:List (Key×V)}{A:Around}{E:Value->Shared->Prop}
end
section
variable {X:Cx}{pins:List (Addr×Obj)}{σ:St}{H:Hp}{s:Shared}{a:Addr}{y:V}{u:Value}{A:Around}{E:Value->Shared->Prop}
end
section
variable {prog:Program}{w:World}{A:Around}{E:Value->Shared->Prop}{s:Shared}
end
section
variable {X:Cx}
def w6:bJ X (.builtin "sorted") (λxs H Q=>∃(p:Addr) (ns:List Int),xs=[.ref p]/\SqL X.K H p (ns.map V.int)/\ns.length<64 /\
  ∀(l:Addr) (out:List Int),H l=none->out.Perm ns->out.Pairwise (·<=·)->Q (.ref l) (upd H l (.lst (out.map V.int)))):=by
 intro pins s σ H xs us Q I r h
 obtain⟨p,ns,rfl,hp,h64,q⟩:=h
 obtain⟨u,rfl,rx⟩:=vals1 r
 cases rx
 obtain⟨its,rv,pl,hz⟩:=I.list hp
 have hI:IntsAre its ns:=intsAre_of rv
 have hl:=rv.length
 rw[Á] at hl
 refine sorted_ints (vs:=its) (ns:=ns) pl.isList hI (by omega) λout ns' a1 a2 a3=>?_
 obtain⟨e,he⟩:=sortedAll_at s.heap its out
 have hv:=n6 a1
 have hlo:=hv.length
 rw[Á] at hlo
 have hpl:=a2.length_eq
 have h24:=é
 refine⟨.ref (s.heap.objs.size+1),upd H (s.heap.objs.size+1) (.lst (ns'.map V.int)),I.laid (t':=s.toks) (λb o eb=>sortedAll_old eb) (ĸ _) ⟨?_,out.toList,e,hv,by simpa using he⟩,rfl,q _ _ (I.hok.fresh (ĸ _)) a2 a3⟩
 rw[Á]
 omega
end
section
variable {X:Cx}
def iD(l:List Int):PyData:=.list (l.map Ã)
inductive DatL(K:Ú)(H:Hp):V->PyData->Prop
 |flt {a:Addr}{l:List Int}:SqL K H a (l.map V.int)->DatL K H (.ref a) (iD l)
 |lists {a:Addr}{as:List Addr}{ls:List (List Int)}:SqL K H a (as.map V.ref)->Paired (λ(a:Addr) (l:List Int)=>SqL K H a (l.map V.int)) as ls->DatL K H (.ref a) (.list (ls.map iD))
end
end L2
namespace PySem
open PyProof.Rows
def W8(h:Heap)(e:Addr):Prop:=∃oe vs,h.get? e=some oe/\oe.data=.fields vs/\vs[2]?=some .none
section
variable {M:Model}{A:Around}{E:Value->Shared->Prop}{s:Shared}{base:Heap}{env:Env}{outer:List Env}{L e:Addr}{Q:Unit->Shared->Prop}
end
end PySem
namespace L2
open PySem PySem.Spec PyProof.Rows
def W9(base:Heap)(l:List Env)(e:Addr)(cls a0:Value)(h:Heap):Prop:=base.StaysIn h/\base.get? e=none/\h.FunFrames base l/\h.TracedW base e cls a0/\W8 h e
def CX1(P:Program)(w:World):CXT:=λouter H s E e s'=>∃(a:Addr) (cls a0:Value) (H1:Hp) (hb:Heap),e=.ref a/\s'.os=s.os/\AllBare s'.gens/\Un (frs outer) [] H H1 s.heap s'.heap/\HOk P w H1 hb/\W9 hb outer a cls a0 s'.heap /\
 (∀b o,s.heap.get? b=some o->H b=none->b∉frs outer->hb.get? b=some o)/\(∀b o,s.heap.get? b=some o->b∉frs outer->∃o',hb.get? b=some o')/\E cls none H1
structure Lets(X:Cx)(E:XK):Prop where
 xe:∀e s',wpAny (model X.prog X.w) X.A (leaving X.env e) (λ_ s''=>CX1 X.prog X.w X.outer X.H₀ X.s₀ E e s'') (λe' s''=>CX1 X.prog X.w X.outer X.H₀ X.s₀ E e' s'') s'->X.xe e s'
 stk:X.stack=X.env::X.outer
 fr:X.env.frame=some X.env.locals
 ex:X.ex=[]
section
variable {X:Cx}{pins:List (Addr×Obj)}{σ:St}{H H1:Hp}{s:Shared}{E:XK}
end
structure ExcCls(K:Ú)(C:Addr)(newId:String)(bmB:List Value):Prop where
 ex:∃(nm q:Str) (N:Addr) (bs bm:List Value) (hdct:Bool) (sn:List Str) (sub:List Value) (ab:Bool) (col:Option Bool) (dd:Option Addr) (k0 k1 k2 k3 k5:Option Value),
  K.lookup C=some (excClassObj nm q C N bs bm hdct sn sub ab col dd k0 k1 k2 k3 k5 newId)/\W.tailIn K bmB bm=true/\W.nsOkIn K N=true/\W.nsIn K N "__init__"=some none/\bm.contains (.type "BaseException")=true
section
variable {X:Cx}{E:XK}{x:Str}{C:Addr}{newId Bn initId:String}{bmB:List Value}{e:Expr}{es:List Expr}{t:TA}{np cpos pos:Pos}
end
section
variable {X:Cx}{pins:List (Addr×Obj)}{σ:St}{H:Hp}{s:Shared}{ev:Value}
def Inv.track{a:Addr}{o:HO}(I:Inv X pins σ H s)(hn:H a=none)(h0:∀ob,X.s₀.heap.get? a≠some ob)(hL:a≠X.env.locals)(hC:∀x c,X.env.cells.lookup x=some c->c≠a)(hp:∀p∈X.pn++pins,p.1≠a)(new:aX X.prog X.w (upd H a o) s.heap a o):Inv X pins σ (upd H a o) s:=by
 refine⟨I.ok,I.os,I.bare,⟨I.base.keep,I.base.slot,λb ob e n hx=>?_,I.base.there,λb xs e=>?_,λb ob u e=>?_,λb ps e=>?_⟩,I.loc,I.cell,?_,λx c e=>?_,λp q=>?_,I.hok.track hn new,I.len⟩
 ·rw[aq (show b≠a from λz=>h0 ob (by rw[←z];exact e))]
  exact I.base.free b ob e n hx
 ·have q:=I.base.tups b xs e
  rw[aq (aD q hn)]
  exact q
 ·have q:=I.base.frzs b ob u e
  rw[aq (aD q hn)]
  exact q
 ·obtain⟨m,q⟩:=I.base.tbls b ps e
  exact⟨m,by rw[aq (aD q hn)];exact q⟩
 ·rw[aq (ġ hL)]
  exact I.free
 ·rw[aq (hC x c e)]
  exact I.freeC x c e
 ·obtain⟨q1,q2,q3⟩:=I.pin p q
  exact⟨q1,by rw[aq (hp p q)];exact q2,q3⟩
end
section
variable {X:Cx}{k:Nat}{f CF:Addr}{fd:FuncData}{ps:List Str}{sp:Sp}{E:XK}{x hx n:Str}{p np cpos epos hpos pos:Pos}{e:Expr}{es:List Expr}{t:TA}{b₀:Stmt}{suite:List Stmt}{ts:TS}{j:Nat}
end
end L2
namespace L2
open PySem PySem.W PySem.Spec PyProof.Rows
structure ExcK(K:Ú)(C:Addr):Prop where
 ex:∃(nm q:Str) (N AF:Addr) (bs bmB:List Value) (hdct:Bool) (sn:List Str) (sub:List Value) (ab:Bool) (col:Option Bool) (dd ddF:Option Addr) (k0 k1 k2 k3 k5:Option Value) (newId B:String) (c0:Value) (cd:ClassData) (slF:Array (Option Value)),
  K.lookup C=some (excClassObj nm q C N bs (.ref AF::bmB) hdct sn sub ab col dd k0 k1 k2 k3 k5 newId)/\K.lookup AF=some ⟨c0,ddF,.cls cd,slF⟩/\nsOkIn K cd.ns=true/\(∀n∈quietNames,nsIn K cd.ns n=some none)/\ExcAttrBase B bmB
 ga:findIn K (.ref C) "__getattribute__"=some (some (.builtin "BaseException.__getattribute__"))
 hook:findIn K (.ref C) "__getattr__"=some none
 cls:findIn K (.ref C) "__class__"=some (some (.builtin "object.__class__"))
 mro:mroIn K C (.type "object")=some true
section
variable {prog:Program}{w:World}{K:Ú}{a C:Addr}{A:Around}{E:Value->Shared->Prop}{s:Shared}
end
section
variable {X:Cx}
def OD:R2:=λx y H Q=>∃a b xs ys,x=.ref a/\y=.ref b/\H a=some (.tup xs)/\H b=some (.tup ys)/\xs.length+ys.length<=sizeLine/\∀c H',(∀d u,H d=some u->H' d=some u)->H' c=some (.tup (xs++ys))->Q (.ref c) H'
def Mu:OpR X (binaryOp .Add) OD:=by
 intro pins s σ H x y v u Q I rx ry h
 obtain⟨a,b,xs,ys,rfl,rfl,ha,hb,hz,q⟩:=h
 cases rx
 cases ry
 obtain⟨its,r1,p1,_⟩:=I.tuple (SqT.of ha)
 obtain⟨its2,r2,p2,_⟩:=I.tuple (SqT.of hb)
 by_cases hx:xs=[]
 ·subst hx
  cases r1
  obtain⟨m,F⟩:=I.fr
  refine add_tuples (vs:=[]) F Ju p1 p2 (λ_=>⟨.ref b,H,I,rfl,q b H (λ_ _ z=>z) (by simpa using hb)⟩) (λz=>absurd rfl z) (λz=>absurd rfl z) (by rw[←r2.length];simpa using hz)
 ·refine Mt pins s σ H (.ref a) (.ref b) (.ref a) (.ref b) Q I rfl rfl ⟨a,b,xs,ys,rfl,rfl,SqT.of ha,SqT.of hb,hx,hz,λe=>?_,λ_ p hp=>?_⟩
  ·subst e
   exact q a H (λ_ _ z=>z) (by rw[ø];exact ha)
  ·exact q p _ (λd u z=>by rw[aq (aD z hp)];exact z) au
end
section
variable {K:Ú}{C c:Addr}{dd:Option Addr}{cd:ClassData}{sl:Array (Option Value)}
end
end L2
namespace Dl
open PySem L2 PyProof.Rows
abbrev D:=PyData
def kD:Key->D
 |.inl i=>.int i
 |.inr x=>.str x
mutual
inductive Rp(ok:Addr->Prop)(H:Hp):V->D->Prop
 |non:Rp ok H .non .none
 |bl (b:Bool):Rp ok H (.bl b) (.bool b)
 |int (i:Int):Rp ok H (.int i) (.int i)
 |str (x:Str):Rp ok H (.str x) (.str x)
 |lst {a:Addr}{vs:List V}{ds:List D} (o:ok a) (h:H a=some (.lst vs)) (r:Rps ok H vs ds):Rp ok H (.ref a) (.list ds)
 |tup {a:Addr}{vs:List V}{ds:List D} (h:H a=some (.tup vs)) (r:Rps ok H vs ds):Rp ok H (.ref a) (.tuple ds)
 |dct {a:Addr}{kvs:List (Key×V)}{ds:List (D×D)} (o:ok a) (h:H a=some (.dK kvs)) (r:Rkv ok H kvs ds):Rp ok H (.ref a) (.dict ds)
 |dcT {a:Addr} (o:ok a) (h:H a=some (.dT [([Ņ 0,Ņ 1],.bl true)])):Rp ok H (.ref a) (.dict [(.tuple [.int 0,.int 1],.bool true)])
inductive Rps(ok:Addr->Prop)(H:Hp):List V->List D->Prop
 |nil:Rps ok H [] []
 |cons {v:V}{d:D}{vs:List V}{ds:List D} (h:Rp ok H v d) (t:Rps ok H vs ds):Rps ok H (v::vs) (d::ds)
inductive Rkv(ok:Addr->Prop)(H:Hp):List (Key×V)->List (D×D)->Prop
 |nil:Rkv ok H [] []
 |cons {k:Key}{v:V}{d:D}{vs:List (Key×V)}{ds:List (D×D)} (h:Rp ok H v d) (t:Rkv ok H vs ds):Rkv ok H ((k,v)::vs) ((kD k,d)::ds)
end
section
variable {ok ok':Addr->Prop}{H H':Hp}
mutual
def Rp.mono(f:∀a,ok a->ok' a)(g:∀a o,ok a->H a=some o->H' a=some o)(t:∀a xs,H a=some (.tup xs)->H' a=some (.tup xs)):∀{v:V}{d:D},Rp ok H v d->Rp ok' H' v d
 |_,_,.non=>.non
 |_,_,.bl b=>.bl b
 |_,_,.int i=>.int i
 |_,_,.str x=>.str x
 |_,_,.lst o h r=>.lst (f _ o) (g _ _ o h) (Rps.mono f g t r)
 |_,_,.tup h r=>.tup (t _ _ h) (Rps.mono f g t r)
 |_,_,.dct o h r=>.dct (f _ o) (g _ _ o h) (Rkv.mono f g t r)
 |_,_,.dcT o h=>.dcT (f _ o) (g _ _ o h)
def Rps.mono(f:∀a,ok a->ok' a)(g:∀a o,ok a->H a=some o->H' a=some o)(t:∀a xs,H a=some (.tup xs)->H' a=some (.tup xs)):∀{v:List V}{d:List D},Rps ok H v d->Rps ok' H' v d
 |_,_,.nil=>.nil
 |_,_,.cons h r=>.cons (Rp.mono f g t h) (Rps.mono f g t r)
def Rkv.mono(f:∀a,ok a->ok' a)(g:∀a o,ok a->H a=some o->H' a=some o)(t:∀a xs,H a=some (.tup xs)->H' a=some (.tup xs)):∀{v:List (Key×V)}{d:List (D×D)},Rkv ok H v d->Rkv ok' H' v d
 |_,_,.nil=>.nil
 |_,_,.cons h r=>.cons (Rp.mono f g t h) (Rkv.mono f g t r)
end
def Rps.length:∀{vs:List V}{ds:List D},Rps ok H vs ds->vs.length=ds.length
 |_,_,.nil=>rfl
 |_,_,.cons _ t=>by rw[Ù,Ù,Rps.length t]
def Rps.getD:∀{vs:List V}{ds:List D}{i:Nat}{d:D},Rps ok H vs ds->ds[i]?=some d->∃v,vs[i]?=some v/\Rp ok H v d
 |_,_,i,v,.nil,e=>by simp at e
 |_,_,0,v,.cons h t,e=>by simp at e;subst e;exact⟨_,rfl,h⟩
 |_,_,i+1,v,.cons h t,e=>by
  obtain⟨d,a,b⟩:=Rps.getD (i:=i) (d:=v) t (by simpa using e)
  exact⟨d,by simpa using a,b⟩
def Rps.app:∀{vs ws:List V}{ds es:List D},Rps ok H vs ds->Rps ok H ws es->Rps ok H (vs++ws) (ds++es)
 |_,_,_,_,.nil,s=>s
 |_,_,_,_,.cons h t,s=>.cons h (Rps.app t s)
def Rps.snoc{vs:List V}{ds:List D}{v:V}{d:D}(h:Rps ok H vs ds)(r:Rp ok H v d):Rps ok H (vs++[v]) (ds++[d]):=h.app (.cons r .nil)
def Rps.take:∀{vs:List V}{ds:List D} (n:Nat),Rps ok H vs ds->Rps ok H (vs.take n) (ds.take n)
 |_,_,0,_=>by simp;exact .nil
 |_,_,_+1,.nil=>by simp;exact .nil
 |_,_,n+1,.cons r t=>.cons r (Rps.take n t)
def Rps.drop:∀{vs:List V}{ds:List D} (n:Nat),Rps ok H vs ds->Rps ok H (vs.drop n) (ds.drop n)
 |_,_,0,r=>r
 |_,_,_+1,.nil=>by simp;exact .nil
 |_,_,n+1,.cons _ t=>Rps.drop n t
def Rps.ofMap{α:Type}{f:α->V}{g:α->D}(h:∀x,Rp ok H (f x) (g x)):∀l:List α,Rps ok H (l.map f) (l.map g)
 |[]=>.nil
 |x::l=>.cons (h x) (Rps.ofMap h l)
def Rp.int'{v:V}{i:Int}(r:Rp ok H v (.int i)):v=.int i:=by cases r;rfl
def Rp.bl'{v:V}{i:Bool}(r:Rp ok H v (.bool i)):v=.bl i:=by cases r;rfl
def Rp.str'{v:V}{i:Str}(r:Rp ok H v (.str i)):v=.str i:=by cases r;rfl
def Rp.cN{v:V}{ds:List D}(r:Rp ok H v (.list ds)):∃a vs,v=.ref a/\ok a/\H a=some (.lst vs)/\Rps ok H vs ds:=by
 cases r with
 |lst o h r=>exact⟨_,_,rfl,o,h,r⟩
def Rp.eN{v:V}{ds:List D}(r:Rp ok H v (.tuple ds)):∃a vs,v=.ref a/\H a=some (.tup vs)/\Rps ok H vs ds:=by
 cases r with
 |tup h r=>exact⟨_,_,rfl,h,r⟩
def Rps.ints:∀{vs:List V}{ns:List Int},Rps ok H vs (ns.map Ã)->vs=ns.map V.int
 |[],[],_=>rfl
 |_,n::ns,.cons h t=>by
  have e:=h.int'
  subst e
  rw[Rps.ints t]
  rfl
def Rps.two{vs:List V}{d e:D}(r:Rps ok H vs [d,e]):∃v w,vs=[v,w]/\Rp ok H v d/\Rp ok H w e:=by
 cases r with
 |cons h t =>
  cases t with
  |cons h2 t2 =>
   cases t2
   exact⟨_,_,rfl,h,h2⟩
end
mutual
def d8:D->Bool
 |.none=>true
 |.bool _=>true
 |.int _=>true
 |.str _=>true
 |.list _=>false
 |.tuple ds=>cJ ds
 |.dict _=>false
def cJ:List D->Bool
 |[]=>true
 |d::ds=>d8 d&&cJ ds
end
section
variable {ok:Addr->Prop}{H:Hp}
mutual
def Rp.imm:∀{v:V}{d:D},Rp ok H v d->d8 d=true->Rp (λ_=>False) H v d
 |_,_,.non,_=>.non
 |_,_,.bl b,_=>.bl b
 |_,_,.int i,_=>.int i
 |_,_,.str x,_=>.str x
 |_,_,.tup h r,e=>.tup h (Rps.imm r e)
def Rps.imm:∀{v:List V}{d:List D},Rps ok H v d->cJ d=true->Rps (λ_=>False) H v d
 |_,_,.nil,_=>.nil
 |_,_,.cons h r,e=>.cons (Rp.imm h (by simp only[cJ,Ë] at e;exact e.1)) (Rps.imm r (by simp only[cJ,Ë] at e;exact e.2))
end
end
def Fxd(o:HO):Prop:=∃x φ,o=.frz x (.ext φ)
structure Pn where
 fp:Addr->Prop
 PI:Hp->Prop
 pv:V
 mono:∀H H',PI H->(∀b o,(fp b\/Fxd o)->H b=some o->H' b=some o)->PI H'
 is:∀H b,PI H->fp b->∃o,H b=some o/\(∀xs,o≠.tup xs)/\¬Fxd o
class Gr where
 G:Pn->Hp->Prop
instance (priority:=low) grT:Gr:=⟨λ_ _=>True⟩
def fM:Pn:=⟨λ_=>False,λ_=>True,.non,λ_ _ _ _=>trivial,λ_ _ _ h=>h.elim⟩
def Kp(p:Pn)(H H':Hp):Prop:=∀b o,H b=some o->¬p.fp b->H' b=some o
def Kp.refl{p:Pn}{H:Hp}:Kp p H H:=λ_ _ h _=>h
def Kp.trans{p:Pn}{H H1 H2:Hp}(a:Kp p H H1)(b:Kp p H1 H2):Kp p H H2:=λc o h n=>b c o (a c o h n) n
def Kp.of{p:Pn}{H H':Hp}(s:Same H H'):Kp p H H':=λb o h _=>s b o h
inductive Sl where
 |any
 |im (d:D)
 |sh (d:D)
 |sn (d:D)
 |dw (r:Nat) (d:D)
 |pen (C:Pn->Prop)
 |rw (r:Nat) (L:List (List D))
 |tw (r:Nat) (L:List (List D))
 |scr (v:V) (b:Bool)
 |sp (r:Nat) (b:Bool) (ds:List D)
inductive Kd where
 |imm|new|reg (r:Nat)|n0|snw|shr|wk
 deriving DecidableEq
def Kd.le:Kd->Kd->Bool
 |.imm,_=>true
 |.new,.new=>true
 |.new,.n0=>true
 |.new,.snw=>true
 |.new,.shr=>true
 |.new,.wk=>true
 |.reg r,.reg q=>r == q
 |.reg _,.n0=>true
 |.reg _,.wk=>true
 |.snw,.snw=>true
 |.snw,.n0=>true
 |.snw,.shr=>true
 |.snw,.wk=>true
 |.n0,.n0=>true
 |.n0,.wk=>true
 |.shr,.shr=>true
 |.shr,.wk=>true
 |.wk,.wk=>true
 |_,_=>false
def Kd.join(a b:Kd):Kd:=if a.le b then b else if b.le a then a else if a.le .n0&&b.le .n0 then .n0 else if a.le .shr&&b.le .shr then .shr else .wk
def norm(k:Kd)(d:D):Kd:=match k with
 |.imm=>.imm
 |k=>if d8 d then .imm else k
def rD{k:Kd}{d:D}(h:d8 d=true):norm k d=.imm:=by
 cases k <;> first
  |rfl
  |exact if_pos h
def bR{k:Kd}{d:D}(h:¬d8 d=true):norm k d=k:=by
 cases k <;> first
  |rfl
  |exact if_neg h
def okK(p:Pn)(H0:Hp)(own:Addr->Option Nat)(Hb:Hp):Kd->Addr->Prop
 |.imm=>λ_=>False
 |.new=>λa=>Hb a=none
 |.reg r=>λa=>own a=some r
 |.n0=>λa=>H0 a=none/\¬p.fp a
 |.snw=>λa=>H0 a=none/\¬p.fp a/\own a=none
 |.shr=>λa=>¬p.fp a/\own a=none
 |.wk=>λa=>¬p.fp a
structure At(p:Pn)(H0:Hp)(own:Addr->Option Nat)(Hb H:Hp):Prop where
 k0:∀b o,H0 b=some o->¬p.fp b->Hb b=some o
 kp:Kp p Hb H
 penb:p.PI Hb
 pen:p.PI H
 ow:∀a r,own a=some r->H0 a=none/\¬p.fp a/\Hb a≠none
section
variable {p:Pn}{H0 Hb H H':Hp}{own:Addr->Option Nat}
def At.nfp(A:At p H0 own Hb H){a:Addr}(h:H a=none):¬p.fp a:=λz=>by
 obtain⟨o,e,_⟩:=p.is H a A.pen z
 rw[h] at e
 cases e
def At.free(A:At p H0 own Hb H){a:Addr}(h:H a=none):Hb a=none:=by
 have hn:=A.nfp h
 cases e:Hb a with
 |none=>rfl
 |some o=>rw[A.kp a o e hn] at h;cases h
def At.nfb(A:At p H0 own Hb H){a:Addr}(h:Hb a=none):¬p.fp a:=λz=>by
 obtain⟨o,e,_⟩:=p.is Hb a A.penb z
 rw[h] at e
 cases e
def At.I9(A:At p H0 own Hb H){a:Addr}(h:Hb a=none):own a=none:=by
 cases e:own a with
 |none=>rfl
 |some r=>exact absurd h (A.ow a r e).2.2
def At.h0(A:At p H0 own Hb H){a:Addr}(h:Hb a=none):H0 a=none:=by
 cases e:H0 a with
 |none=>rfl
 |some o=>rw[A.k0 a o e (A.nfb h)] at h;cases h
def bW(A:At p H0 own Hb H){j k:Kd}(h:j.le k=true){a:Addr}(o:okK p H0 own Hb j a):okK p H0 own Hb k a:=by
 cases j with
 |imm=>exact Ľ o
 |new =>
  cases k with
  |imm=>cases h
  |new=>exact o
  |reg r=>cases h
  |n0=>exact⟨A.h0 o,A.nfb o⟩
  |snw=>exact⟨A.h0 o,A.nfb o,A.I9 o⟩
  |shr=>exact⟨A.nfb o,A.I9 o⟩
  |wk=>exact A.nfb o
 |reg r =>
  cases k with
  |reg q =>
   have e:r=q:=by simpa[Kd.le] using h
   subst e
   exact o
  |n0=>exact⟨(A.ow a r o).1,(A.ow a r o).2.1⟩
  |wk=>exact(A.ow a r o).2.1
  |_=>cases h
 |n0 =>
  cases k with
  |n0=>exact o
  |wk=>exact o.2
  |_=>cases h
 |snw =>
  cases k with
  |snw=>exact o
  |n0=>exact⟨o.1,o.2.1⟩
  |shr=>exact o.2
  |wk=>exact o.2.1
  |_=>cases h
 |shr =>
  cases k with
  |shr=>exact o
  |wk=>exact o.1
  |_=>cases h
 |wk =>
  cases k with
  |wk=>exact o
  |_=>cases h
def ni(A:At p H0 own Hb H){k:Kd}{a:Addr}(o:okK p H0 own Hb k a):¬p.fp a:=by
 have:k.le .wk=true:=by cases k <;> rfl
 exact bW A this o
def kI(A:At p H0 own Hb H){j k:Kd}(h:j.le k=true){v:V}{d:D}{H2:Hp}(r:Rp (okK p H0 own Hb j) H2 v d):Rp (okK p H0 own Hb k) H2 v d :=
 r.mono (λa o=>bW A h o) (λ_ _ _ e=>e) λ_ _ e=>e
def eX(a b:Kd):a.le (a.join b)=true/\b.le (a.join b)=true:=by
 unfold Kd.join
 by_cases h:a.le b=true
 ·rw[if_pos h];exact⟨h,by cases b <;> simp[Kd.le]⟩
 ·rw[if_neg h]
  by_cases h2:b.le a=true
  ·rw[if_pos h2];exact⟨by cases a <;> simp[Kd.le],h2⟩
  ·rw[if_neg h2]
   by_cases h3:(a.le .n0&&b.le .n0)=true
   ·rw[if_pos h3];exact Ë _ _ ▸ h3
   ·rw[if_neg h3]
    by_cases h4:(a.le .shr&&b.le .shr)=true
    ·rw[if_pos h4];exact Ë _ _ ▸ h4
    ·rw[if_neg h4];exact⟨by cases a <;> rfl,by cases b <;> rfl⟩
def aR{k:Kd}{v:V}{d:D}{H2:Hp}(r:Rp (okK p H0 own Hb k) H2 v d):Rp (okK p H0 own Hb (norm k d)) H2 v d:=by
 by_cases h:d8 d=true
 ·rw[rD h];exact r.imm h
 ·rw[bR h];exact r
def lW(A:At p H0 own Hb H)(k:Kp p H H'):∀a xs,H a=some (.tup xs)->H' a=some (.tup xs):=λa xs h=>k a _ h λz=>by
 obtain⟨o,e,n⟩:=p.is H a A.pen z
 rw[h] at e
 exact n.1 xs (ç e).symm
def mH(A:At p H0 own Hb H)(k:Kp p H H'){j:Kd}{v:V}{d:D}(r:Rp (okK p H0 own Hb j) H v d):Rp (okK p H0 own Hb j) H' v d :=
 r.mono (λ_ o=>o) (λa o h e=>k a o e (ni A h)) (lW A k)
def cL(A:At p H0 own Hb H)(k:Kp p H H'){j:Kd}{v:List V}{d:List D}(r:Rps (okK p H0 own Hb j) H v d):Rps (okK p H0 own Hb j) H' v d :=
 r.mono (λ_ o=>o) (λa o h e=>k a o e (ni A h)) (lW A k)
def At.go(A:At p H0 own Hb H)(k:Kp p H H')(i:p.PI H'):At p H0 own Hb H':=⟨A.k0,A.kp.trans k,A.penb,i,A.ow⟩
def At.base{H1:Hp}(A:At p H0 own Hb H)(B:At p H0 own H H1):At p H0 own Hb H1:=⟨A.k0,A.kp.trans B.kp,A.penb,B.pen,A.ow⟩
def Jo(A:At p H0 own Hb H){k:Kd}{a:Addr}(o:okK p H0 own H k a):okK p H0 own Hb k a:=by
 cases k <;> first
  |exact o
  |exact A.free o
def mJ(A:At p H0 own Hb H){k:Kd}{v:V}{d:D}{H2:Hp}(r:Rp (okK p H0 own H k) H2 v d):Rp (okK p H0 own Hb k) H2 v d :=
 r.mono (λa o=>Jo A o) (λ_ _ _ e=>e) λ_ _ e=>e
def At.new(A:At p H0 own Hb H){a:Addr}(h:H a=none)(o:HO):Kp p H (upd H a o)/\p.PI (upd H a o)/\okK p H0 own Hb .new a :=
 have s:Same H (upd H a o):=λb u q=>by rw[aq (aD q h)];exact q
 ⟨Kp.of s,p.mono H _ A.pen λb u _ q=>s b u q,A.free h⟩
end
structure RowsH(own:Addr->Option Nat)(r:Nat)(H:Hp)(st:Addr)(as:List Addr)(L:List (List D)):Prop where
 top:H st=some (.lst (as.map V.ref))
 nd:(st::as).Nodup
 ow:∀a∈st::as,own a=some r
 len:as.length=L.length
 row:∀(j:Nat) (a:Addr) (ds:List D),as[j]?=some a->L[j]?=some ds->∃vs,H a=some (.lst vs)/\Rps (λ_=>False) H vs ds
def RowsH.mono{own own':Addr->Option Nat}{r:Nat}{H H':Hp}{st:Addr}{as:List Addr}{L:List (List D)}(h:RowsH own r H st as L)(g:∀a o,own a=some r->H a=some o->own' a=some r/\H' a=some o)(t:∀a xs,H a=some (.tup xs)->H' a=some (.tup xs)):RowsH own' r H' st as L:=by
 have live:∀a∈st::as,∃o,H a=some o:=λa ha=>by
  rcases Ó.mp ha with rfl|ha
  ·exact⟨_,h.top⟩
  ·obtain⟨j,hj⟩:=š ha
   have hl:=(Ö.mp hj).1
   obtain⟨vs,e,_⟩:=h.row j a _ hj (Ì (by rw[←h.len];exact hl))
   exact⟨_,e⟩
 refine⟨(g st _ (h.ow st À) h.top).2,h.nd,λa ha=>?_,h.len,λj a ds e1 e2=>?_⟩
 ·obtain⟨o,e⟩:=live a ha
  exact(g a o (h.ow a ha) e).1
 ·obtain⟨vs,e,r'⟩:=h.row j a ds e1 e2
  exact⟨vs,(g a _ (h.ow a (Ä _ (Ò e1))) e).2,r'.mono (λ_ o=>o) (λ_ _ o=>o.elim) t⟩
def oF{ok:Addr->Prop}{H:Hp}:∀(as:List Addr) (L:List (List D)),as.length=L.length->(∀a∈as,ok a)->(∀(j:Nat) (a:Addr) (ds:List D),as[j]?=some a->L[j]?=some ds->∃vs,H a=some (.lst vs)/\Rps (λ_=>False) H vs ds)->Rps ok H (as.map V.ref) (L.map ÿ)
 |[],[],_,_,_=>.nil
 |a::as,d::L,hl,h,r=>by
  obtain⟨vs,e,rs⟩:=r 0 a d rfl rfl
  exact .cons (.lst (h a À) e (rs.mono (λ_ o=>o.elim) (λ_ _ o=>o.elim) λ_ _ e=>e)) (oF as L (by simpa using hl) (λb hb=>h b (Ä _ hb)) λj b ds e1 e2=>r (j+1) b ds e1 e2)
 |[],_::_,hl,_,_=>by cases hl
 |_::_,[],hl,_,_=>by cases hl
def RowsH.rp{own:Addr->Option Nat}{r:Nat}{H:Hp}{st:Addr}{as:List Addr}{L:List (List D)}(h:RowsH own r H st as L):Rp (λa=>own a=some r) H (.ref st) (.list (L.map ÿ)) :=
 .lst (h.ow st À) h.top (oF as L h.len (λa ha=>h.ow a (Ä _ ha)) h.row)
structure RowsT(own:Addr->Option Nat)(r:Nat)(H:Hp)(st:Addr)(as:List Addr)(L:List (List D)):Prop where
 top:H st=some (.tup (as.map V.ref))
 nd:as.Nodup
 ow:∀a∈as,own a=some r
 len:as.length=L.length
 row:∀(j:Nat) (a:Addr) (ds:List D),as[j]?=some a->L[j]?=some ds->∃vs,H a=some (.lst vs)/\Rps (λ_=>False) H vs ds
def RowsT.mono{own own':Addr->Option Nat}{r:Nat}{H H':Hp}{st:Addr}{as:List Addr}{L:List (List D)}(h:RowsT own r H st as L)(g:∀a o,own a=some r->H a=some o->own' a=some r/\H' a=some o)(t:∀a xs,H a=some (.tup xs)->H' a=some (.tup xs)):RowsT own' r H' st as L:=by
 refine⟨t st _ h.top,h.nd,λa ha=>?_,h.len,λj a ds e1 e2=>?_⟩
 ·obtain⟨j,hj⟩:=š ha
  have hl:=(Ö.mp hj).1
  obtain⟨vs,e,_⟩:=h.row j a _ hj (Ì (by rw[←h.len];exact hl))
  exact(g a _ (h.ow a ha) e).1
 ·obtain⟨vs,e,r'⟩:=h.row j a ds e1 e2
  exact⟨vs,(g a _ (h.ow a (Ò e1)) e).2,r'.mono (λ_ o=>o) (λ_ _ o=>o.elim) t⟩
def RowsT.rp{own:Addr->Option Nat}{r:Nat}{H:Hp}{st:Addr}{as:List Addr}{L:List (List D)}(h:RowsT own r H st as L):Rp (λa=>own a=some r) H (.ref st) (.tuple (L.map ÿ)) :=
 .tup h.top (oF as L h.len h.ow h.row)
def okS(p:Pn)(H0:Hp)(own:Addr->Option Nat)(b:Bool)(a:Addr):Prop:=(b=true->H0 a=none)/\¬p.fp a/\own a=none
def jU(p:Pn)(H0:Hp)(own:Addr->Option Nat)(σ:L2.St)(H:Hp)(i:Nat):Sl->Prop
 |.any=>True
 |.im d=>∃v,σ[i]?=some (some v)/\Rp (λ_=>False) H v d
 |.sh d=>∃v,σ[i]?=some (some v)/\Rp (λa=>¬p.fp a/\own a=none) H v d
 |.sn d=>∃v,σ[i]?=some (some v)/\Rp (λa=>H0 a=none/\¬p.fp a/\own a=none) H v d
 |.dw r d=>∃v,σ[i]?=some (some v)/\Rp (λa=>own a=some r) H v d
 |.pen C=>σ[i]?=some (some p.pv)/\C p
 |.rw r L=>∃st as,σ[i]?=some (some (.ref st))/\RowsH own r H st as L
 |.tw r L=>∃st as,σ[i]?=some (some (.ref st))/\RowsT own r H st as L
 |.scr v b=>σ[i]?=some (some v)/\(b=true->p=fM)
 |.sp r b ds=>∃l vs,σ[i]?=some (some (.ref l))/\own l=some r/\H l=some (.lst vs)/\Rps (okS p H0 own b) H vs ds
structure EnvD[Gr](p:Pn)(H0:Hp)(own:Addr->Option Nat)(σ:L2.St)(H:Hp)(ρ:List Sl):Prop where
 k0:∀b o,H0 b=some o->¬p.fp b->H b=some o
 pen:p.PI H
 ow:∀a r,own a=some r->H0 a=none/\¬p.fp a/\H a≠none
 slot:∀i s,ρ[i]?=some s->jU p H0 own σ H i s
 len:ρ.length=σ.length
 gr:Gr.G p H0
variable [Gr]
section
variable {p:Pn}{H0 H H':Hp}{own:Addr->Option Nat}{σ:L2.St}{ρ:List Sl}
def EnvD.at(E:EnvD p H0 own σ H ρ):At p H0 own H H:=⟨E.k0,Kp.refl,E.pen,E.pen,E.ow⟩
def EnvD.go(E:EnvD p H0 own σ H ρ)(k:Kp p H H')(i:p.PI H'):EnvD p H0 own σ H' ρ:=by
 have A:=E.at
 have tp:=lW A k
 refine⟨λb o e n=>k b o (E.k0 b o e n) n,i,λa r e=>?_,λj s e=>?_,E.len,E.gr⟩
 ·obtain⟨h1,h2,h3⟩:=E.ow a r e
  refine⟨h1,h2,λz=>?_⟩
  cases q:H a with
  |none=>exact h3 q
  |some o=>rw[k a o q h2] at z;cases z
 ·have q:=E.slot j s e
  cases s with
  |any=>trivial
  |im d=>exact let ⟨v,a,b⟩:=q;⟨v,a,b.mono (λ_ o=>o) (λ_ _ o=>o.elim) tp⟩
  |sh d=>exact let ⟨v,a,b⟩:=q;⟨v,a,b.mono (λ_ o=>o) (λc u o e=>k c u e o.1) tp⟩
  |sn d=>exact let ⟨v,a,b⟩:=q;⟨v,a,b.mono (λ_ o=>o) (λc u o e=>k c u e o.2.1) tp⟩
  |dw r d=>exact let ⟨v,a,b⟩:=q;⟨v,a,b.mono (λ_ o=>o) (λc u o e=>k c u e (E.ow c r o).2.1) tp⟩
  |pen C=>exact q
  |rw r L=>exact let ⟨st,as,a,b⟩:=q;⟨st,as,a,b.mono (λc u o e=>⟨o,k c u e (E.ow c r o).2.1⟩) tp⟩
  |tw r L=>exact let ⟨st,as,a,b⟩:=q;⟨st,as,a,b.mono (λc u o e=>⟨o,k c u e (E.ow c r o).2.1⟩) tp⟩
  |scr v b=>exact q
  |sp r b ds=>exact let ⟨l,vs,a,o,h,z⟩:=q;⟨l,vs,a,o,k l _ h (E.ow l r o).2.1,z.mono (λ_ o=>o) (λc u o e=>k c u e o.2.1) tp⟩
end
abbrev DK:=Kd->D->Prop
abbrev DE:=List Sl->DK->Prop
def dB(t:DE):TE:=λσ H Q=>∃p H0 own ρ P,EnvD p H0 own σ H ρ/\t ρ P/\∀k d v H',P k d->At p H0 own H H'->Rp (okK p H0 own H k) H' v d->Q v H'
abbrev PD(X:Cx)(e:Expr)(t:DE):Prop:=PE X e (dB t)
abbrev DA:=List Sl->(List (Kd×D)->Prop)->Prop
inductive RpK(p:Pn)(H0:Hp)(own:Addr->Option Nat)(Hb H:Hp):List V->List (Kd×D)->Prop
 |nil:RpK p H0 own Hb H [] []
 |cons {v:V}{kd:Kd×D}{vs:List V}{ks:List (Kd×D)} (h:Rp (okK p H0 own Hb kd.1) H v kd.2) (t:RpK p H0 own Hb H vs ks):RpK p H0 own Hb H (v::vs) (kd::ks)
def jd(t:DA):TA:=λσ H Q=>∃p H0 own ρ P,EnvD p H0 own σ H ρ/\t ρ P/\∀ks vs H',P ks->At p H0 own H H'->RpK p H0 own H H' vs ks->Q vs H'
abbrev PDA(X:Cx)(es:List Expr)(t:DA):Prop:=PA X es (jd t)
abbrev DT:=List Sl->(Bool->Prop)->Prop
def liftT(t:DT):TT:=λσ H Q=>∃p H0 own ρ P,EnvD p H0 own σ H ρ/\t ρ P/\∀b H',P b->At p H0 own H H'->Q b H'
abbrev PDT(X:Cx)(e:Expr)(t:DT):Prop:=PT X e (liftT t)
def PE.wk{X:Cx}{e:Expr}{t t':TE}(h:PE X e t)(w:∀σ H Q,t' σ H Q->t σ H Q):PE X e t':=λpins s σ H Q I q=>h pins s σ H Q I (w σ H Q q)
def PT.wk{X:Cx}{e:Expr}{t t':TT}(h:PT X e t)(w:∀σ H Q,t' σ H Q->t σ H Q):PT X e t':=λpins s σ H Q I q=>h pins s σ H Q I (w σ H Q q)
def PA.wk{X:Cx}{e:List Expr}{t t':TA}(h:PA X e t)(w:∀σ H Q,t' σ H Q->t σ H Q):PA X e t':=λpos pins s σ H Q I q=>h pos pins s σ H Q I (w σ H Q q)
section
variable {X:Cx}{pos:Pos}{a b:Expr}{ta tb:DE}
def RpK.go{p:Pn}{H0 Hb H H':Hp}{own:Addr->Option Nat}(A:At p H0 own Hb H)(k:Kp p H H'):∀{vs:List V}{ks:List (Kd×D)},RpK p H0 own Hb H vs ks->RpK p H0 own Hb H' vs ks
 |_,_,.nil=>.nil
 |_,_,.cons h t=>.cons (mH A k h) (RpK.go A k t)
def RpK.base{p:Pn}{H0 Hb H H':Hp}{own:Addr->Option Nat}(A:At p H0 own Hb H):∀{vs:List V}{ks:List (Kd×D)},RpK p H0 own H H' vs ks->RpK p H0 own Hb H' vs ks
 |_,_,.nil=>.nil
 |_,_,.cons h t=>.cons (mJ A h) (RpK.base A t)
def tV(i:Nat):DE:=λρ P=>match ρ[i]? with
 |some (.im d)=>P .imm d
 |some (.sh d)=>P .shr d
 |some (.sn d)=>P .snw d
 |some (.dw r d)=>P (.reg r) d
 |some (.rw r L)=>P (.reg r) (.list (L.map ÿ))
 |some (.tw r L)=>P (.reg r) (.tuple (L.map ÿ))
 |some (.sp r b ds)=>P (if b=true then .n0 else .wk) (.list ds)
 |_=>False
def Q6{i:Nat}{x:Str}{ps:Pos}(h:PE X (.Name x ps) (jf i)):PD X (.Name x ps) (tV i):=PE.wk h (by
 rintro σ H Q ⟨p,H0,own,ρ,P,E,t,q⟩
 unfold tV at t
 split at t
 ·rename_i d e;obtain⟨v,e1,r⟩:=E.slot i _ e;exact⟨v,e1,q _ _ _ _ t E.at r⟩
 ·rename_i d e;obtain⟨v,e1,r⟩:=E.slot i _ e;exact⟨v,e1,q _ _ _ _ t E.at r⟩
 ·rename_i d e;obtain⟨v,e1,r⟩:=E.slot i _ e;exact⟨v,e1,q _ _ _ _ t E.at r⟩
 ·rename_i d e;obtain⟨v,e1,r⟩:=E.slot i _ e;exact⟨v,e1,q _ _ _ _ t E.at r⟩
 ·rename_i r L e;obtain⟨st,as,e1,h⟩:=E.slot i _ e;exact⟨_,e1,q _ _ _ _ t E.at h.rp⟩
 ·rename_i r L e;obtain⟨st,as,e1,h⟩:=E.slot i _ e;exact⟨_,e1,q _ _ _ _ t E.at h.rp⟩
 ·rename_i r b ds e
  obtain⟨l,vs,e1,o,h,z⟩:=E.slot i _ e
  refine⟨_,e1,q _ _ _ _ t E.at ?_⟩
  cases b with
  |true=>exact .lst ⟨(E.ow l r o).1,(E.ow l r o).2.1⟩ h (z.mono (λc n=>⟨n.1 rfl,n.2.1⟩) (λ_ _ _ e=>e) λ_ _ e=>e)
  |false=>exact .lst (E.ow l r o).2.1 h (z.mono (λc n=>n.2.1) (λ_ _ _ e=>e) λ_ _ e=>e)
 ·exact t.elim)
def tK(d:D):DE:=λ_ P=>P .imm d
def mY{e:Expr}{v:V}{d:D}(h:PE X e (tC v))(r:∀H,Rp (λ_=>False) H v d):PD X e (tK d):=PE.wk h (by
 rintro σ H Q ⟨p,H0,own,ρ,P,E,t,q⟩
 exact q _ _ _ _ t E.at (r H))
def aC{i:Int}{j:Nat}:PD X (.Constant (.int i) j pos) (tK (.int i)):=mY bV λ_=>.int i
def gU{i:Bool}{j:Nat}:PD X (.Constant (.bool i) j pos) (tK (.bool i)):=mY Uv λ_=>.bl i
def lH{j:Nat}:PD X (.Constant .none j pos) (tK .none):=mY QZ λ_=>.non
def vC{x:Str}{j:Nat}:PD X (.Constant (.str x) j pos) (tK (.str x)):=mY dH λ_=>.str x
abbrev G2:=Kd->D->Kd->D->DK->Prop
def t2(g:G2)(ta tb:DE):DE:=λρ P=>ta ρ λk1 d1=>tb ρ λk2 d2=>g k1 d1 k2 d2 P
def Ok2(g:G2)(r:R2):Prop:=∀p H0 own Hb H x y k1 d1 k2 d2 P Q,At p H0 own Hb H->Rp (okK p H0 own Hb k1) H x d1->Rp (okK p H0 own Hb k2) H y d2->g k1 d1 k2 d2 P ->
 (∀k d v H',P k d->Kp p H H'->p.PI H'->Rp (okK p H0 own Hb k) H' v d->Q v H')->r x y H Q
def uf{g:G2}{r:R2}(ok:Ok2 g r):∀σ H Q,dB (t2 g ta tb) σ H Q->tOp r (dB ta) (dB tb) σ H Q:=by
 rintro σ H Q ⟨p,H0,own,ρ,P,E,t,q⟩
 refine⟨p,H0,own,ρ,_,E,t,λk1 d1 v1 H1 t1 A1 r1=>?_⟩
 have E1:=E.go A1.kp A1.pen
 refine⟨p,H0,own,ρ,_,E1,t1,λk2 d2 v2 H2 t2 A2 r2=>?_⟩
 have A:At p H0 own H H2:=A1.base A2
 exact ok p H0 own H H2 v1 v2 k1 d1 k2 d2 P Q A (mH A1 A2.kp r1) (mJ A1 r2) t2 λk d v H' h k3 i3 r3=>q k d v H' h (A.go k3 i3) r3
def kJ{op:Operator}{r:R2}{g:G2}(ho:OpR X (binaryOp op) r)(ok:Ok2 g r)(ha:PD X a ta)(hb:PD X b tb):PD X (.BinOp a op b pos) (t2 g ta tb):=PE.wk (cR ho ha hb) (uf ok)
def gH{op:CmpOp}{r:R2}{g:G2}(ho:OpR X (compareOp op) r)(ok:Ok2 g r)(ha:PD X a ta)(hb:PD X b tb)(hm:behindInMarks op b=false):PD X (.Compare a [op] [b] pos) (t2 g ta tb):=PE.wk (Mi ho ha hb hm) (uf ok)
def fW(t:DE):DT:=λρ P=>t ρ λ_ d=>match d with
 |.bool b=>P b
 |_=>False
def yM{t:DE}:∀σ H Q,liftT (fW t) σ H Q->(dB t) σ H (λx H'=>∃k,x=.bl k/\Q k H'):=by
 rintro σ H Q ⟨p,H0,own,ρ,P,E,t,q⟩
 refine⟨p,H0,own,ρ,_,E,t,λk d v H' h A r=>?_⟩
 cases d with
 |bool b=>exact⟨b,r.bl',q b H' h A⟩
 |_=>exact h.elim
def dY{op:CmpOp}{r:R2}{g:G2}(ho:OpR X (compareOp op) r)(ok:Ok2 g r)(ha:PD X a ta)(hb:PD X b tb)(hm:behindInMarks op b=false):PDT X (.Compare a [op] [b] pos) (fW (t2 g ta tb)) :=
 PT.wk (p7 ho ha hb hm) λσ H Q h=>uf ok σ H _ (yM σ H Q h)
def bO{e:Expr}{t:DE}(h:PD X e t)(he:∀whole,isTrue e X.env whole=(do let v ←whole;standAt e.pos;holding [v] (truthy v)):=by intro _;rfl):PDT X e (fW t) :=
 PT.wk (QD h he) λσ H Q q=>yM σ H Q q
def Vz(t:DT):DT:=λρ P=>t ρ λb=>P (!b)
def cD{t:DT}(ha:PDT X a t):PDT X (.UnaryOp .Not a pos) (Vz t):=PT.wk (QF ha) (by
 rintro σ H Q ⟨p,H0,own,ρ,P,E,t,q⟩
 exact⟨p,H0,own,ρ,_,E,t,λb H' h A=>q _ H' h A⟩)
abbrev PDW(X:Cx)(e:Expr)(t:DT):Prop:=PW X e (liftT t)
def PW.wk{X:Cx}{e:Expr}{t t':TT}(h:PW X e t)(w:∀σ H Q,t' σ H Q->t σ H Q):PW X e t':=λwh pins s σ H Q I q=>h wh pins s σ H Q I (w σ H Q q)
def SN(t u:DT):DT:=λρ P=>t ρ λb=>if b=true then u ρ P else P false
def dOr(t u:DT):DT:=λρ P=>t ρ λb=>if b=true then P true else u ρ P
section
variable {rest:List Expr}{t u:DT}
def jx(ha:PDT X a t):PDW X (.BoolOp .And [a] pos) t:=LK ha
def gn(ha:PDT X a t):PDW X (.BoolOp .Or [a] pos) t:=QB ha
def JG:∀σ H Q,liftT (SN t u) σ H Q->T3 (liftT t) (liftT u) σ H Q:=by
 rintro σ H Q ⟨p,H0,own,ρ,P,E,t,q⟩
 refine⟨p,H0,own,ρ,_,E,t,λb H' h A=>?_⟩
 cases b with
 |true=>exact aK ⟨p,H0,own,ρ,P,E.go A.kp A.pen,by simpa using h,λc H2 h2 A2=>q c H2 h2 (A.base A2)⟩
 |false=>exact bD (q false H' (by simpa using h) A)
def Np:∀σ H Q,liftT (dOr t u) σ H Q->tOr (liftT t) (liftT u) σ H Q:=by
 rintro σ H Q ⟨p,H0,own,ρ,P,E,t,q⟩
 refine⟨p,H0,own,ρ,_,E,t,λb H' h A=>?_⟩
 cases b with
 |true=>exact aK (q true H' (by simpa using h) A)
 |false=>exact bD ⟨p,H0,own,ρ,P,E.go A.kp A.pen,by simpa using h,λc H2 h2 A2=>q c H2 h2 (A.base A2)⟩
def mR(ha:PDT X a t)(hb:PDW X (.BoolOp .And (b::rest) pos) u):PDW X (.BoolOp .And (a::b::rest) pos) (SN t u):=PW.wk (QC ha hb) JG
def jw(ha:PDT X a t)(hb:PDW X (.BoolOp .Or (b::rest) pos) u):PDW X (.BoolOp .Or (a::b::rest) pos) (dOr t u):=PW.wk (Uo ha hb) Np
def PDW.pt{e:Expr}{t:DT}(h:PDW X e t):PDT X e t:=PW.pt h
end
end
variable [Gr]
section
variable {X:Cx}{pos:Pos}{a b e:Expr}{es:List Expr}{ta tb te:DE}{t:DA}
def iy:DA:=λ_ P=>P []
def bM(te:DE)(t:DA):DA:=λρ P=>te ρ λk d=>t ρ λks=>P ((k,d)::ks)
def ao:PDA X [] iy:=PA.wk gK (by
 rintro σ H Q ⟨p,H0,own,ρ,P,E,t,q⟩
 exact q [] [] H t E.at .nil)
def aj(ha:PD X e te)(hr:PDA X es t)(hs:zS X e es:=by rfl):PDA X (e::es) (bM te t):=PA.wk (bY ha hr hs) (by
 rintro σ H Q ⟨p,H0,own,ρ,P,E,t,q⟩
 refine⟨p,H0,own,ρ,_,E,t,λk d v H1 h A r=>?_⟩
 refine⟨p,H0,own,ρ,_,E.go A.kp A.pen,h,λks vs H2 h2 A2 r2=>?_⟩
 exact q _ _ H2 h2 (A.base A2) (.cons (mH A A2.kp r) (RpK.base A r2)))
def joins:List (Kd×D)->Kd
 |[]=>.imm
 |kd::ks=>kd.1.join (joins ks)
def RpK.all{p:Pn}{H0 Hb H H2:Hp}{own:Addr->Option Nat}(A:At p H0 own Hb H):∀{vs:List V}{ks:List (Kd×D)}{k:Kd},(joins ks).le k=true->RpK p H0 own Hb H2 vs ks->Rps (okK p H0 own Hb (joins ks)) H2 vs (ks.map (·.2))
 |_,_,_,_,.nil=>.nil
 |_,kd::ks,k,e,.cons h t=>by
  have j:=eX kd.1 (joins ks)
  exact .cons (kI A j.1 h) ((RpK.all A (k:=joins ks) (by cases joins ks <;> simp[Kd.le]) t).mono (λa o=>bW A j.2 o) (λ_ _ _ e=>e) λ_ _ e=>e)
def Kd.le_refl(k:Kd):k.le k=true:=by cases k <;> simp[Kd.le]
def RpK.length{p:Pn}{H0 Hb H2:Hp}{own:Addr->Option Nat}:∀{vs:List V}{ks:List (Kd×D)},RpK p H0 own Hb H2 vs ks->vs.length=ks.length
 |_,_,.nil=>rfl
 |_,_,.cons _ t=>by rw[Ù,Ù,RpK.length t]
def Cq(t:DA):DE:=λρ P=>t ρ λks=>ks.length<=1000/\P ((joins ks).join .new) (.list (ks.map (·.2)))
def zZ(t:DA):DE:=λρ P=>t ρ λks=>ks.length<=1000/\P (norm (joins ks) (.tuple (ks.map (·.2)))) (.tuple (ks.map (·.2)))
def cW(h:PDA X es t):PD X (.List es pos) (Cq t):=PE.wk (Ai h) (by
 rintro σ H Q ⟨p,H0,own,ρ,P,E,t,q⟩
 refine⟨p,H0,own,ρ,_,E,t,λks vs H1 h A r=>?_⟩
 have h24:=é
 have hl:=r.length
 refine⟨by have:=h.1;omega,λl hl=>?_⟩
 obtain⟨k2,i2,nw⟩:=A.new hl (.lst vs)
 have j:=eX (joins ks) .new
 refine q _ _ _ _ h.2 (A.go k2 i2) (.lst (bW A j.2 nw) au ?_)
 exact(cL A k2 (RpK.all A (Kd.le_refl _) r)).mono (λa o=>bW A j.1 o) (λ_ _ _ e=>e) λ_ _ e=>e)
def bx{x1}(h:PDA X es t):PD X (.Tuple es x1 pos) (zZ t):=PE.wk (QV h) (by
 rintro σ H Q ⟨p,H0,own,ρ,P,E,t,q⟩
 refine⟨p,H0,own,ρ,_,E,t,λks vs H1 h A r=>?_⟩
 have h24:=é
 have hl:=r.length
 refine⟨by have:=h.1;omega,λl hl=>?_⟩
 obtain⟨k2,i2,nw⟩:=A.new hl (.tup vs)
 exact q _ _ _ _ h.2 (A.go k2 i2) (aR (.tup au (cL A k2 (RpK.all A (Kd.le_refl _) r)))))
abbrev GC:=List (Kd×D)->DK->Prop
def tCl(g:GC)(t:DA):DE:=λρ P=>t ρ λks=>g ks P
def OkC(g:GC)(r:List V->Hp->VK->Prop):Prop:=∀p H0 own Hb H vs ks P Q,At p H0 own Hb H->RpK p H0 own Hb H vs ks->g ks P ->
 (∀k d v H',P k d->Kp p H H'->p.PI H'->Rp (okK p H0 own Hb k) H' v d->Q v H')->r vs H Q
def Pk{g:GC}{r:List V->Hp->VK->Prop}(ok:OkC g r):∀σ H Q,dB (tCl g t) σ H Q->tCB r (jd t) σ H Q:=by
 rintro σ H Q ⟨p,H0,own,ρ,P,E,t,q⟩
 refine⟨p,H0,own,ρ,_,E,t,λks vs H1 h A r=>?_⟩
 exact ok p H0 own H H1 vs ks P Q A r h λk d v H' h2 k2 i2 r2=>q k d v H' h2 (A.go k2 i2) r2
def cj{r:List V->Hp->VK->Prop}{id:String}{x:Str}{ps:Pos}{g:GC}(hc:bJ X (.builtin id) r)(ok:OkC g r)(hg:Gl X x)(hm:X.mg x=none)(hv:bootBuiltins x=some (.builtin id))(ha:PDA X (e::es) t)(hn:x≠"__name__":=by decide)(hdb:zB x:=by decide)(he:zS X e es:=by rfl)(hpl:zP X pos es:=by rfl):PD X (.Call (.Name x ps) (e::es) [] pos) (tCl g t):=PE.wk (mO hc hg hm hv ha hn hdb he hpl) (Pk ok)
def yq{r:List V->Hp->VK->Prop}{id:String}{x:Str}{ps:Pos}{g:GC}(hc:bJ X (.type id) r)(ok:OkC g r)(hg:Gl X x)(hm:X.mg x=none)(hv:bootBuiltins x=some (.type id))(ha:PDA X (e::es) t)(hn:x≠"__name__":=by decide)(hdb:zB x:=by decide)(he:zS X e es:=by rfl)(hpl:zP X pos es:=by rfl):PD X (.Call (.Name x ps) (e::es) [] pos) (tCl g t):=PE.wk (gP hc hg hm hv ha hn hdb he hpl) (Pk ok)
def spD(t:List D->(D->Prop)->Prop):Sp:=λvs H Q _=>∃ds P,Rps (λ_=>True) H vs ds/\t ds P/\∀d v H',P d->Same H H'->Rp (λa=>H a=none) H' v d->Q v H'
def spP(C:Pn->Prop)(t:List D->(D->Prop)->Prop):Sp:=λvs H Q _=>∃p vs' ds P,C p/\vs=p.pv::vs'/\p.PI H/\Rps (λa=>¬p.fp a) H vs' ds/\t ds P/\∀d v H',P d->Kp p H H'->p.PI H'->Rp (λa=>H a=none) H' v d->Q v H'
def tFn(f:List D->(D->Prop)->Prop)(t:DA):DE:=λρ P=>t ρ λks=>f (ks.map (·.2)) λd=>P (norm .new d) d
def RpK.rps{p:Pn}{H0 Hb H H2:Hp}{own:Addr->Option Nat}(A:At p H0 own Hb H):∀{vs:List V}{ks:List (Kd×D)},RpK p H0 own Hb H2 vs ks->Rps (λa=>¬p.fp a) H2 vs (ks.map (·.2))
 |_,_,.nil=>.nil
 |_,_,.cons h t=>.cons (h.mono (λa o=>ni A o) (λ_ _ _ e=>e) λ_ _ e=>e) (RpK.rps A t)
def Nq{f:List D->(D->Prop)->Prop}:∀σ H Q,dB (tFn f t) σ H Q->pG (spD f) [] E0 (jd t) σ H Q:=by
 rintro σ H Q ⟨p,H0,own,ρ,P,E,t,q⟩
 refine⟨p,H0,own,ρ,_,E,t,λks vs H1 h A r=>?_⟩
 show spD f (vs++[]) H1 Q E0
 rw[ø]
 refine⟨ks.map (·.2),_,(RpK.rps A r).mono (λ_ _=>trivial) (λ_ _ _ e=>e) λ_ _ e=>e,h,λd v H' h2 s r2=>?_⟩
 have k2:Kp p H1 H':=Kp.of s
 refine q _ d v H' h2 (A.go k2 (p.mono H1 H' A.pen λb o _ e=>s b o e)) (aR ?_)
 exact r2.mono (λa o=>A.free o) (λ_ _ _ e=>e) λ_ _ e=>e
def Qt(C:Pn->Prop)(f:List D->(D->Prop)->Prop)(i:Nat)(t:DA):DE:=λρ P=>ρ[i]?=some (.pen C)/\tFn f t ρ P
def JF{C:Pn->Prop}{f:List D->(D->Prop)->Prop}{i:Nat}:∀σ H Q,dB (Qt C f i t) σ H Q->pG (spP C f) [] E0 (pF (jf i) (jd t)) σ H Q:=by
 rintro σ H Q ⟨p,H0,own,ρ,P,E,⟨hp,t⟩,q⟩
 obtain⟨hs,c⟩:=E.slot i _ hp
 refine⟨p.pv,hs,p,H0,own,ρ,_,E,t,λks vs H1 h A r=>?_⟩
 show spP C f ((p.pv::vs)++[]) H1 Q E0
 rw[ø]
 refine⟨p,vs,ks.map (·.2),_,c,rfl,A.pen,RpK.rps A r,h,λd v H' h2 k2 i2 r2=>?_⟩
 exact q _ d v H' h2 (A.go k2 i2) (aR (r2.mono (λa o=>A.free o) (λ_ _ _ e=>e) λ_ _ e=>e))
def gI(C:Int->Int->Prop)(f:Int->Int->D):G2:=λ_ d1 _ d2 P=>match d1,d2 with
 |.int i,.int j=>C i j/\P .imm (f i j)
 |_,_=>False
def gI0(f:Int->Int->D):G2:=λ_ d1 _ d2 P=>match d1,d2 with
 |.int i,.int j=>P .imm (f i j)
 |_,_=>False
def okI{C:Int->Int->Prop}{f:Int->Int->D}{g:Int->Int->V}(h:∀i j H,Rp (λ_=>False) H (g i j) (f i j)):Ok2 (gI C f) (rI C g):=by
 intro p H0 own Hb H x y k1 d1 k2 d2 P Q A r1 r2 t q
 unfold gI at t
 split at t
 ·rename_i i j
  exact⟨i,j,r1.int',r2.int',t.1,q _ _ _ _ t.2 Kp.refl A.pen (h i j H)⟩
 ·exact t.elim
def vU{f:Int->Int->D}{g:Int->Int->V}(h:∀i j H,Rp (λ_=>False) H (g i j) (f i j)):Ok2 (gI0 f) (rI0 g):=by
 intro p H0 own Hb H x y k1 d1 k2 d2 P Q A r1 r2 t q
 unfold gI0 at t
 split at t
 ·rename_i i j
  exact⟨i,j,r1.int',r2.int',q _ _ _ _ t Kp.refl A.pen (h i j H)⟩
 ·exact t.elim
def vL(ha:PD X a ta)(hb:PD X b tb):PD X (.BinOp a .Add b pos) (t2 (gI0 λi j=>.int (i+j)) ta tb):=kJ lJ (vU λi j _=>.int _) ha hb
def cX(ha:PD X a ta)(hb:PD X b tb):PD X (.BinOp a .Sub b pos) (t2 (gI0 λi j=>.int (i - j)) ta tb):=kJ Rf (vU λi j _=>.int _) ha hb
def Q8(ha:PD X a ta)(hb:PD X b tb):PD X (.BinOp a .Mult b pos) (t2 (gI La λi j=>.int (i * j)) ta tb):=kJ oM (okI λi j _=>.int _) ha hb
def mX(ha:PD X a ta)(hb:PD X b tb):PD X (.BinOp a .FloorDiv b pos) (t2 (gI Te λi j=>.int (i / j)) ta tb):=kJ qj (okI λi j _=>.int _) ha hb
def Ao(ha:PD X a ta)(hb:PD X b tb):PD X (.BinOp a .Mod b pos) (t2 (gI (λ_ j=>0<j) λi j=>.int (i % j)) ta tb):=kJ jB (okI λi j _=>.int _) ha hb
def qU(ha:PD X a ta)(hb:PD X b tb):PD X (.BinOp a .Pow b pos) (t2 (gI Td λi j=>.int (i ^ j.toNat)) ta tb):=kJ Ja (okI λi j _=>.int _) ha hb
def tW(ha:PD X a ta)(hb:PD X b tb):PD X (.Compare a [.Lt] [b] pos) (t2 (gI0 λi j=>.bool (decide (i<j))) ta tb):=gH Jb (vU λi j _=>.bl _) ha hb (bK _)
def Iz(ha:PD X a ta)(hb:PD X b tb):PD X (.Compare a [.LtE] [b] pos) (t2 (gI0 λi j=>.bool (decide (i<=j))) ta tb):=gH O2 (vU λi j _=>.bl _) ha hb (bK _)
def IV(ha:PD X a ta)(hb:PD X b tb):PD X (.Compare a [.GtE] [b] pos) (t2 (gI0 λi j=>.bool (decide (j<=i))) ta tb):=gH Je (vU λi j _=>.bl _) ha hb (bK _)
def Al(ha:PD X a ta)(hb:PD X b tb):PDT X (.Compare a [.Lt] [b] pos) (fW (t2 (gI0 λi j=>.bool (decide (i<j))) ta tb)):=dY Jb (vU λi j _=>.bl _) ha hb (bK _)
def lG(ha:PD X a ta)(hb:PD X b tb):PDT X (.Compare a [.Gt] [b] pos) (fW (t2 (gI0 λi j=>.bool (decide (j<i))) ta tb)):=dY O4 (vU λi j _=>.bl _) ha hb (bK _)
def Am(ha:PD X a ta)(hb:PD X b tb):PDT X (.Compare a [.GtE] [b] pos) (fW (t2 (gI0 λi j=>.bool (decide (j<=i))) ta tb)):=dY Je (vU λi j _=>.bl _) ha hb (bK _)
def scD:D->D->Option Bool
 |.int i,.int j=>some (decide (i=j))
 |.bool i,.bool j=>some (decide (i=j))
 |.str i,.str j=>some (decide (i=j))
 |_,_=>none
def gEq(neg:Bool):G2:=λ_ d1 _ d2 P=>match scD d1 d2 with
 |some b=>P .imm (.bool (if neg then !b else b))
 |none=>False
def Rw:Ok2 (gEq false) rEq:=by
 intro p H0 own Hb H x y k1 d1 k2 d2 P Q A r1 r2 t q
 unfold gEq scD at t
 split at t
 ·rename_i b e
  split at e <;> first|cases e|skip
  ·rw[r1.int',r2.int']
   refine⟨rfl,?_⟩
   have e2:∀i j:Int,decide (V.int i=V.int j)=decide (i=j):=λi j=>by simp
   rw[e2];exact q _ _ _ _ t Kp.refl A.pen (.bl _)
  ·rw[r1.bl',r2.bl']
   refine⟨rfl,?_⟩
   have e2:∀i j:Bool,decide (V.bl i=V.bl j)=decide (i=j):=λi j=>by simp
   rw[e2];exact q _ _ _ _ t Kp.refl A.pen (.bl _)
  ·rw[r1.str',r2.str']
   refine⟨rfl,?_⟩
   have e2:∀i j:Str,decide (V.str i=V.str j)=decide (i=j):=λi j=>by simp
   rw[e2];exact q _ _ _ _ t Kp.refl A.pen (.bl _)
 ·exact t.elim
def Rv:Ok2 (gEq true) rNe:=by
 intro p H0 own Hb H x y k1 d1 k2 d2 P Q A r1 r2 t q
 unfold gEq scD at t
 split at t
 ·rename_i b e
  split at e <;> first|cases e|skip
  ·rw[r1.int',r2.int']
   refine⟨rfl,?_⟩
   have e2:∀i j:Int,decide (V.int i=V.int j)=decide (i=j):=λi j=>by simp
   rw[e2];exact q _ _ _ _ t Kp.refl A.pen (.bl _)
  ·rw[r1.bl',r2.bl']
   refine⟨rfl,?_⟩
   have e2:∀i j:Bool,decide (V.bl i=V.bl j)=decide (i=j):=λi j=>by simp
   rw[e2];exact q _ _ _ _ t Kp.refl A.pen (.bl _)
  ·rw[r1.str',r2.str']
   refine⟨rfl,?_⟩
   have e2:∀i j:Str,decide (V.str i=V.str j)=decide (i=j):=λi j=>by simp
   rw[e2];exact q _ _ _ _ t Kp.refl A.pen (.bl _)
 ·exact t.elim
def Ux(ha:PD X a ta)(hb:PD X b tb):PD X (.Compare a [.Eq] [b] pos) (t2 (gEq false) ta tb):=gH Dr Rw ha hb (bK _)
def Uw(ha:PD X a ta)(hb:PD X b tb):PD X (.Compare a [.NotEq] [b] pos) (t2 (gEq true) ta tb):=gH Dq Rv ha hb (bK _)
def vA(ha:PD X a ta)(hb:PD X b tb):PDT X (.Compare a [.Eq] [b] pos) (fW (t2 (gEq false) ta tb)):=dY Dr Rw ha hb (bK _)
def Q5(ha:PD X a ta)(hb:PD X b tb):PDT X (.Compare a [.NotEq] [b] pos) (fW (t2 (gEq true) ta tb)):=dY Dq Rv ha hb (bK _)
def gIx:G2:=λk1 d1 _ d2 P=>match d1,d2 with
 |.list ds,.int i=>∃d,atI ds i=some d/\P (norm k1 d) d
 |.tuple ds,.int i=>∃d,atI ds i=some d/\P (norm k1 d) d
 |_,_=>False
def Rps.atI{ok:Addr->Prop}{H:Hp}{vs:List V}{ds:List D}{i:Int}{d:D}(r:Rps ok H vs ds)(h:L2.atI ds i=some d):∃v,L2.atI vs i=some v/\Rp ok H v d:=by
 unfold L2.atI at h ⊢
 rw[r.length]
 cases e:ixN ds.length i with
 |none=>rw[e] at h;cases h
 |some j =>
  rw[e] at h
  obtain⟨v,h1,h2⟩:=r.getD (i:=j) (d:=d) h
  exact⟨v,h1,h2⟩
def Vj:G2:=λk1 d1 _ d2 P=>match d1,d2 with
 |.list ds,.int i=>∃d,atI ds i=some d/\P (norm k1 d) d
 |_,_=>False
def Vi:G2:=λk1 d1 _ d2 P=>match d1,d2 with
 |.tuple ds,.int i=>∃d,atI ds i=some d/\P (norm k1 d) d
 |_,_=>False
def vK(ha:PD X a ta)(hb:PD X b tb)(hs:nW b):PD X (.Subscript a b pos) (t2 Vj ta tb):=PE.wk (Dk wH ha hb hs) (uf (by
 intro p H0 own Hb H x y k1 d1 k2 d2 P Q A r1 r2 t q
 unfold Vj at t
 split at t
 ·rename_i ds i
  obtain⟨d,hd,t⟩:=t
  obtain⟨c,vs,rfl,o,hc,rs⟩:=r1.cN
  obtain⟨v,hv,rv⟩:=rs.atI hd
  exact⟨c,vs,i,v,rfl,r2.int',SqL.of hc,hv,q _ _ _ _ t Kp.refl A.pen (aR rv)⟩
 ·exact t.elim))
def fL(ha:PD X a ta)(hb:PD X b tb)(hs:nW b):PD X (.Subscript a b pos) (t2 Vi ta tb):=PE.wk (Dk JR ha hb hs) (uf (by
 intro p H0 own Hb H x y k1 d1 k2 d2 P Q A r1 r2 t q
 unfold Vi at t
 split at t
 ·rename_i ds i
  obtain⟨d,hd,t⟩:=t
  obtain⟨c,vs,rfl,hc,rs⟩:=r1.eN
  obtain⟨v,hv,rv⟩:=rs.atI hd
  exact⟨c,vs,i,v,rfl,r2.int',SqT.of hc,hv,q _ _ _ _ t Kp.refl A.pen (aR rv)⟩
 ·exact t.elim))
def fJ{p:Pn}{H0 Hb H:Hp}{own:Addr->Option Nat}{vs:List V}{kd:Kd×D}(r:RpK p H0 own Hb H vs [kd]):∃v,vs=[v]/\Rp (okK p H0 own Hb kd.1) H v kd.2:=by
 cases r with
 |cons h t=>cases t;exact⟨_,rfl,h⟩
def Lx{p:Pn}{H0 Hb H:Hp}{own:Addr->Option Nat}{vs:List V}{kd ke:Kd×D}(r:RpK p H0 own Hb H vs [kd,ke]):∃v w,vs=[v,w]/\Rp (okK p H0 own Hb kd.1) H v kd.2/\Rp (okK p H0 own Hb ke.1) H w ke.2:=by
 cases r with
 |cons h t =>
  cases t with
  |cons h2 t2=>cases t2;exact⟨_,_,rfl,h,h2⟩
def Oc:GC:=λks P=>match ks with
 |[(_,.list ds)]=>P .imm (.int ds.length)
 |[(_,.tuple ds)]=>P .imm (.int ds.length)
 |_=>False
def UG{K:Ú}:OkC Oc (λxs H Q=>∃p ys,xs=[.ref p]/\(SqL K H p ys\/SqT K H p ys)/\Q (.int ys.length) H):=by
 intro p H0 own Hb H vs ks P Q A r t q
 unfold Oc at t
 split at t
 ·obtain⟨v,rfl,r'⟩:=fJ r
  obtain⟨c,vs,rfl,o,hc,rs⟩:=r'.cN
  exact⟨c,vs,rfl,.inl (SqL.of hc),by rw[rs.length];exact q _ _ _ _ t Kp.refl A.pen (.int _)⟩
 ·obtain⟨v,rfl,r'⟩:=fJ r
  obtain⟨c,vs,rfl,hc,rs⟩:=r'.eN
  exact⟨c,vs,rfl,.inr (SqT.of hc),by rw[rs.length];exact q _ _ _ _ t Kp.refl A.pen (.int _)⟩
 ·exact t.elim
def fK{ps:Pos}(hm:X.mg "len"=none)(ha:PDA X [a] t)(hg:Gl X "len":=by rfl)(he:zS X a []:=by rfl)(hpl:zP X pos []:=by rfl):PD X (.Call (.Name "len" ps) [a] [] pos) (tCl Oc t) :=
 cj nQ UG hg hm PySem.boot_len ha (by decide) (by decide) he hpl
end
variable [Gr]
section
variable {ok ok':Addr->Prop}{H H':Hp}
mutual
def Rp.cT(f:∀a o,ok a->H a=some o->ok' a/\H' a=some o)(t:∀a xs,H a=some (.tup xs)->H' a=some (.tup xs)):∀{v:V}{d:D},Rp ok H v d->Rp ok' H' v d
 |_,_,.non=>.non
 |_,_,.bl b=>.bl b
 |_,_,.int i=>.int i
 |_,_,.str x=>.str x
 |_,_,.lst o h r=>.lst (f _ _ o h).1 (f _ _ o h).2 (Rps.cT f t r)
 |_,_,.tup h r=>.tup (t _ _ h) (Rps.cT f t r)
 |_,_,.dct o h r=>.dct (f _ _ o h).1 (f _ _ o h).2 (Rkv.cT f t r)
 |_,_,.dcT o h=>.dcT (f _ _ o h).1 (f _ _ o h).2
def Rps.cT(f:∀a o,ok a->H a=some o->ok' a/\H' a=some o)(t:∀a xs,H a=some (.tup xs)->H' a=some (.tup xs)):∀{v:List V}{d:List D},Rps ok H v d->Rps ok' H' v d
 |_,_,.nil=>.nil
 |_,_,.cons h r=>.cons (Rp.cT f t h) (Rps.cT f t r)
def Rkv.cT(f:∀a o,ok a->H a=some o->ok' a/\H' a=some o)(t:∀a xs,H a=some (.tup xs)->H' a=some (.tup xs)):∀{v:List (Key×V)}{d:List (D×D)},Rkv ok H v d->Rkv ok' H' v d
 |_,_,.nil=>.nil
 |_,_,.cons h r=>.cons (Rp.cT f t h) (Rkv.cT f t r)
end
end
structure DEnds where
 nx:List Sl->Prop
 rt:D->Prop
 bk:List Sl->Prop:=λ_=>False
 ct:List Sl->Prop:=λ_=>False
abbrev DS:=DEnds->List Sl->Prop
structure FrS(p:Pn)(own:Addr->Option Nat)(H:Hp)(own':Addr->Option Nat)(H':Hp):Prop where
 keep:∀b o,H b=some o->¬p.fp b->own b=none->H' b=some o/\own' b=none
 tup:∀a xs,H a=some (.tup xs)->H' a=some (.tup xs)
def FrS.trans{p:Pn}{o1 o2 o3:Addr->Option Nat}{H1 H2 H3:Hp}(a:FrS p o1 H1 o2 H2)(b:FrS p o2 H2 o3 H3):FrS p o1 H1 o3 H3:=⟨λc o h n e=>let ⟨x,y⟩:=a.keep c o h n e;b.keep c o x n y,λc xs e=>b.tup c xs (a.tup c xs e)⟩
def FrS.refl{p:Pn}{o1:Addr->Option Nat}{H1:Hp}:FrS p o1 H1 o1 H1:=⟨λ_ _ h _ e=>⟨h,e⟩,λ_ _ e=>e⟩
def At.tups{p:Pn}{H0 H H':Hp}{own:Addr->Option Nat}(A:At p H0 own H H'):∀a xs,H a=some (.tup xs)->H' a=some (.tup xs):=lW (⟨A.k0,Kp.refl,A.penb,A.penb,A.ow⟩:At p H0 own H H) A.kp
structure RPost(p:Pn)(H0 H':Hp)(v:V)(d:D):Prop where
 k0:∀b o,H0 b=some o->¬p.fp b->H' b=some o
 pen:p.PI H'
 rp:Rp (λa=>H0 a=none/\¬p.fp a) H' v d
structure Wish(p:Pn)(H0:Hp)(own:Addr->Option Nat)(H:Hp)(P:DEnds)(Q:Ends):Prop where
 nx:∀own' σ' H' ρ',EnvD p H0 own' σ' H' ρ'->FrS p own H own' H'->P.nx ρ'->Q.nx σ' H'
 rt:∀d v H',P.rt d->RPost p H0 H' v d->Q.rt v H'
 bk:∀own' σ' H' ρ',EnvD p H0 own' σ' H' ρ'->FrS p own H own' H'->P.bk ρ'->Q.bk σ' H'
 ct:∀own' σ' H' ρ',EnvD p H0 own' σ' H' ρ'->FrS p own H own' H'->P.ct ρ'->Q.ct σ' H'
def Wish.go{p:Pn}{H0 H H':Hp}{own own':Addr->Option Nat}{P:DEnds}{Q:Ends}(w:Wish p H0 own H P Q)(f:FrS p own H own' H'):Wish p H0 own' H' P Q :=
 ⟨λo s h r e g n=>w.nx o s h r e (f.trans g) n,w.rt,λo s h r e g n=>w.bk o s h r e (f.trans g) n,λo s h r e g n=>w.ct o s h r e (f.trans g) n⟩
def kY(t:DS):TS:=λQ σ H=>∃p H0 own ρ P,EnvD p H0 own σ H ρ/\t P ρ/\Wish p H0 own H P Q
abbrev PDS(X:Cx)(st:Stmt)(t:DS):Prop:=PS X st (kY t)
abbrev iz(X:Cx)(st:List Stmt)(t:DS):Prop:=PSs X st (kY t)
def PSs.wk'{X:Cx}{ss:List Stmt}{t t':TS}(h:PSs X ss t)(w:∀D σ H,t' D σ H->t D σ H):PSs X ss t':=λpins s σ H D I q=>h pins s σ H D I (w D σ H q)
def PS.wk'{X:Cx}{ss:Stmt}{t t':TS}(h:PS X ss t)(w:∀D σ H,t' D σ H->t D σ H):PS X ss t':=λpins s σ H D I q=>h pins s σ H D I (w D σ H q)
def At.frs{p:Pn}{H0 H H':Hp}{own:Addr->Option Nat}(A:At p H0 own H H'):FrS p own H own H':=⟨λb o h n e=>⟨A.kp b o h n,e⟩,A.tups⟩
section
variable {X:Cx}{pos:Pos}{st:Stmt}{rest:List Stmt}{e:Expr}{te:DE}{t u:DS}
def Kz:DS:=λP ρ=>P.nx ρ
def rY(t u:DS):DS:=λP ρ=>t { P with nx:=u P } ρ
def dN:iz X [] Kz:=PSs.wk' qb (by
 rintro Q σ H ⟨p,H0,own,ρ,P,E,t,w⟩
 exact w.nx own σ H ρ E FrS.refl t)
def aJ(h1:PDS X st t)(h2:iz X rest u):iz X (st::rest) (rY t u):=PSs.wk' (qO h1 h2) (by
 rintro Q σ H ⟨p,H0,own,ρ,P,E,t,w⟩
 exact⟨p,H0,own,ρ,_,E,t,⟨λo s h r e g n=>⟨p,H0,o,r,P,e,n,w.go g⟩,w.rt,w.bk,w.ct⟩⟩)
def aF(h1:PDS X st t):iz X [st] t:=gk h1
def nM:PDS X st (λ_ _=>False):=PS.wk' Ie (by
 rintro Q σ H ⟨p,H0,own,ρ,P,E,t,w⟩
 exact t)
def Gx(te:DE):DS:=λP ρ=>te ρ λk d=>k.le .n0=true/\P.rt d
def bB(he:PD X e te):PDS X (.Return (some e) pos) (Gx te):=PS.wk' (lC he) (by
 rintro Q σ H ⟨p,H0,own,ρ,P,E,t,w⟩
 refine⟨p,H0,own,ρ,_,E,t,λk d v H' h A r=>w.rt d v H' h.2 ⟨λb o e n=>A.kp b o (A.k0 b o e n) n,A.pen,?_⟩⟩
 exact kI A h.1 r)
def dIf(c:DT)(t u:DS):DS:=λP ρ=>c ρ λb=>if b=true then t P ρ else u P ρ
def cU{c:Expr}{a b:List Stmt}{tc:DT}(hc:PDT X c tc)(ha:iz X a t)(hb:iz X b u):PDS X (.If c a b pos) (dIf tc t u):=PS.wk' (Df hc ha hb) (by
 rintro Q σ H ⟨p,H0,own,ρ,P,E,t,w⟩
 refine⟨p,H0,own,ρ,_,E,t,λb H' h A=>?_⟩
 cases b with
 |true=>exact aK ⟨p,H0,own,ρ,P,E.go A.kp A.pen,by simpa using h,w.go A.frs⟩
 |false=>exact bD ⟨p,H0,own,ρ,P,E.go A.kp A.pen,by simpa using h,w.go A.frs⟩)
def PN(te:DE):DS:=λP ρ=>te ρ λ_ _=>P.nx ρ
def qx(he:PD X e te)(hs:swapsWith e none pos.line X.env=pure false:=by rfl):PDS X (.Expr e pos) (PN te):=PS.wk' (cC he hs) (by
 rintro Q σ H ⟨p,H0,own,ρ,P,E,t,w⟩
 exact⟨p,H0,own,ρ,_,E,t,λk d v H' h A r=>w.nx own σ H' ρ (E.go A.kp A.pen) A.frs h⟩)
def Sl.region:Sl->Option Nat
 |.dw r _=>some r
 |.rw r _=>some r
 |.tw r _=>some r
 |.sp r _ _=>some r
 |_=>none
def lg(r:Nat)(ρ:List Sl)(i:Nat):Bool:=(ρ.set i .any).all λs=>s.region != some r
def stK(rg:Option Nat)(ρ:List Sl)(i:Nat)(k:Kd)(d:D):Option Sl:=match k with
 |.imm=>some (.im d)
 |.new=>match rg with
  |some r=>if lg r ρ i=true then some (.dw r d) else none
  |none=>some (.sn d)
 |.reg r=>some (.dw r d)
 |.snw=>some (.sn d)
 |.shr=>some (.sh d)
 |_=>none
def wY(i:Nat)(rg:Option Nat)(te:DE):DS:=λP ρ=>te ρ λk d=>match stK rg ρ i (norm k d) d with
 |some s=>P.nx (ρ.set i s)
 |none=>False
section
variable {p:Pn}{H0 H H1:Hp}{own:Addr->Option Nat}{σ:L2.St}{ρ:List Sl}{i:Nat}
def EnvD.set{v:V}{s:Sl}(E:EnvD p H0 own σ H ρ)(hs:i<σ.length->jU p H0 own (σ.set i (some v)) H i s):EnvD p H0 own (σ.set i (some v)) H (ρ.set i s):=by
 refine⟨E.k0,E.pen,E.ow,λj s' e=>?_,by simpa using E.len,E.gr⟩
 by_cases hj:j=i
 ·subst hj
  have hl:j<ρ.length:=by
   have:=(Ö.mp e).1
   simpa using this
  rw[ē hl] at e
  cases e
  exact hs (by rw[←E.len];exact hl)
 ·rw[ō (ġ hj)] at e
  have q:=E.slot j s' e
  have eq:(σ.set i (some v))[j]?=σ[j]?:=ō (ġ hj)
  cases s' <;> simp only[jU,eq] at q ⊢ <;> exact q
def cZ(r:Nat)(H H1:Hp)(own:Addr->Option Nat):Addr->Option Nat:=λa=>match H a,H1 a with
 |none,some _=>some r
 |_,_=>own a
def bG{r:Nat}{a:Addr}{o:HO}(h:H a=some o):cZ r H H1 own a=own a:=by unfold cZ;rw[h]
def pA{r:Nat}{a:Addr}{o:HO}(h:H a=none)(h1:H1 a=some o):cZ r H H1 own a=some r:=by unfold cZ;rw[h,h1]
def EnvD.adopt(r:Nat)(E:EnvD p H0 own σ H ρ)(A:At p H0 own H H1):EnvD p H0 (cZ r H H1 own) σ H1 ρ:=by
 have tp:=lW E.at A.kp
 refine⟨λb o e n=>A.kp b o (E.k0 b o e n) n,A.pen,λa q e=>?_,λj s e=>?_,E.len,E.gr⟩
 ·cases h:H a with
  |some o =>
   rw[bG h] at e
   obtain⟨x,y,z⟩:=E.ow a q e
   refine⟨x,y,by rw[A.kp a o h y];exact λz=>nomatch z⟩
  |none =>
   cases h1:H1 a with
   |none =>
    have e':own a=some q:=by rw[←e];unfold cZ;rw[h,h1]
    exact absurd h (E.ow a q e').2.2
   |some o=>exact⟨E.at.h0 h,E.at.nfb h,λz=>nomatch z⟩
 ·have q:=E.slot j s e
  cases s with
  |any=>trivial
  |im d=>exact let ⟨v,a,b⟩:=q;⟨v,a,b.mono (λ_ o=>o) (λ_ _ o=>o.elim) tp⟩
  |sh d=>exact let ⟨v,a,b⟩:=q;⟨v,a,b.cT (λc o n h=>⟨⟨n.1,by rw[bG h];exact n.2⟩,A.kp c o h n.1⟩) tp⟩
  |sn d=>exact let ⟨v,a,b⟩:=q;⟨v,a,b.cT (λc o n h=>⟨⟨n.1,n.2.1,by rw[bG h];exact n.2.2⟩,A.kp c o h n.2.1⟩) tp⟩
  |dw r' d=>exact let ⟨v,a,b⟩:=q;⟨v,a,b.cT (λc o n h=>⟨by rw[bG h];exact n,A.kp c o h (E.ow c r' n).2.1⟩) tp⟩
  |pen C=>exact q
  |rw r' L=>exact let ⟨st,as,a,b⟩:=q;⟨st,as,a,b.mono (λc o n h=>⟨by rw[bG h];exact n,A.kp c o h (E.ow c r' n).2.1⟩) tp⟩
  |tw r' L=>exact let ⟨st,as,a,b⟩:=q;⟨st,as,a,b.mono (λc o n h=>⟨by rw[bG h];exact n,A.kp c o h (E.ow c r' n).2.1⟩) tp⟩
  |scr v b=>exact q
  |sp r' b ds=>exact let ⟨l,vs,a,o,h,z⟩:=q;⟨l,vs,a,by rw[bG h];exact o,A.kp l _ h (E.ow l r' o).2.1,z.cT (λc u n e=>⟨⟨n.1,n.2.1,by rw[bG e];exact n.2.2⟩,A.kp c u e n.2.1⟩) tp⟩
def K7{r:Nat}{k:Kd}{v:V}{d:D}(h:k.le .new=true)(A:At p H0 own H H1)(x:Rp (okK p H0 own H k) H1 v d):Rp (λa=>cZ r H H1 own a=some r) H1 v d :=
 (kI A h x).cT (λa o n e=>⟨pA n e,e⟩) λ_ _ e=>e
def pB{r:Nat}(A:At p H0 own H H1):FrS p own H (cZ r H H1 own) H1:=⟨λb o h n e=>⟨A.kp b o h n,by rw[bG h];exact e⟩,A.tups⟩
def EnvD.drop(E:EnvD p H0 own σ H ρ):EnvD p H0 own σ H (ρ.set i .any):=by
 refine⟨E.k0,E.pen,E.ow,λj s' e=>?_,by simpa using E.len,E.gr⟩
 by_cases hj:j=i
 ·subst hj
  have hl:j<ρ.length:=by
   have:=(Ö.mp e).1
   simpa using this
  rw[ē hl] at e
  cases e
  trivial
 ·rw[ō (ġ hj)] at e
  exact E.slot j s' e
def aO(r:Nat)(own:Addr->Option Nat):Addr->Option Nat:=λa=>if own a=some r then none else own a
def EnvD.clear{r:Nat}(E:EnvD p H0 own σ H ρ)(h:ρ.all (λs=>s.region != some r)=true):EnvD p H0 (aO r own) σ H ρ:=by
 refine⟨E.k0,E.pen,λa q e=>?_,λj s e=>?_,E.len,E.gr⟩
 ·unfold aO at e
  split at e
  ·cases e
  ·exact E.ow a q e
 ·have q:=E.slot j s e
  have z:=ü.mp h s (Ò e)
  have c0:∀a,own a=none->aO r own a=none:=λa n=>by unfold aO;rw[n];simp
  cases s with
  |any=>trivial
  |im d=>exact q
  |sh d=>exact let ⟨v,a,b⟩:=q;⟨v,a,b.mono (λc n=>⟨n.1,c0 c n.2⟩) (λ_ _ _ e=>e) λ_ _ e=>e⟩
  |sn d=>exact let ⟨v,a,b⟩:=q;⟨v,a,b.mono (λc n=>⟨n.1,n.2.1,c0 c n.2.2⟩) (λ_ _ _ e=>e) λ_ _ e=>e⟩
  |dw r' d =>
   have hne:r'≠r:=by simpa[Sl.region] using z
   exact let ⟨v,a,b⟩:=q;⟨v,a,b.mono (λc n=>by unfold aO;rw[n,if_neg (by simpa using hne)]) (λ_ _ _ e=>e) λ_ _ e=>e⟩
  |pen C=>exact q
  |rw r' L =>
   have hne:r'≠r:=by simpa[Sl.region] using z
   exact let ⟨st,as,a,b⟩:=q;⟨st,as,a,b.mono (λc o n e=>⟨by unfold aO;rw[n,if_neg (by simpa using hne)],e⟩) λ_ _ e=>e⟩
  |tw r' L =>
   have hne:r'≠r:=by simpa[Sl.region] using z
   exact let ⟨st,as,a,b⟩:=q;⟨st,as,a,b.mono (λc o n e=>⟨by unfold aO;rw[n,if_neg (by simpa using hne)],e⟩) λ_ _ e=>e⟩
  |scr v b=>exact q
  |sp r' b ds =>
   have hne:r'≠r:=by simpa[Sl.region] using z
   exact let ⟨l,vs,a,o,h,y⟩:=q;⟨l,vs,a,by unfold aO;rw[o,if_neg (by simpa using hne)],h,y.mono (λc n=>⟨n.1,n.2.1,c0 c n.2.2⟩) (λ_ _ _ e=>e) λ_ _ e=>e⟩
def iw{r:Nat}:FrS p own H (aO r own) H:=⟨λb o h n e=>⟨h,by unfold aO;rw[e];simp⟩,λ_ _ e=>e⟩
end
def cQ{i:Nat}(rg:Option Nat)(h:PS X st (sO (dB te) (jJ i))):PDS X st (wY i rg te):=PS.wk' h (by
 rintro Q σ H ⟨p,H0,own,ρ,P,E,t,w⟩
 refine⟨p,H0,own,ρ,_,E,t,λk d v H1 h A r=>?_⟩
 have r:=aR r
 generalize norm k d=k' at h r
 show Q.nx (σ.set i (some v)) H1
 have E1:=E.go A.kp A.pen
 have fin:∀s,jU p H0 own (σ.set i (some v)) H1 i s\/¬i<σ.length->P.nx (ρ.set i s)->Q.nx (σ.set i (some v)) H1:=λs hs hn =>
  w.nx own _ H1 _ (E1.set λhl=>hs.elim id λz=>absurd hl z) A.frs hn
 have here:i<σ.length->(σ.set i (some v))[i]?=some (some v):=λhl=>ē hl
 by_cases hl:i<σ.length
 ·cases k' with
  |imm=>exact fin (.im d) (.inl ⟨v,here hl,r⟩) h
  |new =>
   cases rg with
   |none=>exact fin (.sn d) (.inl ⟨v,here hl,kI A (k:=.snw) rfl r⟩) h
   |some q =>
    simp only[stK] at h
    by_cases hf:lg q ρ i=true
    ·rw[if_pos hf] at h
     have E2:EnvD p H0 (aO q own) σ H (ρ.set i .any):=(E.drop (i:=i)).clear hf
     have A2:At p H0 (aO q own) H H1:=⟨A.k0,A.kp,A.penb,A.pen,E2.ow⟩
     have E3:=E2.adopt q A2
     have r2:Rp (okK p H0 (aO q own) H .new) H1 v d:=r
     have E4:EnvD p H0 (cZ q H H1 (aO q own)) (σ.set i (some v)) H1 ((ρ.set i .any).set i (.dw q d)):=E3.set λ_=>⟨v,here hl,K7 (k:=.new) rfl A2 r2⟩
     rw[List.set_set] at E4
     exact w.nx _ _ H1 _ E4 (iw.trans (pB A2)) h
    ·rw[if_neg hf] at h
     exact h.elim
  |reg q=>exact fin (.dw q d) (.inl ⟨v,here hl,r⟩) h
  |n0=>exact h.elim
  |snw=>exact fin (.sn d) (.inl ⟨v,here hl,r⟩) h
  |shr=>exact fin (.sh d) (.inl ⟨v,here hl,r⟩) h
  |wk=>exact h.elim
 ·cases hs:stK rg ρ i k' d with
  |none=>rw[hs] at h;exact h.elim
  |some s=>rw[hs] at h;exact fin s (.inr hl) h)
end
variable [Gr]
section
variable {ok ok':Addr->Prop}{H:Hp}
mutual
def Rp.inj:∀{v:V}{d d':D},Rp ok H v d->Rp ok' H v d'->d=d'
 |_,_,_,.non,.non=>rfl
 |_,_,_,.bl b,.bl _=>rfl
 |_,_,_,.int i,.int _=>rfl
 |_,_,_,.str x,.str _=>rfl
 |_,_,_,.lst o h r,.lst o' h' r'=>by
  rw[h] at h';cases h'
  rw[Rps.inj r r']
 |_,_,_,.lst o h r,.tup h' r'=>by rw[h] at h';cases h'
 |_,_,_,.lst o h r,.dct o' h' r'=>by rw[h] at h';cases h'
 |_,_,_,.tup h r,.lst o' h' r'=>by rw[h] at h';cases h'
 |_,_,_,.tup h r,.tup h' r'=>by
  rw[h] at h';cases h'
  rw[Rps.inj r r']
 |_,_,_,.tup h r,.dct o' h' r'=>by rw[h] at h';cases h'
 |_,_,_,.dct o h r,.lst o' h' r'=>by rw[h] at h';cases h'
 |_,_,_,.dct o h r,.tup h' r'=>by rw[h] at h';cases h'
 |_,_,_,.dct o h r,.dct o' h' r'=>by
  rw[h] at h';cases h'
  rw[Rkv.inj r r']
 |_,_,_,.lst o h r,.dcT o' h'=>by rw[h] at h';cases h'
 |_,_,_,.dcT o h,.lst o' h' r'=>by rw[h] at h';cases h'
 |_,_,_,.tup h r,.dcT o' h'=>by rw[h] at h';cases h'
 |_,_,_,.dcT o h,.tup h' r'=>by rw[h] at h';cases h'
 |_,_,_,.dct o h r,.dcT o' h'=>by rw[h] at h';cases h'
 |_,_,_,.dcT o h,.dct o' h' r'=>by rw[h] at h';cases h'
 |_,_,_,.dcT o h,.dcT o' h'=>rfl
def Rps.inj:∀{v:List V}{d d':List D},Rps ok H v d->Rps ok' H v d'->d=d'
 |_,_,_,.nil,.nil=>rfl
 |_,_,_,.cons h t,.cons h' t'=>by rw[Rp.inj h h',Rps.inj t t']
def Rkv.inj:∀{v:List (Key×V)}{d d':List (D×D)},Rkv ok H v d->Rkv ok' H v d'->d=d'
 |_,_,_,.nil,.nil=>rfl
 |_,_,_,.cons h t,.cons h' t'=>by rw[Rp.inj h h',Rkv.inj t t']
end
variable {l:Addr}{T:D}
mutual
def Rp.avoid(h0:Rp ok' H (.ref l) T):∀{v:V}{d:D},Rp ok H v d->sizeOf d<sizeOf T->Rp (λa=>ok a/\a≠l) H v d
 |_,_,.non,_=>.non
 |_,_,.bl b,_=>.bl b
 |_,_,.int i,_=>.int i
 |_,_,.str x,_=>.str x
 |_,_,.lst (ds:=ds) o h r,s=>.lst ⟨o,λz=>by
   subst z
   have e:=Rp.inj (Rp.lst o h r) h0
   rw[e] at s
   exact absurd s (Ā _)⟩ h (Rps.avoid h0 r (by simp only[PyData.list.sizeOf_spec] at s;omega))
 |_,_,.tup (ds:=ds) h r,s=>.tup h (Rps.avoid h0 r (by simp only[PyData.tuple.sizeOf_spec] at s;omega))
 |_,_,.dct (ds:=ds) o h r,s=>.dct ⟨o,λz=>by
   subst z
   have e:=Rp.inj (Rp.dct o h r) h0
   rw[e] at s
   exact absurd s (Ā _)⟩ h (Rkv.avoid h0 r (by simp only[PyData.dict.sizeOf_spec] at s;omega))
 |_,_,.dcT o h,s=>.dcT ⟨o,λz=>by
   subst z
   have e:=Rp.inj (Rp.dcT o h) h0
   rw[e] at s
   exact absurd s (Ā _)⟩ h
def Rps.avoid(h0:Rp ok' H (.ref l) T):∀{v:List V}{d:List D},Rps ok H v d->sizeOf d<sizeOf T->Rps (λa=>ok a/\a≠l) H v d
 |_,_,.nil,_=>.nil
 |_,_,.cons h t,s=>.cons (Rp.avoid h0 h (by simp only[Ŵ] at s;omega)) (Rps.avoid h0 t (by simp only[Ŵ] at s;omega))
def Rkv.avoid(h0:Rp ok' H (.ref l) T):∀{v:List (Key×V)}{d:List (D×D)},Rkv ok H v d->sizeOf d<sizeOf T->Rkv (λa=>ok a/\a≠l) H v d
 |_,_,.nil,_=>.nil
 |_,_,.cons h t,s=>.cons (Rp.avoid h0 h (by simp only[Ŵ,Prod.mk.sizeOf_spec] at s;omega)) (Rkv.avoid h0 t (by simp only[Ŵ] at s;omega))
end
end
def forget(r:Nat)(ρ:List Sl):List Sl:=ρ.map λs=>if s.region=some r then .any else s
section
variable {p:Pn}{H0 H H1:Hp}{own:Addr->Option Nat}{σ:L2.St}{ρ:List Sl}{i:Nat}
def EnvD.write{r:Nat}{l:Addr}{u o':HO}(E:EnvD p H0 own σ H ρ)(hl:own l=some r)(ho:H l=some u)(hu:∀xs,u≠.tup xs)(hc:¬Fxd u:=by rintro⟨_,_,z⟩;cases z):EnvD p H0 own σ (upd H l o') (forget r ρ):=by
 have h0:=E.ow l r hl
 have tp:∀a xs,H a=some (.tup xs)->upd H l o' a=some (.tup xs):=λa xs e=>by
  rw[aq];exact e
  intro z;subst z;rw[ho] at e;exact hu xs (ç e)
 refine⟨λb o e n=>?_,p.mono H _ E.pen λb o f e=>?_,λa q e=>?_,λj s e=>?_,by unfold forget;rw[Á];exact E.len,E.gr⟩
 ·rw[aq];exact E.k0 b o e n
  intro z;subst z;rw[h0.1] at e;cases e
 ·rw[aq];exact e
  intro z;subst z;exact f.elim h0.2.1 λc=>hc (by rw[ho] at e;cases e;exact c)
 ·obtain⟨x,y,z⟩:=E.ow a q e
  refine⟨x,y,?_⟩
  by_cases hh:a=l
  ·subst hh;rw[au];exact λz=>nomatch z
  ·rw[aq hh];exact z
 ·unfold forget at e
  rw[è] at e
  cases hr:ρ[j]? with
  |none=>rw[hr] at e;cases e
  |some s0 =>
   rw[hr] at e
   have e:=ç e
   have q:=E.slot j s0 hr
   have ne:∀c,own c≠some r->c≠l:=λc n z=>by subst z;exact n hl
   cases s0 with
   |any=>simp only[Sl.region] at e;subst e;trivial
   |im d =>
    have e:Sl.im d=s:=e
    subst e
    exact let ⟨v,a,b⟩:=q;⟨v,a,b.mono (λ_ o=>o) (λ_ _ o=>o.elim) tp⟩
   |sh d =>
    have e:Sl.sh d=s:=e
    subst e
    exact let ⟨v,a,b⟩:=q;⟨v,a,b.mono (λ_ o=>o) (λc o n e=>by rw[aq (ne c (by rw[n.2];exact λz=>nomatch z))];exact e) tp⟩
   |sn d =>
    have e:Sl.sn d=s:=e
    subst e
    exact let ⟨v,a,b⟩:=q;⟨v,a,b.mono (λ_ o=>o) (λc o n e=>by rw[aq (ne c (by rw[n.2.2];exact λz=>nomatch z))];exact e) tp⟩
   |dw r' d =>
    by_cases hrr:r'=r
    ·subst hrr
     have e:(if (some r':Option Nat)=some r' then Sl.any else Sl.dw r' d)=s:=e
     rw[if_pos rfl] at e
     subst e
     trivial
    ·have e:(if (some r':Option Nat)=some r then Sl.any else Sl.dw r' d)=s:=e
     rw[if_neg (by simpa using hrr)] at e
     subst e
     exact let ⟨v,a,b⟩:=q;⟨v,a,b.mono (λ_ o=>o) (λc o n e=>by rw[aq (ne c (by rw[n];simpa using hrr))];exact e) tp⟩
   |pen C =>
    have e:Sl.pen C=s:=e
    subst e
    exact q
   |scr v b =>
    have e:Sl.scr v b=s:=e
    subst e
    exact q
   |sp r' b ds =>
    by_cases hrr:r'=r
    ·subst hrr
     have e:(if (some r':Option Nat)=some r' then Sl.any else Sl.sp r' b ds)=s:=e
     rw[if_pos rfl] at e
     subst e
     trivial
    ·have e:(if (some r':Option Nat)=some r then Sl.any else Sl.sp r' b ds)=s:=e
     rw[if_neg (by simpa using hrr)] at e
     subst e
     exact let ⟨l',vs,a,o,h,y⟩:=q;⟨l',vs,a,o,by rw[aq (ne l' (by rw[o];simpa using hrr))];exact h,y.mono (λ_ o=>o) (λc o n e=>by rw[aq (ne c (by rw[n.2.2];exact λz=>nomatch z))];exact e) tp⟩
   |rw r' L =>
    by_cases hrr:r'=r
    ·subst hrr
     have e:(if (some r':Option Nat)=some r' then Sl.any else Sl.rw r' L)=s:=e
     rw[if_pos rfl] at e
     subst e
     trivial
    ·have e:(if (some r':Option Nat)=some r then Sl.any else Sl.rw r' L)=s:=e
     rw[if_neg (by simpa using hrr)] at e
     subst e
     exact let ⟨st,as,a,b⟩:=q;⟨st,as,a,b.mono (λc o n e=>⟨n,by rw[aq (ne c (by rw[n];simpa using hrr))];exact e⟩) tp⟩
   |tw r' L =>
    by_cases hrr:r'=r
    ·subst hrr
     have e:(if (some r':Option Nat)=some r' then Sl.any else Sl.tw r' L)=s:=e
     rw[if_pos rfl] at e
     subst e
     trivial
    ·have e:(if (some r':Option Nat)=some r then Sl.any else Sl.tw r' L)=s:=e
     rw[if_neg (by simpa using hrr)] at e
     subst e
     exact let ⟨st,as,a,b⟩:=q;⟨st,as,a,b.mono (λc o n e=>⟨n,by rw[aq (ne c (by rw[n];simpa using hrr))];exact e⟩) tp⟩
def tG{r:Nat}{l:Addr}{u o':HO}(hl:own l=some r)(ho:H l=some u)(hu:∀xs,u≠.tup xs):FrS p own H own (upd H l o'):=by
 refine⟨λb o h n e=>⟨?_,e⟩,λa xs e=>?_⟩
 ·rw[aq];exact h
  intro z;subst z;rw[hl] at e;cases e
 ·rw[aq];exact e
  intro z;subst z;rw[ho] at e;exact hu xs (ç e)
def EnvD.put{v:V}{s:Sl}(E:EnvD p H0 own σ H ρ)(hs:jU p H0 own σ H i s):EnvD p H0 own σ H (ρ.set i s):=by
 refine⟨E.k0,E.pen,E.ow,λj s' e=>?_,by simpa using E.len,E.gr⟩
 by_cases hj:j=i
 ·subst hj
  have hl:j<ρ.length:=by
   have:=(Ö.mp e).1
   simpa using this
  rw[ē hl] at e
  cases e
  exact hs
 ·rw[ō (ġ hj)] at e
  exact E.slot j s' e
def EnvD.vd{r:Nat}{l:Addr}{vs vs':List V}{ds ds':List D}(E:EnvD p H0 own σ H ρ)(A:At p H0 own H H1)(hv:σ[i]?=some (some (.ref l)))(hl:own l=some r)(ho:H l=some (.lst vs))(rs:Rps (λa=>own a=some r) H vs ds)(hs:∀H2,(∀{w:V}{d:D},Rp (λa=>own a=some r) H w d->sizeOf d<sizeOf (ÿ ds)->Rp (λa=>cZ r H H1 own a=some r) H2 w d)->(∀{w:V}{d:D},Rp (okK p H0 own H .new) H1 w d->Rp (λa=>cZ r H H1 own a=some r) H2 w d)->Rps (λa=>cZ r H H1 own a=some r) H2 vs' ds') :
  EnvD p H0 (cZ r H H1 own) σ (upd H1 l (.lst vs')) ((forget r ρ).set i (.dw r (.list ds')))/\FrS p own H (cZ r H H1 own) (upd H1 l (.lst vs')):=by
 have h1:H1 l=some (.lst vs):=A.kp l _ ho (E.ow l r hl).2.1
 have hl':cZ r H H1 own l=some r:=by rw[bG ho];exact hl
 have E1:=(E.adopt r A).write (o':=.lst vs') hl' h1 (λxs z=>nomatch z)
 have tp:∀a xs,H1 a=some (.tup xs)->upd H1 l (.lst vs') a=some (.tup xs):=λa xs e=>by
  rw[aq];exact e
  intro z;subst z;rw[h1] at e;cases e
 refine⟨E1.put (v:=.ref l) ⟨.ref l,hv,.lst hl' au (hs _ ?_ ?_)⟩,(pB A).trans (tG hl' h1 λxs z=>nomatch z)⟩
 ·intro w d x sz
  have x1:=Rp.avoid (Rp.lst (ok:=λa=>own a=some r) hl ho rs) x sz
  exact x1.cT (λa o n e=>⟨by rw[bG e];exact n.1,by rw[aq n.2];exact A.kp a o e (E.ow a r n.1).2.1⟩) λa xs e=>tp a xs (lW E.at A.kp a xs e)
 ·intro w d x
  exact x.cT (λa o n e=>⟨pA n e,by rw[aq (λz=>by subst z;rw[ho] at n;cases n)];exact e⟩) tp
end
section
variable {X:Cx}{pos:Pos}{st:Stmt}{e:Expr}{te:DE}{i:Nat}{ta:DA}
def oh{d:D}{ds:List D}(h:d∈ds):sizeOf d<sizeOf (ÿ ds):=by
 have:=List.sizeOf_lt_of_mem h
 simp only[PyData.list.sizeOf_spec]
 omega
def pZ{ok ok':Addr->Prop}{H H2:Hp}{T:D}(f:∀{w:V}{d:D},Rp ok H w d->sizeOf d<sizeOf T->Rp ok' H2 w d):∀{vs:List V}{ds:List D},Rps ok H vs ds->(∀d∈ds,sizeOf d<sizeOf T)->Rps ok' H2 vs ds
 |_,_,.nil,_=>.nil
 |_,_,.cons h t,s=>.cons (f h (s _ À)) (pZ f t λd hd=>s d (Ä _ hd))
def SM(i:Nat)(te:DE):DS:=λP ρ=>match ρ[i]? with
 |some (.dw r (.list ds))=>te ρ λk d=>(norm k d).le .new=true/\ds.length<1000/\P.nx ((forget r ρ).set i (.dw r (.list (ds++[d]))))
 |_=>False
def dX(h:PS X st (tL (tBM X.K "list" vg (jf i) (jd (bM te iy))))):PDS X st (SM i te):=PS.wk' h (by
 rintro Q σ H ⟨p,H0,own,ρ,P,E,t,w⟩
 unfold SM at t
 split at t
 ·rename_i r ds hr
  obtain⟨v,hv,x⟩:=E.slot i _ hr
  obtain⟨l,vs,rfl,hl,ho,rs⟩:=x.cN
  refine⟨.ref l,hv,.inl ⟨rfl,vs,SqL.of ho⟩,p,H0,own,ρ,λks=>∃k d,ks=[(k,d)]/\(norm k d).le .new=true/\ds.length<1000/\P.nx ((forget r ρ).set i (.dw r (.list (ds++[d])))),E,?_,?_⟩
  ·show te ρ λk d=>∃k' d',[(k,d)]=[(k',d')]/\_
   have e:(λk d=>∃k' d',[((k,d):Kd×D)]=[(k',d')]/\(norm k' d').le .new=true/\ds.length<1000/\P.nx ((forget r ρ).set i (.dw r (.list (ds++[d'])))))=λk d=>(norm k d).le .new=true/\ds.length<1000/\P.nx ((forget r ρ).set i (.dw r (.list (ds++[d])))):=by
    funext k d
    apply propext
    constructor
    ·rintro⟨k',d',e,h⟩
     cases e
     exact h
    ·exact λh=>⟨k,d,rfl,h⟩
   rw[e]
   exact t
  ·rintro ks ws H1 ⟨k,d,rfl,hk,hlen,hn⟩ A rk
   obtain⟨y,rfl,ry⟩:=fJ rk
   have ry:=kI A hk (aR ry)
   have h1:H1 l=some (.lst vs):=A.kp l _ ho (E.ow l r hl).2.1
   have h24:=é
   have hln:=rs.length
   refine⟨l,vs,y,rfl,rfl,h1,by omega,?_⟩
   obtain⟨E2,F2⟩:=E.vd (vs':=vs++[y]) (ds':=ds++[d]) A hv hl ho rs λH2 f g=>(pZ f rs λd hd=>oh hd).snoc (g ry)
   exact w.nx _ σ _ _ E2 F2 hn
 ·exact t.elim)
end
variable [Gr]
abbrev DG:=Kd->D->List Sl->(List Sl->Prop)->Prop
abbrev DGs:=Kd->List D->List Sl->(List Sl->Prop)->Prop
def qI(k:Kd)(d:D):Sl:=match k with
 |.imm=>.im d
 |.new=>.sn d
 |.reg r=>.dw r d
 |.snw=>.sn d
 |.shr=>.sh d
 |_=>.any
def okB(p:Pn)(H0:Hp)(own:Addr->Option Nat):Kd->Addr->Prop
 |.imm=>λ_=>False
 |.new=>λa=>H0 a=none/\¬p.fp a/\own a=none
 |.reg r=>λa=>own a=some r
 |.snw=>λa=>H0 a=none/\¬p.fp a/\own a=none
 |.shr=>λa=>¬p.fp a/\own a=none
 |.n0=>λ_=>True
 |.wk=>λ_=>True
def JK(g:DG):TG:=λv σ H Q=>∃p H0 own ρ k d P,EnvD p H0 own σ H ρ/\Rp (okB p H0 own k) H v d/\g k d ρ P/\∀σ' ρ',EnvD p H0 own σ' H ρ'->P ρ'->Q σ' H
def rJ(g:DGs):TGs:=λvs σ H Q=>∃p H0 own ρ k ds P,EnvD p H0 own σ H ρ/\Rps (okB p H0 own k) H vs ds/\g k ds ρ P/\∀σ' ρ',EnvD p H0 own σ' H ρ'->P ρ'->Q σ' H
abbrev PDG(X:Cx)(e:Expr)(g:DG):Prop:=PG X e (JK g)
def PG.wk{X:Cx}{e:Expr}{t t':TG}(h:PG X e t)(w:∀v σ H Q,t' v σ H Q->t v σ H Q):PG X e t':=λpins s σ H v u Q I r q=>h pins s σ H v u Q I r (w v σ H Q q)
def PGs.wk{X:Cx}{e:List Expr}{t t':TGs}(h:PGs X e t)(w:∀v σ H Q,t' v σ H Q->t v σ H Q):PGs X e t':=λpins s σ H v u Q I r q=>h pins s σ H v u Q I r (w v σ H Q q)
def jr{p:Pn}{H0 H:Hp}{own:Addr->Option Nat}{k:Kd}{v:V}{d:D}(r:Rp (okB p H0 own k) H v d):Rp (okB p H0 own (norm k d)) H v d:=by
 by_cases h:d8 d=true
 ·rw[rD h];exact r.imm h
 ·rw[bR h];exact r
section
variable {X:Cx}{pos:Pos}{e:Expr}{es:List Expr}
def gNm(i:Nat):DG:=λk d ρ P=>P (ρ.set i (qI (norm k d) d))
def Hw{p:Pn}{H0 H:Hp}{own:Addr->Option Nat}{σ:L2.St}{i:Nat}{k:Kd}{v:V}{d:D}(r:Rp (okB p H0 own k) H v d)(h:σ[i]?=some (some v)):jU p H0 own σ H i (qI k d):=by
 cases k with
 |imm=>exact⟨v,h,r⟩
 |new=>exact⟨v,h,r⟩
 |reg q=>exact⟨v,h,r⟩
 |n0=>trivial
 |snw=>exact⟨v,h,r⟩
 |shr=>exact⟨v,h,r⟩
 |wk=>trivial
def aU{i:Nat}{x:Str}(h:PG X (.Name x pos) (jJ i)):PDG X (.Name x pos) (gNm i):=PG.wk h (by
 rintro v σ H Q ⟨p,H0,own,ρ,k,d,P,E,r,t,q⟩
 exact q _ _ (E.set λhl=>Hw (jr r) (ē hl)) t)
def DQ:DGs:=λ_ ds ρ P=>match ds with
 |[]=>P ρ
 |_=>False
def oX(g:DG)(gs:DGs):DGs:=λk ds ρ P=>match ds with
 |d::r=>g (norm k d) d ρ λρ'=>gs k r ρ' P
 |[]=>False
def dU:PGs X [] (rJ DQ):=PGs.wk Mf (by
 rintro v σ H Q ⟨p,H0,own,ρ,k,ds,P,E,r,t,q⟩
 cases ds with
 |nil=>cases r;exact⟨rfl,q _ _ E t⟩
 |cons d ds=>exact t.elim)
def jN{g:DG}{gs:DGs}(h1:PDG X e g)(h2:PGs X es (rJ gs))(hs:(assignEach (e::es) X.env).map (·.2)=assign e X.env::(assignEach es X.env).map (·.2):=by rfl):PGs X (e::es) (rJ (oX g gs)):=PGs.wk (Il h1 h2 hs) (by
 rintro v σ H Q ⟨p,H0,own,ρ,k,ds,P,E,r,t,q⟩
 cases r with
 |nil=>exact t.elim
 |cons r rs =>
  exact⟨_,_,rfl,p,H0,own,ρ,_,_,_,E,jr r,t,λσ' ρ' E' t'=>⟨p,H0,own,ρ',k,_,P,E',rs,t',q⟩⟩)
def gTp(n:Nat)(gs:DGs):DG:=λk d ρ P=>match d with
 |.tuple ds=>ds.length=n/\gs k ds ρ P
 |_=>False
def fU{gs:DGs}{k n:Nat}(hc:X.calm=true)(h:PGs X es (rJ gs))(hn:(assignEach es X.env).length=n:=by rfl)(hst:(assignEach es X.env).findIdx? (·.1)=none:=by rfl):PDG X (.Tuple es k pos) (gTp n gs):=PG.wk (QS hc h hn hst) (by
 rintro v σ H Q ⟨p,H0,own,ρ,k,d,P,E,r,t,q⟩
 cases d with
 |tuple ds =>
  obtain⟨a,vs,rfl,ha,rs⟩:=r.eN
  exact⟨a,vs,rfl,SqT.of ha,by rw[rs.length];exact t.1,p,H0,own,ρ,k,ds,P,E,rs,t.2,q⟩
 |_=>exact t.elim)
end
structure Wlk(Ok:Hp->Prop)(J:It)(ds:List D)(ok:Addr->Prop):Prop where
 go:∀i H,Ok H->i<ds.length->J.go i H
 stop:∀H,Ok H->J.stop ds.length H
 yld:∀i H x H',Ok H->J.yld i H x H'->Same H H'/\∀d,ds[i]?=some d->Rp ok H' x d
 stab:∀H H',Ok H->(∀b o,ok b->H b=some o->H' b=some o)->(∀a xs,H a=some (.tup xs)->H' a=some (.tup xs))->Ok H'
abbrev DI:=List Sl->(Kd->List D->Prop)->Prop
def okA(p:Pn)(H0:Hp)(own:Addr->Option Nat)(Hb:Hp)(k:Kd)(H:Hp)(a:Addr):Prop:=okK p H0 own Hb k a/\∃o,H a=some o
def Pj(t:DI):TI:=λσ H R=>∃p H0 own ρ P,EnvD p H0 own σ H ρ/\t ρ P/\∀k ds J H1 Ok,P k ds->At p H0 own H H1->Wlk Ok J ds (okA p H0 own H k H1)->Ok H1->R J H1
abbrev PDI(X:Cx)(tg e:Expr)(t:DI):Prop:=PI X tg e (Pj t)
def PI.wk{X:Cx}{tg e:Expr}{t t':TI}(h:PI X tg e t)(w:∀σ H R,t' σ H R->t σ H R):PI X tg e t':=λpins s σ H R I q=>h pins s σ H R I (w σ H R q)
section
variable {X:Cx}{tg l:Expr}{tl:DE}{pos:Pos}{ta:DA}
def Hg{K:Ú}{ok:Addr->Prop}{a:Addr}{ds:List D}:Wlk (λH=>Rp ok H (.ref a) (.list ds)) (Itl K a) ds ok where
 go:=λi H r hi=>by
  obtain⟨b,vs,e,o,h,rs⟩:=r.cN
  cases e
  have:i<vs.length:=by rw[rs.length];exact hi
  exact⟨vs,vs[i],SqL.of h,by simp[this]⟩
 stop:=λH r=>by
  obtain⟨b,vs,e,o,h,rs⟩:=r.cN
  cases e
  exact⟨vs,SqL.of h,by rw[rs.length];exact É _⟩
 yld:=λi H x H' r y=>by
  obtain⟨rfl,y⟩:=y
  obtain⟨b,vs,e,o,h,rs⟩:=r.cN
  cases e
  refine⟨Same.refl _,λd hd=>?_⟩
  obtain⟨v,hv,rv⟩:=rs.getD hd
  have:=y vs (SqL.of h)
  rw[hv] at this
  cases this
  exact rv
 stab:=λH H' r f t=>r.cT (λa o n e=>⟨n,f a o n e⟩) t
def G9{K:Ú}{ok:Addr->Prop}{a:Addr}{ds:List D}:Wlk (λH=>Rp ok H (.ref a) (.tuple ds)) (Itt K a) ds ok where
 go:=λi H r hi=>by
  obtain⟨b,vs,e,h,rs⟩:=r.eN
  cases e
  have:i<vs.length:=by rw[rs.length];exact hi
  exact⟨vs,vs[i],SqT.of h,by simp[this]⟩
 stop:=λH r=>by
  obtain⟨b,vs,e,h,rs⟩:=r.eN
  cases e
  exact⟨vs,SqT.of h,by rw[rs.length];exact É _⟩
 yld:=λi H x H' r y=>by
  obtain⟨rfl,y⟩:=y
  obtain⟨b,vs,e,h,rs⟩:=r.eN
  cases e
  refine⟨Same.refl _,λd hd=>?_⟩
  obtain⟨v,hv,rv⟩:=rs.getD hd
  have:=y vs (SqT.of h)
  rw[hv] at this
  cases this
  exact rv
 stab:=λH H' r f t=>r.cT (λa o n e=>⟨n,f a o n e⟩) t
def xJ{ok:Addr->Prop}{lo:Int}{n:Nat}:Wlk (λ_=>True) (Itr lo n) ((Û n).map λi=>Ã (lo+((i:Nat):Int))) ok where
 go:=λi H r hi=>by
  have h:i<n:=by simpa using hi
  exact h
 stop:=λH r=>by show n<=_;simp
 yld:=λi H x H' r y=>by
  obtain⟨rfl,rfl⟩:=y
  refine⟨Same.refl _,λd hd=>?_⟩
  rw[è] at hd
  cases h:(Û n)[i]? with
  |none=>rw[h] at hd;cases hd
  |some j =>
   rw[h] at hd
   have e:=ç hd
   have hj:j=i:=by
    have:=Ö.mp h
    obtain⟨h1,h2⟩:=this
    simpa using h2.symm
   subst e hj
   exact .int _
 stab:=λ_ _ _ _ _=>trivial
def rpA{p:Pn}{H0 Hb H:Hp}{own:Addr->Option Nat}{k:Kd}{v:V}{d:D}(r:Rp (okK p H0 own Hb k) H v d):Rp (okA p H0 own Hb k H) H v d:=r.cT (λa o n e=>⟨⟨n,o,e⟩,e⟩) λ_ _ e=>e
def iSq(tl:DE):DI:=λρ P=>tl ρ λk d=>match d with
 |.list ds=>P k ds
 |.tuple ds=>P k ds
 |_=>False
def dR(hl:PD X l tl):PDI X tg l (iSq tl):=PI.wk (QL hl) (by
 rintro σ H R ⟨p,H0,own,ρ,P,E,t,q⟩
 refine⟨p,H0,own,ρ,_,E,t,λk d v H1 h A r=>?_⟩
 cases d with
 |list ds =>
  obtain⟨a,vs,rfl,o,ha,rs⟩:=r.cN
  exact⟨a,rfl,.inl ⟨⟨vs,SqL.of ha⟩,q k ds _ H1 _ h A Hg (rpA r)⟩⟩
 |tuple ds =>
  obtain⟨a,vs,rfl,ha,rs⟩:=r.eN
  exact⟨a,rfl,.inr ⟨⟨vs,SqT.of ha⟩,q k ds _ H1 _ h A G9 (rpA r)⟩⟩
 |_=>exact h.elim)
def fQ(lo:Int)(n:Nat):List D:=(Û n).map λi=>Ã (lo+((i:Nat):Int))
def iR1(ta:DA):DI:=λρ P=>ta ρ λks=>match ks with
 |[(_,.int j)]=>(-(2 ^ 62)<=j/\j<2 ^ 62)/\P .imm (fQ 0 j.toNat)
 |_=>False
def bT{a:Expr}{ps:Pos}(hm:X.mg "range"=none)(ha:PDA X [a] ta)(hg:Gl X "range":=by rfl)(hs:starEach [a] X.env=[(false,eval a X.env)]:=by rfl):PDI X tg (.Call (.Name "range" ps) [a] [] pos) (iR1 ta):=PI.wk (Fl hg hm ha hs) (by
 rintro σ H R ⟨p,H0,own,ρ,P,E,t,q⟩
 refine⟨p,H0,own,ρ,_,E,t,λks vs H1 h A r=>?_⟩
 split at h
 ·rename_i k j
  obtain⟨v,rfl,r'⟩:=fJ r
  exact⟨j,by rw[r'.int'],h.1.1,h.1.2,q _ _ _ H1 _ h.2 A xJ trivial⟩
 ·exact h.elim)
def iR2(ta:DA):DI:=λρ P=>ta ρ λks=>match ks with
 |[(_,.int i),(_,.int j)]=>(-(2 ^ 62)<=i/\i<2 ^ 62/\-(2 ^ 62)<=j/\j<2 ^ 62)/\P .imm (fQ i (j - i).toNat)
 |_=>False
def Gu{a b:Expr}{ps:Pos}(hm:X.mg "range"=none)(ha:PDA X [a,b] ta)(hg:Gl X "range":=by rfl)(hs:starEach [a,b] X.env=[(false,eval a X.env),(false,eval b X.env)]:=by rfl)(hs2:starEach [b] X.env=[(false,eval b X.env)]:=by rfl):PDI X tg (.Call (.Name "range" ps) [a,b] [] pos) (iR2 ta):=PI.wk (Fj hg hm ha hs hs2) (by
 rintro σ H R ⟨p,H0,own,ρ,P,E,t,q⟩
 refine⟨p,H0,own,ρ,_,E,t,λks vs H1 h A r=>?_⟩
 split at h
 ·rename_i k i k' j
  obtain⟨v,w,rfl,r',r2⟩:=Lx r
  exact⟨i,j,by rw[r'.int',r2.int'],h.1,q _ _ _ H1 _ h.2 A xJ trivial⟩
 ·exact h.elim)
end
variable [Gr]
def elK:Kd->Kd
 |.new=>.snw
 |k=>k
section
variable {X:Cx}{tg iter:Expr}{pos:Pos}{body:List Stmt}{ti:DI}{g:DG}{tb:DS}
def VD(ti:DI)(g:DG)(tb:DS):DS:=λP ρ=>ti ρ λk ds=>k.le .shr=true/\∃Iv:Nat->List Sl->Prop,Iv 0 ρ /\
 (∀i d ρ',ds[i]?=some d->Iv i ρ'->g (norm (elK k) d) d ρ' λρ2=>tb { nx:=Iv (i+1),ct:=Iv (i+1),bk:=P.nx,rt:=P.rt } ρ2)/\∀ρ',Iv ds.length ρ'->P.nx ρ'
def U3{p:Pn}{H0 Hb H1 H':Hp}{own own':Addr->Option Nat}{k:Kd}(hk:k.le .shr=true)(A:At p H0 own Hb H1)(F:FrS p own H1 own' H'){v:V}{d:D}{H2:Hp}(r:Rp (okA p H0 own Hb k H1) H2 v d):Rp (okB p H0 own' (elK k)) H2 v d:=by
 refine r.mono (λa n=>?_) (λ_ _ _ e=>e) λ_ _ e=>e
 obtain⟨o,u,hu⟩:=n
 have o2:¬p.fp a/\own a=none:=bW A (k:=.shr) hk o
 have f:=(F.keep a u hu o2.1 o2.2).2
 cases k with
 |imm=>exact o
 |new=>exact⟨A.h0 o,o2.1,f⟩
 |reg q=>cases hk
 |n0=>cases hk
 |snw=>exact⟨o.1,o2.1,f⟩
 |shr=>exact⟨o2.1,f⟩
 |wk=>cases hk
def eF(hp:PassesOwn (model X.prog X.w) X.A X.env X.xe)(hc:X.calm=true)(hi:PDI X tg iter ti)(hg:PDG X tg g)(hb:iz X body tb)(hs:zF X iter:=by intro _;rfl):PDS X (.For tg iter body [] pos) (VD ti g tb):=PS.wk' (QJ hp hc hi hg hb hs) (by
 rintro Q σ H ⟨p,H0,own,ρ,P,E,t,w⟩
 refine⟨p,H0,own,ρ,_,E,t,λk ds J H1 Ok h A W o1=>?_⟩
 obtain⟨hk,Iv,i0,step,done⟩:=h
 have w1:=w.go A.frs
 have okS:∀own' H',FrS p own H1 own' H'->Ok H':=λown' H' F=>W.stab H1 H' o1 (λb o n e=>by
  have o2:¬p.fp b/\own b=none:=bW A (k:=.shr) hk n.1
  exact(F.keep b o e o2.1 o2.2).1) F.tup
 refine⟨λi m σ' H'=>m=ds.length - i/\i<=ds.length/\∃own' ρ',EnvD p H0 own' σ' H' ρ'/\FrS p own H1 own' H'/\Iv i ρ',⟨_,rfl,ô _,own,ρ,E.go A.kp A.pen,FrS.refl,i0⟩,?_⟩
 rintro i m σ' H' ⟨rfl,hi,own',ρ',E',F',iv⟩
 have oH:=okS own' H' F'
 by_cases hlt:i<ds.length
 ·refine .inr ⟨W.go i H' oH hlt,λσ2 H2=>∃own' ρ',EnvD p H0 own' σ2 H2 ρ'/\FrS p own H1 own' H2/\Iv (i+1) ρ',λσ2 H2 h=>⟨_,by omega,rfl,hlt,h⟩,λx H2 y=>?_⟩
  obtain⟨sm,rx⟩:=W.yld i H' x H2 oH y
  have rx:=rx ds[i] (Ì hlt)
  have E2:EnvD p H0 own' σ' H2 ρ':=E'.go (Kp.of sm) (p.mono H' H2 E'.pen λb o _ e=>sm b o e)
  have F2:FrS p own H1 own' H2:=⟨λb o e n z=>let ⟨x,y⟩:=F'.keep b o e n z;⟨sm b o x,y⟩,λa xs e=>sm a _ (F'.tup a xs e)⟩
  refine⟨p,H0,own',ρ',_,_,_,E2,jr (U3 hk A F2 rx),step i ds[i] ρ' (Ì hlt) iv,λσ3 ρ3 E3 t3=>?_⟩
  have nxt:∀own4 σ4 H4 ρ4,EnvD p H0 own4 σ4 H4 ρ4->FrS p own' H2 own4 H4->Iv (i+1) ρ4->∃own' ρ',EnvD p H0 own' σ4 H4 ρ'/\FrS p own H1 own' H4/\Iv (i+1) ρ':=λown4 σ4 H4 ρ4 E4 F4 v4=>⟨own4,ρ4,E4,F2.trans F4,v4⟩
  exact⟨p,H0,own',ρ3,_,E3,t3,⟨nxt,w.rt,λo s h r e f n=>w1.nx o s h r e (F2.trans f) n,nxt⟩⟩
 ·have e:i=ds.length:=by omega
  subst e
  exact .inl ⟨W.stop H' oH,w1.nx own' σ' H' ρ' E' F' (done ρ' iv)⟩)
def Bw(tc:DT)(tb:DS):DS:=λP ρ=>∃Iv:Nat->List Sl->Prop,(∃m,Iv m ρ)/\∀m ρ',Iv m ρ'->tc ρ' λb =>
 if b=true then tb { nx:=λρ2=>∃m',m'<m/\Iv m' ρ2,ct:=λρ2=>∃m',m'<m/\Iv m' ρ2,bk:=P.nx,rt:=P.rt } ρ' else P.nx ρ'
def jM{c:Expr}{tc:DT}(hp:PassesOwn (model X.prog X.w) X.A X.env X.xe)(hc:PDT X c tc)(hb:iz X body tb):PDS X (.While c body [] pos) (Bw tc tb):=PS.wk' (Ib hp hc hb) (by
 rintro Q σ H ⟨p,H0,own,ρ,P,E,⟨Iv,⟨m,i0⟩,step⟩,w⟩
 refine⟨λm σ' H'=>∃own' ρ',EnvD p H0 own' σ' H' ρ'/\FrS p own H own' H'/\Iv m ρ',⟨m,own,ρ,E,FrS.refl,i0⟩,?_⟩
 rintro m σ1 H1 ⟨own1,ρ1,E1,F1,iv⟩
 refine⟨p,H0,own1,ρ1,_,E1,step m ρ1 iv,λb H2 h A=>?_⟩
 have F2:=F1.trans A.frs
 cases b with
 |true =>
  refine aK ⟨λσ' H'=>∃m',m'<m/\∃own' ρ',EnvD p H0 own' σ' H' ρ'/\FrS p own H own' H'/\Iv m' ρ',λσ' H' h=>h,?_⟩
  have nxt:∀own4 σ4 H4 ρ4,EnvD p H0 own4 σ4 H4 ρ4->FrS p own1 H2 own4 H4->(∃m',m'<m/\Iv m' ρ4)->∃m',m'<m/\∃own' ρ',EnvD p H0 own' σ4 H4 ρ'/\FrS p own H own' H4/\Iv m' ρ':=λown4 σ4 H4 ρ4 E4 F4 ⟨m',hm,v4⟩=>⟨m',hm,own4,ρ4,E4,F2.trans F4,v4⟩
  exact⟨p,H0,own1,ρ1,{ nx:=λρ2=>∃m',m'<m/\Iv m' ρ2,ct:=λρ2=>∃m',m'<m/\Iv m' ρ2,bk:=P.nx,rt:=P.rt },E1.go A.kp A.pen,by simpa using h,⟨nxt,w.rt,λo s h r e f n=>w.nx o s h r e (F2.trans f) n,nxt⟩⟩
 |false=>exact bD (w.nx own1 σ1 H2 ρ1 (E1.go A.kp A.pen) F2 (by simpa using h)))
end
def EnvD.comp{p:Pn}{H0 H:Hp}{own:Addr->Option Nat}{σ:L2.St}{ρ:List Sl}(n:Nat)(E:EnvD p H0 own σ H ρ):EnvD p H0 own (È n none++σ) H (È n .any++ρ):=by
 refine⟨E.k0,E.pen,E.ow,λj s e=>?_,by simp[E.len],E.gr⟩
 by_cases hj:j<n
 ·rw[ñ (by simpa using hj)] at e
  have:s=.any:=by
   rw[Ļ] at e
   rw[if_pos hj] at e
   exact(ç e).symm
  subst this
  trivial
 ·have e1:(È n Sl.any++ρ)[j]?=ρ[j - n]?:=by rw[ê (by simpa using hj)];simp
  have e2:(È n (none:Option V)++σ)[j]?=σ[j - n]?:=by rw[ê (by simpa using hj)];simp
  rw[e1] at e
  have q:=E.slot _ s e
  cases s <;> simp only[jU,e2] at q ⊢ <;> exact q
abbrev G3(X:Cx)(es:List Expr)(t:DT):Prop:=PTs X es (liftT t)
def dM{X:Cx}:G3 X [] (λ_ P=>P true):=λpins s σ H Q I h=>by
 obtain⟨p,H0,own,ρ,P,E,t,q⟩:=h
 exact LR pins s σ H Q I (q true H t E.at)
def eZ{X:Cx}{c:Expr}{t:DT}(hc:PDT X c t):G3 X [c] t:=LQ hc
def elC(k:Kd):Kd:=elK k
def dLC(n:Nat)(ti:DI)(g:DG)(tt:DT)(te:DE):DE:=λρ P=>ti ρ λk ds=>ds.length<=1000/\∃(ke:Kd) (Iv:Nat->List D->Prop),Iv 0 [] /\
 (∀i d ys,ds[i]?=some d->Iv i ys->g (norm (elC k) d) d (È n .any++ρ) λρ'=>tt ρ' λb=>if b=true then te ρ' λk' d'=>(norm k' d').le ke=true/\Iv (i+1) (ys++[d']) else Iv (i+1) ys) /\
 ∀ys,Iv ds.length ys->P (ke.join .new) (.list ys)
def U0{p:Pn}{H0 Hb H1:Hp}{own:Addr->Option Nat}{k:Kd}(A:At p H0 own Hb H1){v:V}{d:D}{H2:Hp}(r:Rp (okA p H0 own Hb k H1) H2 v d):Rp (okB p H0 own (elC k)) H2 v d:=by
 refine r.mono (λa n=>?_) (λ_ _ _ e=>e) λ_ _ e=>e
 obtain⟨o,u,hu⟩:=n
 cases k with
 |imm=>exact o
 |new=>exact⟨A.h0 o,A.nfb o,A.I9 o⟩
 |reg q=>exact o
 |n0=>trivial
 |snw=>exact o
 |shr=>exact o
 |wk=>trivial
section
variable {X:Cx}{own:List Str}{scope:Scope}{tg iter elt:Expr}{ifs:List Expr}{pos:Pos}{ti:DI}{g:DG}{tt:DT}{te:DE}
def j7{n:Nat}:∀σ H Q,dB (dLC n ti g tt te) σ H Q->tLC n (Pj ti) (λ_=>JK g) (λ_=>liftT tt) (λ_=>dB te) σ H Q:=by
 rintro σ H Q ⟨p,H0,own,ρ,P,E,t,q⟩
 refine⟨p,H0,own,ρ,_,E,t,λk ds J H1 Ok h A W o1=>?_⟩
 obtain⟨hlen,ke,Iv,i0,step,done⟩:=h
 have okS:∀H',Kp p H1 H'->p.PI H'->Ok H':=λH' K i=>W.stab H1 H' o1 (λb o n e=>K b o e (ni A n.1)) (lW A K)
 refine⟨λi m ys H'=>m=ds.length - i/\i<=ds.length/\Kp p H1 H'/\p.PI H'/\∃es,Rps (okK p H0 own H ke) H' ys es/\es.length<=i/\Iv i es,⟨_,rfl,ô _,Kp.refl,A.pen,[],.nil,É _,i0⟩,?_⟩
 rintro c i m ys H' ⟨rfl,hi,K',I',es,rs,hl,iv⟩
 have oH:=okS H' K' I'
 have A':=A.go K' I'
 have h24:=é
 by_cases hlt:i<ds.length
 ·refine .inr ⟨W.go i H' oH hlt,by have:=rs.length;omega,λys' H2=>Kp p H1 H2/\p.PI H2/\∃es,Rps (okK p H0 own H ke) H2 ys' es/\es.length<=i+1/\Iv (i+1) es,λys' H2 h=>⟨_,by omega,rfl,hlt,h⟩,λx H2 y=>?_⟩
  obtain⟨sm,rx⟩:=W.yld i H' x H2 oH y
  have rx:=rx ds[i] (Ì hlt)
  have I2:p.PI H2:=p.mono H' H2 I' λb o _ e=>sm b o e
  have K2:Kp p H1 H2:=K'.trans (Kp.of sm)
  have A2:=A.go K2 I2
  have E2:EnvD p H0 own σ H2 ρ:=E.go A2.kp A2.pen
  have rs2:=cL A' (Kp.of sm) rs
  refine⟨p,H0,own,_,_,_,_,E2.comp n,jr (U0 A rx),step i ds[i] es (Ì hlt) iv,λσ3 ρ3 E3 t3=>?_⟩
  refine⟨p,H0,own,ρ3,_,E3,t3,λb H4 h4 A4=>?_⟩
  have A5:At p H0 own H H4:=A2.base A4
  have rs4:=cL A2 A4.kp rs2
  cases b with
  |true =>
   refine aK ⟨p,H0,own,ρ3,_,E3.go A4.kp A4.pen,by simpa using h4,λk' d' v H6 h6 A6 r6=>?_⟩
   refine⟨(K2.trans A4.kp).trans A6.kp,A6.pen,es++[d'],(cL A5 A6.kp rs4).snoc (kI (A5.base A6) h6.1 (aR (mJ A5 r6))),by simp;omega,h6.2⟩
  |false=>exact bD ⟨K2.trans A4.kp,A4.pen,es,rs4,by omega,by simpa using h4⟩
 ·have e:i=ds.length:=by omega
  subst e
  refine .inl ⟨W.stop H' oH,λl hl'=>?_⟩
  obtain⟨k7,i7,nw⟩:=A'.new hl' (.lst ys)
  have j:=eX ke .new
  refine q _ _ _ _ (done es iv) (A'.go k7 i7) (.lst (bW A' j.2 nw) au ?_)
  exact(cL A' k7 rs).mono (λa o=>bW A' j.1 o) (λ_ _ _ e=>e) λ_ _ e=>e
def kO(own:List Str)(hc:X.calm=true)(hi:PDI X tg iter ti)(hg:∀c,PDG (X.comp own scope c) tg g)(ht:∀c,G3 (X.comp own scope c) ifs tt)(he:∀c,PD (X.comp own scope c) elt te)(hk:gM X.env scope X.N=true:=by rfl)(hs:zF X iter:=by intro _;rfl) :
  PD X (.ListComp elt [⟨tg,iter,ifs,0⟩] scope pos) (dLC own.length ti g tt te):=PE.wk (Uu own hc hi hg ht he hk hs) j7
def Q9(own M:List Str)(hc:X.calm=true)(hi:PDI X tg iter ti)(hg:∀c,PDG (X.bF own M scope c) tg g)(ht:∀c,G3 (X.bF own M scope c) ifs tt)(he:∀c,PD (X.bF own M scope c) elt te)(hk:aZ X.env scope X.N M=true:=by decide +kernel)(hs:zF X iter:=by intro _;rfl) :
  PD X (.ListComp elt [⟨tg,iter,ifs,0⟩] scope pos) (dLC own.length ti g tt te):=PE.wk (Im own M hc hi hg ht he hk hs) j7
end
def bI(d:D):Sl:=if d8 d then .im d else .sh d
def kh{p:Pn}{H:Hp}{N:List Str}{vs:List V}{ds:List D}(g:Gr.G p H)(hp:p.PI H)(r:Rps (λa=>¬p.fp a) H vs ds):EnvD p H (λ_=>none) (L2.start N vs) H (ds.map bI++È (N.length - vs.length) .any):=by
 refine⟨λ_ _ e _=>e,hp,(λ_ _ e=>nomatch e),λj s e=>?_,by unfold L2.start;simp[r.length],g⟩
 by_cases hj:j<ds.length
 ·rw[ñ (by simpa using hj),è] at e
  obtain⟨v,hv,rv⟩:=r.getD (Ì hj)
  rw[Ì hj] at e
  have e:=ç e
  have hs:(L2.start N vs)[j]?=some (some v):=by
   unfold L2.start
   rw[ñ (by rw[Á,r.length];exact hj),è,hv]
   rfl
  subst e
  unfold bI
  by_cases hi:d8 ds[j]=true
  ·rw[if_pos hi];exact⟨v,hs,rv.imm hi⟩
  ·rw[if_neg hi];exact⟨v,hs,rv.mono (λ_ o=>⟨o,rfl⟩) (λ_ _ _ e=>e) λ_ _ e=>e⟩
 ·rw[ê (by simpa using hj),Ļ] at e
  split at e
  ·cases e;trivial
  ·cases e
def wR{f:List D->(D->Prop)->Prop}{T:DS}{N:List Str}{vs:List V}{H:Hp}{Q:VK}{E:XK}(h:spD f vs H Q E)(body:∀ds P,f ds P->T { nx:=λ_=>P .none,rt:=P } (ds.map bI++È (N.length - ds.length) .any))(g:Gr.G fM H:=by trivial):kY T { nx:=λ_ H'=>Q .non H',rt:=Q } (L2.start N vs) H:=by
 obtain⟨ds,P,r,t,q⟩:=h
 have E:=kh (p:=fM) (N:=N) g trivial (r.mono (ok':=λa=>¬fM.fp a) (λ_ _ z=>z) (λ_ _ _ e=>e) λ_ _ e=>e)
 rw[r.length] at E
 have sm:∀H',(∀b o,H b=some o->¬fM.fp b->H' b=some o)->Same H H':=λH' k b o e=>k b o e λz=>z
 refine⟨fM,H,λ_=>none,_,_,E,body ds P t,⟨λo s h' r' e' _ n=>q _ _ h' n (sm h' e'.k0) .non,λd v h' n w=>q d v h' n (sm h' w.k0) (w.rp.mono (λ_ o=>o.1) (λ_ _ _ e=>e) λ_ _ e=>e),λ_ _ _ _ _ _ n=>n.elim,λ_ _ _ _ _ _ n=>n.elim⟩⟩
def Ss{C:Pn->Prop}{f:List D->(D->Prop)->Prop}{T:DS}{N:List Str}{vs:List V}{H:Hp}{Q:VK}{E:XK}(h:spP C f vs H Q E)(body:∀ds P,f ds P->T { nx:=λ_=>P .none,rt:=P } (.pen C::(ds.map bI++È (N.length - (ds.length+1)) .any)))(g:∀p,Gr.G p H:=by intro _;trivial):kY T { nx:=λ_ H'=>Q .non H',rt:=Q } (L2.start N vs) H:=by
 obtain⟨p,vs',ds,P,c,rfl,pi,r,t,q⟩:=h
 have E0:=kh (p:=p) (N:=N.drop 1) (g p) pi r
 have E:EnvD p H (λ_=>none) (L2.start N (p.pv::vs')) H (.pen C::(ds.map bI++È (N.length - (ds.length+1)) .any)):=by
  refine⟨λ_ _ e _=>e,pi,(λ_ _ e=>nomatch e),λj s e=>?_,by unfold L2.start;simp[r.length],g p⟩
  cases j with
  |zero =>
   have e:=ç e
   subst e
   exact⟨rfl,c⟩
  |succ j =>
   rw[ű] at e
   have hl:N.length - (ds.length+1)=(N.drop 1).length - vs'.length:=by rw[r.length,û];omega
   rw[hl] at e
   have q:=E0.slot j s e
   have es:(L2.start N (p.pv::vs'))[j+1]?=(L2.start (N.drop 1) vs')[j]?:=by
    unfold L2.start
    have:N.length - (p.pv::vs').length=(N.drop 1).length - vs'.length:=by rw[û,Ù];omega
    rw[this]
    simp
   cases s <;> simp only[jU,es] at q ⊢ <;> exact q
 have nw:∀{H' v d},RPost p H H' v d->Rp (λa=>H a=none) H' v d:=λw=>w.rp.mono (λ_ o=>o.1) (λ_ _ _ e=>e) λ_ _ e=>e
 exact⟨p,H,λ_=>none,_,_,E,body ds P t,⟨λo s h' r' e' _ n=>q _ _ h' n e'.k0 e'.pen .non,λd v h' n w=>q d v h' n w.k0 w.pen (nw w),λ_ _ _ _ _ _ n=>n.elim,λ_ _ _ _ _ _ n=>n.elim⟩⟩
end Dl
namespace PySem
open PyProof.Rows
abbrev nZ(f0:Value)(q:Bool)(TI TO:Addr):Obj:={ cls:=.type "zip",data:=.fields #[f0,.bool q,.bool false,.ref TI,.ref TO] }
section
variable {prog:Program}{w:World}{A:Around}{E:Value->Shared->Prop}{s:Shared}
def uQ{z TI TO i1 i2 l1 l2 T:Addr}{q:Bool}{k:Nat}{xs ys:Array Value}{x y:Value}{oT:Obj}{Q:Value->Shared->Prop}(n1:i1≠z)(n2:i2≠z)(n12:i1≠i2)(m1:l1≠z)(m2:l2≠z)(m3:l2≠i1)(hZ:s.heap.get? z=some (nZ (rawInt T) q TI TO))(hI:s.heap.get? TI=some { cls:=.type "tuple",data:=.seq #[.ref i1,.ref i2] })(hT:s.heap.get? T=some oT)(j1:s.heap.IsListIter i1 l1 k)(j2:s.heap.IsListIter i2 l2 k)(e1:s.heap.IsList l1 xs)(e2:s.heap.IsList l2 ys)(hx:xs[k]?=some x)(hy:ys[k]?=some y)(hQ:∀h',h'.get? z=some (nZ (rawInt T) true TI TO)->h'.IsListIter i1 l1 (k+1)->h'.IsListIter i2 l2 (k+1)->h'.get? s.heap.objs.size=some { cls:=.type "tuple",data:=.seq #[x,y] } ->
   (∀c o,c≠z->c≠i1->c≠i2->s.heap.get? c=some o->h'.get? c=some o)->Q (.ref s.heap.objs.size) { s with heap:=h' }) :
  wpAny (model prog w) A (Builtin.«zip.__next__» ⟨[.ref z],[]⟩) (λfin s'=>∃v,fin=.done (.ret v)/\Q v s') E s:=by
 have fld:∀{i:Nat}{v:Value}{R:Value->Shared->Prop},(#[rawInt T,Value.bool q,.bool false,.ref TI,.ref TO]:Array Value)[i]?=some v->R v s->wpAny (model prog w) A (field (.ref z) i) R E s:=λh r=>wpAny_field hZ rfl h r
 show wpAny _ _ (field (.ref z) 2 >>= _) _ _ _
 refine Å (fld (v:=.bool false) rfl ?_)
 show wpAny _ _ (field (.ref z) 3 >>= _) _ _ _
 refine Å (fld (v:=.ref TI) rfl ?_)
 refine Å (wpAny_seqItems hI rfl ?_)
 show wpAny _ _ (ĳ (.ref z) >>= _) _ _ _
 refine Å ?_
 unfold ĳ
 refine Å (fld (v:=rawInt T) rfl ?_)
 show wpAny _ _ (loadIfAlive ((T:Int).toNat) >>= _) _ _ _
 rw[Ø]
 refine Å (W.kdx_alive hT ?_)
 simp only[Option.isNone_some,ģ,if_false]
 refine Å (fld (v:=.bool q) rfl ?_)
 refine L2.thn (Q:=λa s'=>a=false/\∃h1,s'={ s with heap:=h1 }/\h1.get? z=some (nZ (rawInt T) true TI TO)/\h1.objs.size=s.heap.objs.size/\∀c o,c≠z->s.heap.get? c=some o->h1.get? c=some o) ?_ ?_
 ·cases q with
  |true=>exact Ô ⟨rfl,s.heap,rfl,hZ,rfl,λc o _ e=>e⟩
  |false =>
   rw[if_pos (by decide)]
   refine Å (wpAny_setField_rec hZ (by simp) λh1 z1 b1=>Ô ⟨rfl,h1,rfl,z1,b1.1,λc o n e=>b1.extBut _ _ n e⟩)
 rintro a s' ⟨rfl,h1,rfl,z1,sz1,k1⟩
 simp only[ģ,if_false]
 refine Å ?_
 simp only[←Array.forIn_toList,List.forIn_cons,List.forIn_nil]
 have at1:h1.IsListIter i1 l1 k:=j1.at λo e=>k1 i1 o n1 e
 have at2:h1.IsListIter i2 l2 k:=j2.at λo e=>k1 i2 o n2 e
 have f1:h1.IsList l1 xs:=e1.at λo e=>k1 l1 o m1 e
 have f2:h1.IsList l2 ys:=e2.at λo e=>k1 l2 o m2 e
 refine Å (Å (ņ ?_))
 show wpAny _ _ (Ŕ (.ref i1) >>= _) _ _ _
 refine Å (wpAny_nextOf_list_item at1 f1 hx λh2 c1 b2=>Ô (Ô ?_))
 refine Å (Å (ņ ?_))
 show wpAny _ _ (Ŕ (.ref i2) >>= _) _ _ _
 refine Å (wpAny_nextOf_list_item (at2.extBut b2.extBut n12.symm) (f2.extBut b2.extBut m3) hy λh3 c2 b3=>Ô (Ô (Ô ?_)))
 have sz3:h3.objs.size=s.heap.objs.size:=by rw[b3.1,b2.1,sz1]
 show wpAny _ _ (newTuple [x,y] >>= _) _ _ _
 refine Å (wpAny_newTuple (Ô ⟨_,rfl,?_⟩))
 show Q (.ref h3.objs.size) _
 rw[sz3]
 have up:∀c o,c≠i1->c≠i2->h1.get? c=some o->(h3.push { cls:=.type "tuple",data:=.seq #[x,y] }).get? c=some o:=λc o a b e=>Ï _ (b3.extBut _ _ b (b2.extBut _ _ a e))
 refine hQ _ (up z _ n1.symm n2.symm z1) ((c1.extBut b3.extBut n12).at λo e=>Ï _ e) (c2.at λo e=>Ï _ e) ?_ λc o a b d e=>up c o b d (k1 c o a e)
 rw[←sz3]
 exact ß _ rfl
def xH{z TI TO i1 i2 l1 l2 T:Addr}{q:Bool}{k:Nat}{xs ys:Array Value}{oT:Obj}{Q:Fin->Shared->Prop}(hh:A.handled=none)(n1:i1≠z)(n2:i2≠z)(n12:i1≠i2)(m1:l1≠z)(m2:l2≠z)(m3:l2≠i1)(hZ:s.heap.get? z=some (nZ (rawInt T) q TI TO))(hI:s.heap.get? TI=some { cls:=.type "tuple",data:=.seq #[.ref i1,.ref i2] })(hT:s.heap.get? T=some oT)(j1:s.heap.IsListIter i1 l1 k)(j2:s.heap.IsListIter i2 l2 k)(e1:s.heap.IsList l1 xs)(e2:s.heap.IsList l2 ys)(hend:xs[k]?=none\/ys[k]?=none)(hE:∀h' e,(∀c o,c≠z->c≠i1->c≠i2->s.heap.get? c=some o->h'.get? c=some o)->(∃o,h'.get? e=some o/\o.cls=.type "StopIteration")->E (.ref e) { s with heap:=h' }) :
  wpAny (model prog w) A (Builtin.«zip.__next__» ⟨[.ref z],[]⟩) Q E s:=by
 have fld:∀{i:Nat}{v:Value}{R:Value->Shared->Prop},(#[rawInt T,Value.bool q,.bool false,.ref TI,.ref TO]:Array Value)[i]?=some v->R v s->wpAny (model prog w) A (field (.ref z) i) R E s:=λh r=>wpAny_field hZ rfl h r
 show wpAny _ _ (field (.ref z) 2 >>= _) _ _ _
 refine Å (fld (v:=.bool false) rfl ?_)
 show wpAny _ _ (field (.ref z) 3 >>= _) _ _ _
 refine Å (fld (v:=.ref TI) rfl ?_)
 refine Å (wpAny_seqItems hI rfl ?_)
 show wpAny _ _ (ĳ (.ref z) >>= _) _ _ _
 refine Å ?_
 unfold ĳ
 refine Å (fld (v:=rawInt T) rfl ?_)
 show wpAny _ _ (loadIfAlive ((T:Int).toNat) >>= _) _ _ _
 rw[Ø]
 refine Å (W.kdx_alive hT ?_)
 simp only[Option.isNone_some,ģ,if_false]
 refine Å (fld (v:=.bool q) rfl ?_)
 refine L2.thn (Q:=λa s'=>a=false/\∃h1,s'={ s with heap:=h1 }/\h1.get? z=some (nZ (rawInt T) true TI TO)/\h1.objs.size=s.heap.objs.size/\∀c o,c≠z->s.heap.get? c=some o->h1.get? c=some o) ?_ ?_
 ·cases q with
  |true=>exact Ô ⟨rfl,s.heap,rfl,hZ,rfl,λc o _ e=>e⟩
  |false =>
   rw[if_pos (by decide)]
   refine Å (wpAny_setField_rec hZ (by simp) λh1 z1 b1=>Ô ⟨rfl,h1,rfl,z1,b1.1,λc o n e=>b1.extBut _ _ n e⟩)
 rintro a s' ⟨rfl,h1,rfl,z1,sz1,k1⟩
 simp only[ģ,if_false]
 refine Å ?_
 simp only[←Array.forIn_toList,List.forIn_cons,List.forIn_nil]
 have at1:h1.IsListIter i1 l1 k:=j1.at λo e=>k1 i1 o n1 e
 have at2:h1.IsListIter i2 l2 k:=j2.at λo e=>k1 i2 o n2 e
 have f1:h1.IsList l1 xs:=e1.at λo e=>k1 l1 o m1 e
 have f2:h1.IsList l2 ys:=e2.at λo e=>k1 l2 o m2 e
 refine Å (Å (ņ ?_))
 show wpAny _ _ (Ŕ (.ref i1) >>= _) _ _ _
 cases hx:xs[k]? with
 |none=>exact Å (wpAny_nextOf_list_end hh at1 f1 hx λh2 e b2 he=>hE h2 e (λc o a b _ x=>b2 c o b (k1 c o a x)) he)
 |some x =>
  have hy:ys[k]?=none:=hend.elim (λz=>by rw[hx] at z;cases z) id
  refine Å (wpAny_nextOf_list_item at1 f1 hx λh2 c1 b2=>Ô (Ô ?_))
  refine Å (Å (ņ ?_))
  show wpAny _ _ (Ŕ (.ref i2) >>= _) _ _ _
  exact Å (wpAny_nextOf_list_end hh (at2.extBut b2.extBut n12.symm) (f2.extBut b2.extBut m3) hy λh3 e b3 he=>hE h3 e (λc o a b d x=>b3 c o d (b2.extBut _ _ b (k1 c o a x))) he)
structure ZSt(z TI TO i1 i2 l1 l2:Addr)(xs ys:Array Value)(i:Nat)(h:Heap):Prop where
 zip:(i=0/\h.get? z=some (nZ .none false TI TO))\/∃(T:Addr) (q:Bool) (oT:Obj),h.get? z=some (nZ (rawInt T) q TI TO)/\h.get? T=some oT/\T≠z/\T≠i1/\T≠i2
 ti:h.get? TI=some { cls:=.type "tuple",data:=.seq #[.ref i1,.ref i2] }
 to:∃a b,h.get? TO=some { cls:=.type "tuple",data:=.seq #[a,b] }
 j1:h.IsListIter i1 l1 i
 j2:h.IsListIter i2 l2 i
 e1:h.IsList l1 xs
 e2:h.IsList l2 ys
variable {z TI TO i1 i2 l1 l2:Addr}{xs ys:Array Value}
def ZSt.keeps{i:Nat}{h h':Heap}(Z:ZSt z TI TO i1 i2 l1 l2 xs ys i h){S:Addr}{oS:Obj}(hS:h.get? S=some oS)(hc:oS.cls=.type "list")(n1:S≠l1)(n2:S≠l2)(nT:∀(T:Addr) (q:Bool),h.get? z=some (nZ (rawInt T) q TI TO)->S≠T)(k:∀b o,b≠S->h.get? b=some o->h'.get? b=some o):ZSt z TI TO i1 i2 l1 l2 xs ys i h':=by
 have ne:∀{b:Addr}{o:Obj},h.get? b=some o->o.cls≠.type "list"->b≠S:=λe n z=>by subst z;rw[hS] at e;cases e;exact n hc
 obtain⟨o1,a1,c1,d1⟩:=Z.j1
 obtain⟨o2,a2,c2,d2⟩:=Z.j2
 obtain⟨a,b,ab⟩:=Z.to
 have k1:=k i1 o1 (ne a1 (by rw[c1];decide)) a1
 have k2:=k i2 o2 (ne a2 (by rw[c2];decide)) a2
 refine⟨?_,k _ _ (ne Z.ti (show Ď "tuple"≠_ by decide)) Z.ti,⟨a,b,k _ _ (ne ab (show Ď "tuple"≠_ by decide)) ab⟩,⟨o1,k1,c1,d1⟩,⟨o2,k2,c2,d2⟩,Z.e1.at λo e=>k _ o n1.symm e,Z.e2.at λo e=>k _ o n2.symm e⟩
 rcases Z.zip with ⟨h0,hz⟩|⟨T,q,oT,hz,hT,r⟩
 ·exact .inl ⟨h0,k _ _ (ne hz (show Ď "zip"≠_ by decide)) hz⟩
 ·exact .inr ⟨T,q,oT,k _ _ (ne hz (show Ď "zip"≠_ by decide)) hz,k _ _ (nT T q hz).symm hT,r⟩
def G8{i:Nat}{x y:Value}{Q:Option Value->Shared->Prop}(D:ZipApart z TI TO i1 i2 l1 l2)(Z:ZSt z TI TO i1 i2 l1 l2 xs ys i s.heap)(hx:xs[i]?=some x)(hy:ys[i]?=some y)(hQ:∀h',ZSt z TI TO i1 i2 l1 l2 xs ys (i+1) h'->h'.get? s.heap.objs.size=some { cls:=.type "tuple",data:=.seq #[x,y] }->(∀(T:Addr) (q:Bool),h'.get? z=some (nZ (rawInt T) q TI TO)->T=s.heap.objs.size\/∃q',s.heap.get? z=some (nZ (rawInt T) q' TI TO)) ->
   (∀c o,c≠z->c≠TO->c≠i1->c≠i2->s.heap.get? c=some o->h'.get? c=some o)->Q (some (.ref s.heap.objs.size)) { s with heap:=h' }):wpAny (model prog w) A (pyNext (.ref z)) Q E s:=by
 obtain⟨a,b,ab⟩:=Z.to
 have lt:∀{c:Addr}{o:Obj},s.heap.get? c=some o->s.heap.objs.size≠c:=λe=>ž (Î e)
 obtain⟨o1,a1,_⟩:=id Z.j1
 obtain⟨o2,a2,_⟩:=id Z.j2
 rcases Z.zip with ⟨rfl,hz⟩|⟨T,q,oT,hz,hT,t1,t2,t3⟩
 ·refine wpAny_pyNext_zip_item D hz Z.ti ab Z.j1 Z.j2 Z.e1 Z.e2 hx hy λh' b1 b2 b3 b4 b5 b6 b7=>hQ h' ⟨.inr ⟨_,false,_,b1,b5,lt hz,lt a1,lt a2⟩,b7 _ _ D.TIz D.TITO D.TIi1 D.TIi2 Z.ti,⟨_,_,b2⟩,b3,b4,Z.e1.at λo e=>b7 _ o D.l1z D.l1TO D.l1i1 D.l1i2 e,Z.e2.at λo e=>b7 _ o D.l2z D.l2TO D.l2i1 D.l2i2 e⟩ b5 (λT q e=>?_) b7
  rw[b1] at e
  cases e
  exact .inl rfl
 ·have hTy:s.TypeIs (.ref z) "zip":=⟨_,hz,rfl⟩
  unfold pyNext
  refine Å (wpAny_attempt (wpAny_callSpecial?_slot (name:=ð "__next__") hTy F.slot_zip_next (wpAny_call_entry F.slot_zip_next hTy F.entry_zip_next ?_ (F.args_zip_next_1 _))))
  refine uQ D.i1z D.i2z D.i12 D.l1z D.l2z D.l2i1 hz Z.ti hT Z.j1 Z.j2 Z.e1 Z.e2 hx hy λh' b1 b3 b4 b5 b7=>Ô (hQ h' ⟨.inr ⟨T,true,oT,b1,b7 _ _ t1 t2 t3 hT,t1,t2,t3⟩,b7 _ _ D.TIz D.TIi1 D.TIi2 Z.ti,⟨a,b,b7 _ _ D.TOz D.TOi1 D.TOi2 ab⟩,b3,b4,Z.e1.at λo e=>b7 _ o D.l1z D.l1i1 D.l1i2 e,Z.e2.at λo e=>b7 _ o D.l2z D.l2i1 D.l2i2 e⟩ b5 (λT' q' e=>?_) λc o n1 _ n3 n4 e=>b7 c o n1 n3 n4 e)
  rw[b1] at e
  cases e
  exact .inr ⟨_,hz⟩
def Lb{i:Nat}{Q:Option Value->Shared->Prop}(hh:A.handled=none)(D:ZipApart z TI TO i1 i2 l1 l2)(Z:ZSt z TI TO i1 i2 l1 l2 xs ys i s.heap)(hend:xs[i]?=none\/ys[i]?=none)(hQ:∀h',(∀c o,c≠z->c≠TO->c≠i1->c≠i2->s.heap.get? c=some o->h'.get? c=some o)->Q none { s with heap:=h' }):wpAny (model prog w) A (pyNext (.ref z)) Q E s:=by
 obtain⟨a,b,ab⟩:=Z.to
 rcases Z.zip with ⟨rfl,hz⟩|⟨T,q,oT,hz,hT,t1,t2,t3⟩
 ·exact wpAny_pyNext_zip_end hh D hz Z.ti ab Z.j1 Z.j2 Z.e1 Z.e2 hend hQ
 ·have hTy:s.TypeIs (.ref z) "zip":=⟨_,hz,rfl⟩
  unfold pyNext
  refine Å (wpAny_attempt (wpAny_callSpecial?_slot (name:=ð "__next__") hTy F.slot_zip_next (wpAny_call_entry F.slot_zip_next hTy F.entry_zip_next ?_ (F.args_zip_next_1 _))))
  refine xH hh D.i1z D.i2z D.i12 D.l1z D.l2z D.l2i1 hz Z.ti hT Z.j1 Z.j2 Z.e1 Z.e2 hend λh' e k2 he=>?_
  obtain⟨o,ho,hc⟩:=he
  refine Å (wpAny_isInstance (T:="StopIteration") (b:=true) ⟨o,ho,hc⟩ isSubtype_stop ?_)
  exact Ô (hQ _ λc o n1 _ n3 n4 e=>k2 c o n1 n3 n4 e)
def ItP(h:Heap):List Value->List (Value×Value)->Prop:=Paired λv p=>∃T,v=.ref T/\h.get? T=some { cls:=.type "tuple",data:=.seq #[p.1,p.2] }
def ItP.snoc{h:Heap}:∀{vs:List Value}{ps:List (Value×Value)}{v:Value}{p:Value×Value},ItP h vs ps->(∃T,v=.ref T/\h.get? T=some { cls:=.type "tuple",data:=.seq #[p.1,p.2] })->ItP h (vs++[v]) (ps++[p])
 |_,_,_,_,.nil,r=>.cons r .nil
 |_,_,_,_,.cons a t,r=>.cons a (ItP.snoc t r)
def ItP.keeps{h h':Heap}{vs:List Value}{ps:List (Value×Value)}(H:ItP h vs ps)(k:∀T o,h.get? T=some o->o.cls=.type "tuple"->(∃v∈vs,v=.ref T)->h'.get? T=some o):ItP h' vs ps:=by
 induction H with
 |nil=>exact .nil
 |cons a t ih =>
  obtain⟨T,e,hT⟩:=a
  exact .cons ⟨T,e,k T _ hT rfl ⟨_,À,e⟩⟩ (ih λT o h c ⟨v,hv,e⟩=>k T o h c ⟨v,Ä _ hv,e⟩)
end
section
variable {prog:Program}{w:World}{A:Around}{z TI TO i1 i2 l1 l2:Addr}{xs ys:Array Value}{R:Result->Shared->Prop}
abbrev Ni(acc:Array Value)(c:Nat):Obj:={ cls:=.type "list",dict:=none,data:=.seq acc c,slots:=#[] }
def G6(hh:A.in1.handled=none)(D:ZipApart z TI TO i1 i2 l1 l2)(hn:min xs.size ys.size<=1000)(S:Addr)(nS:S≠z/\S≠TO/\S≠i1/\S≠i2/\S≠l1/\S≠l2)(res:Value):∀(m i:Nat) (s:Shared) (acc:Array Value) (c:Nat),min xs.size ys.size - i=m->i<=min xs.size ys.size ->
  ZSt z TI TO i1 i2 l1 l2 xs ys i s.heap->(∀(T:Addr) (q:Bool),s.heap.get? z=some (nZ (rawInt T) q TI TO)->S≠T)->s.heap.get? S=some (Ni acc c)->ItP s.heap acc.toList ((xs.toList.zip ys.toList).take i)->(∀v∈acc.toList,∀T,v=.ref T->T≠z/\T≠TO/\T≠i1/\T≠i2/\T≠S) ->
  (∀h' acc' c',(∀b o,b≠S->b≠z->b≠TO->b≠i1->b≠i2->s.heap.get? b=some o->h'.get? b=some o)->h'.get? S=some (Ni acc' c')->ItP h' acc'.toList (xs.toList.zip ys.toList)->(∀v∈acc'.toList,v∈acc.toList\/∃T,v=.ref T/\s.heap.objs.size<=T)->R (.ok (.ret res)) { s with heap:=h' }) ->
  codeAny (model prog w) A (.builtin "list.extend.loop" ⟨[.ref S,.ref z,res],[]⟩) R s:=by
 obtain⟨s1,s2,s3,s4,s5,s6⟩:=nS
 intro m
 induction m with
 |zero =>
  intro i s acc c hm hi Z nT hS hP hv hR
  have e:i=min xs.size ys.size:=by omega
  refine ŷ F.entry_extend_loop ?_
  rw[Around.under_plainId F.plain_extend_loop _]
  show wpAny _ A.in1 (pyNext (.ref z) >>= _) _ _ s
  refine Å (Lb hh D Z ?_ λh' k=>?_)
  ·rcases Nat.le_total xs.size ys.size with h|h
   ·exact .inl (Array.getElem?_eq_none (by omega))
   ·exact .inr (Array.getElem?_eq_none (by omega))
  ·have el:(xs.toList.zip ys.toList).take i=xs.toList.zip ys.toList:=Ÿ (by simp;omega)
   rw[el] at hP
   exact Ô (hR h' acc c (λb o n1 n2 n3 n4 n5 e=>k b o n2 n3 n4 n5 e) (k S _ s1 s2 s3 s4 hS) (hP.keeps λT o h _ ⟨v,hv',e⟩=>let ⟨a1,a2,a3,a4,_⟩:=hv v hv' T e;k T o a1 a2 a3 a4 h) λv hv=>.inl hv)
 |succ m ih =>
  intro i s acc c hm hi Z nT hS hP hv hR
  have hx:i<xs.size:=by omega
  have hy:i<ys.size:=by omega
  refine ŷ F.entry_extend_loop ?_
  rw[Around.under_plainId F.plain_extend_loop _]
  show wpAny _ A.in1 (pyNext (.ref z) >>= _) _ _ s
  refine Å (G8 D Z (Array.getElem?_eq_getElem hx) (Array.getElem?_eq_getElem hy) λh1 Z1 hT hz1 k1=>?_)
  have hS1:=k1 S _ s1 s2 s3 s4 hS
  have lt:∀{b:Addr}{o:Obj},s.heap.get? b=some o->s.heap.objs.size≠b:=λe=>ž (Î e)
  have hsz:=hP.length
  have hsz2:acc.size=i:=by
   have:acc.toList.length=i:=by rw[hsz,ă,List.length_zip];simp;omega
   simpa using this
  show wpAny _ A.in1 (updateSeq S (·.push (.ref s.heap.objs.size)) >>= _) _ _ _
  refine Å ?_
  have h24:=é
  have nT1:∀(T:Addr) (q:Bool),h1.get? z=some (nZ (rawInt T) q TI TO)->S≠T:=λT q e=>by
   rcases hz1 T q e with z'|⟨q',e'⟩
   ·rw[z'];exact(lt hS).symm
   ·exact nT T q' e'
  have oth:∀b o,b≠S->h1.get? b=some o->(h1.update S (à (·.push (ğ s.heap.objs.size)))).get? b=some o:=λb o n e=>(Ŀ _ _ (ġ n)).trans e
  obtain⟨o1,a1,_⟩:=Z.j1
  obtain⟨o2,a2,_⟩:=Z.j2
  have az:∃o,s.heap.get? z=some o:=by
   rcases Z.zip with ⟨_,hz⟩|⟨_,_,_,hz,_⟩
   ·exact⟨_,hz⟩
   ·exact⟨_,hz⟩
  obtain⟨oz,az⟩:=az
  obtain⟨ta,tb,at'⟩:=Z.to
  have newT:s.heap.objs.size≠z/\s.heap.objs.size≠TO/\s.heap.objs.size≠i1/\s.heap.objs.size≠i2/\s.heap.objs.size≠S:=⟨lt az,lt at',lt a1,lt a2,lt hS⟩
  obtain⟨c2,hS2⟩:∃c2,(h1.update S (à (·.push (ğ s.heap.objs.size)))).get? S=some (Ni (acc.push (.ref s.heap.objs.size)) c2):=⟨_,Heap.get?_update_self _ hS1 rfl⟩
  have tk:(xs.toList.zip ys.toList).take (i+1)=(xs.toList.zip ys.toList).take i++[(xs[i],ys[i])]:=by
   rw[ĺ]
   congr 1
   have:(xs.toList.zip ys.toList)[i]?=some (xs[i],ys[i]):=by
    rw[List.getElem?_zip_eq_some]
    simp[hx,hy]
   rw[this]
   rfl
  refine wpAny_updateSeq hS1 rfl (Ô ⟨plainId_quiet F.plain_extend_loop _,ih (i+1) { s with heap:=h1.update S (à (·.push (ğ s.heap.objs.size))) } (acc.push (.ref s.heap.objs.size)) c2 (by omega) (by omega) (Z1.keeps hS1 rfl s5 s6 nT1 oth) (λT q e=>nT1 T q ?_) hS2 ?_ ?_ ?_⟩) (by rw[hsz2];omega) (by show(acc.push _).size<=sizeLine+1;rw[Array.size_push,hsz2];omega)
  ·have zz:z≠S:=ġ s1
   rw[show(h1.update S (à (·.push (ğ s.heap.objs.size)))).get? z=h1.get? z from Ŀ _ _ (ġ zz)] at e
   exact e
  ·rw[tk,Array.toList_push]
   refine ItP.snoc (hP.keeps λT o h _ ⟨v,hv',e⟩=>?_) ⟨_,rfl,oth _ _ newT.2.2.2.2 hT⟩
   obtain⟨b1,b2,b3,b4,b5⟩:=hv v hv' T e
   exact oth _ _ b5 (k1 T o b1 b2 b3 b4 h)
  ·intro v hv' T e
   rw[Array.toList_push] at hv'
   rcases ä.mp hv' with q|q
   ·exact hv v q T e
   ·have q':v=.ref s.heap.objs.size:=by simpa using q
    rw[q'] at e
    cases e
    exact newT
  ·intro h' acc' c' kk hS' hP' hn'
   refine hR h' acc' c' (λb o n1 n2 n3 n4 n5 e=>kk b o n1 n2 n3 n4 n5 (oth b o n1 (k1 b o n2 n3 n4 n5 e))) hS' hP' λv hv'=>?_
   rcases hn' v hv' with q|⟨T,e,hT'⟩
   ·rw[Array.toList_push] at q
    rcases ä.mp q with q|q
    ·exact .inl q
    ·have q':v=.ref s.heap.objs.size:=by simpa using q
     exact .inr ⟨_,q',É _⟩
   ·exact .inr ⟨T,e,î (Nat.le_of_lt (Î (oth _ _ newT.2.2.2.2 hT))) hT'⟩
def zT:typeLookup (.type "zip") "__len__"=pure none:=by rw[typeLookup_type,builtinLookup_eq_fast];kernel_rfl
def xu:typeLookup (.type "zip") "__length_hint__"=pure none:=by rw[typeLookup_type,builtinLookup_eq_fast];kernel_rfl
def G7{s:Shared}{E:Value->Shared->Prop}{Q:Value->Shared->Prop}(hh:A.handled=none)(D:ZipApart z TI TO i1 i2 l1 l2)(hn:min xs.size ys.size<=1000)(hz:s.heap.get? z=some (nZ .none false TI TO))(Z:ZSt z TI TO i1 i2 l1 l2 xs ys 0 s.heap)(hQ:∀h' acc' c',(∀b o,b≠z->b≠TO->b≠i1->b≠i2->s.heap.get? b=some o->h'.get? b=some o)->h'.get? s.heap.objs.size=some (Ni acc' c')->ItP h' acc'.toList (xs.toList.zip ys.toList)->(∀v∈acc'.toList,∃T,v=.ref T/\s.heap.objs.size<T)->Q (.ref s.heap.objs.size) { s with heap:=h' }) :
  wpAny (model prog w) A (call (.type "list") [.ref z]) Q E s:=by
 have lt:∀{b:Addr}{o:Obj},s.heap.get? b=some o->s.heap.objs.size≠b:=λe=>ž (Î e)
 obtain⟨o1,a1,_⟩:=id Z.j1
 obtain⟨o2,a2,_⟩:=id Z.j2
 obtain⟨p1,b1,_⟩:=id Z.e1
 obtain⟨p2,b2,_⟩:=id Z.e2
 obtain⟨ta,tb,at'⟩:=id Z.to
 refine callType_codes (Q₁:=λobj s₁=>obj=.ref s.heap.objs.size/\s₁={ s with heap:=s.heap.push { cls:=.type "list",data:=.seq #[] } }) F.called_list (F.typeCall_list_1 _) F.entry_list_init (code_list_new _ ⟨rfl,rfl⟩) λobj sx hx=>?_
 obtain⟨rfl,rfl⟩:=hx
 have hS:(s.heap.push { cls:=.type "list",data:=.seq #[] }).get? s.heap.objs.size=some { cls:=.type "list",data:=.seq #[] }:=ß _ rfl
 refine⟨⟨_,hS,rfl⟩,F.args_list_init_2 _ _,?_⟩
 show wpAny _ _ (Builtin.List.listItems (.ref s.heap.objs.size) >>= λold=>Builtin.List.listUpdate (.ref s.heap.objs.size) (λ_=>#[]) >>= λ_=>letGo old.toList.reverse >>= λ_=>ŕ (.ref s.heap.objs.size) (.ref z) .none) _ _ _
 have old:∀b o,s.heap.get? b=some o->(s.heap.push { cls:=.type "list",data:=.seq #[] }).get? b=some o:=λb o e=>Ï _ e
 refine Å ?_
 unfold Builtin.List.listItems
 refine Å (wpAny_seqItems hS rfl (Ô ?_))
 refine Å (m:=updateSeq s.heap.objs.size (λ_=>#[])) (wpAny_updateSeq hS rfl ?_)
 have hS2:=Heap.get?_update_self (à (λ_=>(#[]:Array Value))) hS rfl
 refine Å (wpAny_letGo ?_)
 generalize hg:(s.heap.push { cls:=.type "list",data:=.seq #[] }).update s.heap.objs.size (à λ_=>(#[]:Array Value))=g at hS2
 have kg:∀b o,s.heap.get? b=some o->g.get? b=some o:=λb o e=>by rw[←hg];exact(Ŀ _ _ (lt e)).trans (old b o e)
 have sg:g.objs.size=s.heap.objs.size+1:=by rw[←hg,ď,ł]
 have Zg:∀{h:Heap},(∀b o,s.heap.get? b=some o->h.get? b=some o)->ZSt z TI TO i1 i2 l1 l2 xs ys 0 h:=λ{h} k=>⟨.inl ⟨rfl,k _ _ hz⟩,k _ _ Z.ti,⟨ta,tb,k _ _ at'⟩,Z.j1.at λo e=>k _ o e,Z.j2.at λo e=>k _ o e,Z.e1.at λo e=>k _ o e,Z.e2.at λo e=>k _ o e⟩
 have hT:∀{h:Heap},(∀b o,s.heap.get? b=some o->h.get? b=some o)->({ s with heap:=h }:Shared).TypeIs (.ref z) "zip":=λk=>⟨_,k _ _ hz,rfl⟩
 unfold ŕ
 refine Å (wpAny_typeOf (hT kg) ?_)
 have q1:Builtin.List.listSameRef (.ref s.heap.objs.size) (.ref z)=false:=by simp[Builtin.List.listSameRef,lt hz]
 have q2:(Ď "zip" == Ď "list")=false:=by decide
 have q3:(Ď "zip" == Ď "tuple")=false:=by decide
 simp only[q1,q2,q3,Bool.or_false,ģ,if_false]
 refine Å (wpAny_pyIter_zip (kg _ _ hz) ?_)
 refine Å (ņ ?_)
 unfold Builtin.List.listLengthHint
 refine Å (wpAny_specialOf (hT kg) zT ?_)
 show wpAny _ _ (specialOf (ğ z) (ð "__length_hint__") >>= _) _ _ _
 refine Å (wpAny_specialOf (hT kg) xu ?_)
 refine Ô ?_
 show wpAny _ _ (rule "list.extend.makes-room" >>= λ_=>Builtin.List.listTouch (.ref s.heap.objs.size) >>= λ_=>again (.builtin "list.extend.loop" ⟨[.ref s.heap.objs.size,.ref z,.none],[]⟩)) _ _ _
 refine Å (wpAny_rule (Å ?_))
 show wpAny _ _ (updateSeq s.heap.objs.size (·.push .none) >>= λ_=>updateSeq s.heap.objs.size (·.pop)) _ _ _
 refine Å (wpAny_updateSeq hS2 rfl ?_)
 have hS3:=Heap.get?_update_self (à (·.push đ)) hS2 rfl
 refine wpAny_updateSeq hS3 rfl ?_
 have hS4:=Heap.get?_update_self (à (·.pop)) hS3 rfl
 generalize hk:(g.update s.heap.objs.size (à (·.push đ))).update s.heap.objs.size (à (·.pop))=g' at hS4
 have kk:∀b o,b≠s.heap.objs.size->g.get? b=some o->g'.get? b=some o:=λb o n e=>by rw[←hk];exact(Ŀ _ _ (ġ n)).trans ((Ŀ _ _ (ġ n)).trans e)
 have kk2:∀b o,s.heap.get? b=some o->g'.get? b=some o:=λb o e=>kk b o (ġ (lt e)) (kg b o e)
 have sk:g'.objs.size=s.heap.objs.size+1:=by rw[←hk,ď,ď,sg]
 refine Ô ⟨plainId_quiet F.plain_extend_loop _,G6 (A:=A.in1) (xs:=xs) (ys:=ys) hh D hn s.heap.objs.size ⟨lt hz,lt at',lt a1,lt a2,lt b1,lt b2⟩ _ _ 0 { s with heap:=g' } #[] _ rfl (ô _) (Zg kk2) (λT q e=>?_) hS4 .nil (λv hv=>nomatch hv) λh' acc' c' k' hS' hP' hn'=>?_⟩
 ·have e':=kk2 _ _ hz
  rw[e] at e'
  cases e'
 ·refine⟨rfl,hQ h' acc' c' (λb o n1 n2 n3 n4 e=>k' b o (ġ (lt e)) n1 n2 n3 n4 (kk2 b o e)) hS' hP' λv hv=>?_⟩
  rcases hn' v hv with q|⟨T,e,hT'⟩
  ·exact nomatch q
  ·refine⟨T,e,?_⟩
   have:g'.objs.size<=T:=hT'
   omega
end
end PySem
namespace L2
open PySem PySem.Spec PyProof.Rows
section
variable {X:Cx}{pins:List (Addr×Obj)}{σ:L2.St}{H:Hp}{s:Shared}
def Inv.Hi{a:Addr}{o:HO}{H0:Hp}{s0:Shared}{σ0:L2.St}(I:Inv X pins σ H s)(I0:Inv X pins σ0 H0 s0)(hle:s0.heap.objs.size<=a)(hn:H a=none)(new:aX X.prog X.w (upd H a o) s.heap a o):Inv X pins σ (upd H a o) s:=by
 have lt:∀{b:Addr}{u:Obj},s0.heap.get? b=some u->b≠a:=λe z=>absurd (æ (Î e) hle) (by rw[z];exact Ā _)
 refine I.track hn (λob e=>?_) (ġ (á (æ I0.lt hle))) (λx c e=>?_) (λp hp=>lt (I0.pin p hp).1) new
 ·exact absurd (æ (Î e) (î I0.sz hle)) (Ā _)
 ·obtain⟨v,u,hu,_⟩:=I0.cell x c e
  exact lt hu
def Inv.tuples{H0:Hp}{s0:Shared}{σ0:L2.St}(I0:Inv X pins σ0 H0 s0):∀(vs:List Value) (ps:List (Value×Value)) (qs:List (V×V)) (H:Hp),Inv X pins σ H s->ItP s.heap vs ps->Paired (λ(q:V×V) (p:Value×Value)=>RelV q.1 p.1/\RelV q.2 p.2) qs ps->(∀v∈vs,∃T,v=.ref T/\s0.heap.objs.size<=T)->(∀T,s0.heap.objs.size<=T->H T=none\/∃xs,H T=some (.tup xs)) ->
  ∃(H':Hp) (ws:List V),Inv X pins σ H' s/\Same H H'/\Vals ws vs/\Paired (λw (q:V×V)=>∃t,w=.ref t/\H' t=some (.tup [q.1,q.2])) ws qs/\(∀T,s0.heap.objs.size<=T->H' T=none\/∃xs,H' T=some (.tup xs))/\(∀T,(∀v∈vs,v≠.ref T)->H' T=H T)
 |_,_,_,H,I,.nil,.nil,_,hN=>⟨H,[],I,Same.refl _,.nil,.nil,hN,λ_ _=>rfl⟩
 |_,_,_,H,I,.cons (a:=v) (l₁:=vs) (b:=p) (l₂:=ps) r t,.cons (a:=q) (l₁:=qs) rq tq,hv,hN=>by
  obtain⟨T,e,hT⟩:=r
  subst e
  obtain⟨T',e',hle⟩:=hv _ À
  cases e'
  have vq:Vals [q.1,q.2] [p.1,p.2]:=.cons rq.1 (.cons rq.2 .nil)
  have okT:∀H2:Hp,aX X.prog X.w H2 s.heap T (.tup [q.1,q.2]):=λH2=>⟨by show 2<=sizeLine;decide,[p.1,p.2],vq,⟨_,hT,rfl,0,rfl⟩⟩
  have key:∃H1,Inv X pins σ H1 s/\Same H H1/\H1 T=some (.tup [q.1,q.2])/\(∀U,s0.heap.objs.size<=U->H1 U=none\/∃xs,H1 U=some (.tup xs))/\∀U,U≠T->H1 U=H U:=by
   rcases hN T hle with hn|⟨xs,hx⟩
   ·refine⟨upd H T (.tup [q.1,q.2]),I.Hi I0 hle hn (okT _),λb u e=>by rw[aq (aD e hn)];exact e,au,λU hU=>?_,λU hU=>aq hU⟩
    by_cases z:U=T
    ·subst z;exact .inr ⟨_,au⟩
    ·rw[aq z];exact hN U hU
   ·refine⟨H,I,Same.refl _,?_,hN,λ_ _=>rfl⟩
    obtain⟨_,its,rv,o,ho,hc,n,hd⟩:=I.hok T _ hx
    rw[hT] at ho
    cases ho
    cases hd
    have:xs=[q.1,q.2]:=Vals.inj (by simpa using rv) vq
    rw[hx,this]
  obtain⟨H1,I1,s1,h1,N1,u1⟩:=key
  obtain⟨H2,ws,I2,s2,v2,p2,N2,u2⟩:=Inv.tuples I0 vs ps qs H1 I1 t tq (λv hv'=>hv v (Ä _ hv')) N1
  refine⟨H2,.ref T::ws,I2,s1.trans s2,.cons rfl v2,.cons ⟨T,rfl,s2 _ _ h1⟩ p2,N2,λU hU=>?_⟩
  rw[u2 U λv hv'=>hU v (Ä _ hv'),u1 U λz=>hU _ À (by rw[z])]
def tLZ(K:Ú)(ta:TA):TE:=λσ H Q=>ta σ H λvs H1=>∃p q xs ys,vs=[.ref p,.ref q]/\SqL K H1 p xs/\SqL K H1 q ys/\xs.length<=1000 /\
 ∀l ws H',Same H1 H'->H1 l=none->H' l=some (.lst ws)->Paired (λw (q:V×V)=>∃t,w=.ref t/\H' t=some (.tup [q.1,q.2])) ws (xs.zip ys)->Q (.ref l) H'
def xK:∀{xs ys:List V}{us vs:List Value},Vals xs us->Vals ys vs->Paired (λ(q:V×V) (p:Value×Value)=>RelV q.1 p.1/\RelV q.2 p.2) (xs.zip ys) (us.zip vs)
 |_,_,_,_,.nil,_=>.nil
 |_,_,_,_,.cons _ _,.nil=>.nil
 |_,_,_,_,.cons a b,.cons c d=>.cons ⟨a,c⟩ (xK b d)
def Aj{a b:Expr}{ta:TA}{p1 p2 pos1 pos2:Pos}(hc:X.calm=true)(hgl:Gl X "list")(hml:X.mg "list"=none)(hgz:Gl X "zip")(hmz:X.mg "zip"=none)(ha:PA X [a,b] ta)(e1:starEach [.Call (.Name "zip" p2) [a,b] [] pos2] X.env=[(false,eval (.Call (.Name "zip" p2) [a,b] [] pos2) X.env)]:=by rfl)(e2:starEach [a,b] X.env=(false,eval a X.env)::starEach [b] X.env:=by rfl)(e3:(backTo pos2 (starEach [b] X.env)).any (·.1)=false:=by rfl) :
  PE X (.Call (.Name "list" p1) [.Call (.Name "zip" p2) [a,b] [] pos2] [] pos1) (tLZ X.K ta):=by
 intro pins s σ H Q I h
 refine ň (lV I hgl hml boot_list ?_)
 refine ķ ?_ e1 rfl
 rw[e1]
 refine Calls.spliced_cons ?_
 refine ň (lV I hgz hmz PyProof.Rows.boot_zip ?_)
 refine ķ (thn (ha pos2 pins s σ H _ I h) λus s1 ⟨vs,H1,I1,r1,q1⟩=>?_) e2 e3
 obtain⟨p,q,xs,ys,rfl,hp,hq,hlen,k⟩:=q1
 obtain⟨u,u2,rfl,rx,ry⟩:=vals2 r1
 cases rx
 cases ry
 obtain⟨its,rv,pl,_⟩:=I1.list hp
 obtain⟨its2,rv2,pl2,_⟩:=I1.list hq
 refine call_zip_2 pl.isList pl2.isList λh' hz hTI hTO hi1 hi2 hsz hk=>?_
 refine Calls.spliced_nil ?_
 have lp:p<s1.heap.objs.size:=by obtain⟨o,e,_⟩:=pl.isList;exact Î e
 have lq:q<s1.heap.objs.size:=by obtain⟨o,e,_⟩:=pl2.isList;exact Î e
 have D:=zipApart_new lp lq
 have Z:ZSt (s1.heap.objs.size+4) (s1.heap.objs.size+2) (s1.heap.objs.size+3) s1.heap.objs.size (s1.heap.objs.size+1) p q its.toArray its2.toArray 0 h' :=
  ⟨.inl ⟨rfl,hz⟩,hTI,⟨_,_,hTO⟩,hi1,hi2,pl.isList.at λo e=>hk _ o e,pl2.isList.at λo e=>hk _ o e⟩
 have hl1:=rv.length
 refine G7 (s:={ s1 with heap:=h' }) (I1.ok.hd hc) D (by simp;omega) hz Z λh2 acc c2 k2 hS hP hT=>?_
 have lt:∀{b:Addr}{o:Obj},s1.heap.get? b=some o->b<s1.heap.objs.size:=λe=>Î e
 have kept:∀b o,s1.heap.get? b=some o->h2.get? b=some o:=λb o e=>by
  have l0:=lt e
  have l1:∀j,b≠s1.heap.objs.size+j:=λj=>á (æ l0 (Nat.le_add_right _ _))
  exact k2 b o (l1 4) (l1 3) (l1 0) (l1 1) (hk b o e)
 have I2:Inv X pins σ H1 { s1 with heap:=h2 }:=I1.kept (t':=s1.toks) kept
 have hsz':h'.objs.size=s1.heap.objs.size+5:=hsz
 obtain⟨H3,ws,I3,s3,v3,p3,N3,u3⟩:=Inv.tuples I1 acc.toList _ _ H1 I2 hP (xK rv rv2) (λv hv=>by
  obtain⟨T,e,hT'⟩:=hT v hv
  have hT'':h'.objs.size<T:=hT'
  exact⟨T,e,by omega⟩) λT hT=>.inl (I1.hok.fresh hT)
 have hSn:H3 h'.objs.size=none:=by
  rw[u3 _ λv hv z=>?_]
  ·exact I1.hok.fresh (by omega)
  ·obtain⟨T,e,hT'⟩:=hT v hv
   rw[z] at e
   cases e
   exact absurd hT' (Ā _)
 have hwl:ws.length<=sizeLine:=by
  have:=v3.length
  have h24:=é
  have l3:=p3.length
  rw[l3,List.length_zip]
  omega
 have I4:Inv X pins σ (upd H3 h'.objs.size (.lst ws)) { s1 with heap:=h2 }:=I3.Hi I1 (by omega) hSn ⟨hwl,acc.toList,c2,v3,hS⟩
 refine⟨.ref h'.objs.size,_,I4,rfl,k h'.objs.size ws _ (s3.trans λb u e=>by rw[aq (aD e hSn)];exact e) (I1.hok.fresh (by omega)) au (Paired.Ba p3 λw q ⟨t,e,ht⟩=>⟨t,e,by rw[aq (aD ht hSn)];exact ht⟩)⟩
end
end L2
namespace Dl
open PySem L2 PyProof.Rows
variable [Gr]
section
variable {X:Cx}{pos:Pos}{a b c e:Expr}{es:List Expr}{ta tb tc te:DE}{t:DA}
def newP(k:Kd)(ds:List D)(P:Kd->Prop):Prop:=(cJ ds=true/\P .new)\/P (k.join .new)
def j5{p:Pn}{H0 Hb H H2:Hp}{own:Addr->Option Nat}(A:At p H0 own Hb H){k:Kd}{vs:List V}{ds:List D}{P:Kd->Prop}{l:Addr}(r:Rps (okK p H0 own Hb k) H2 vs ds)(nw:okK p H0 own Hb .new l)(hl:H2 l=some (.lst vs))(h:newP k ds P):∃k',P k'/\Rp (okK p H0 own Hb k') H2 (.ref l) (.list ds):=by
 rcases h with ⟨i,h⟩|h
 ·exact⟨_,h,.lst nw hl ((Rps.imm r i).mono (λ_ o=>o.elim) (λ_ _ _ e=>e) λ_ _ e=>e)⟩
 ·exact⟨_,h,.lst (bW A (eX k .new).2 nw) hl (r.mono (λa o=>bW A (eX k .new).1 o) (λ_ _ _ e=>e) λ_ _ e=>e)⟩
def yQ:∀l:List Int,cJ (l.map Ã)=true
 |[]=>rfl
 |x::l=>by
  show(d8 (.int x)&&cJ (l.map Ã))=true
  rw[yQ l]
  rfl
def g8:∀l:List Tie,cJ (l.map pD)=true
 |[]=>rfl
 |x::l=>by
  show(d8 (pD x)&&cJ (l.map pD))=true
  rw[g8 l]
  rfl
def prD(p:D×D):D:=.tuple [p.1,p.2]
def Vh:GC:=λks P=>match ks with
 |[(k1,.list ds),(k2,.list es)]=>ds.length<=1000/\newP (k1.join k2) ((ds.zip es).map prD) λk=>P k (.list ((ds.zip es).map prD))
 |_=>False
def Rps.zip{ok:Addr->Prop}{H H':Hp}(m:∀{v:V}{d:D},Rp ok H v d->Rp ok H' v d):∀{xs ys:List V}{ds es:List D}{ws:List V},Rps ok H xs ds->Rps ok H ys es->Paired (λw (q:V×V)=>∃t,w=.ref t/\H' t=some (.tup [q.1,q.2])) ws (xs.zip ys)->Rps ok H' ws ((ds.zip es).map prD)
 |_,_,_,_,_,.nil,_,p=>by cases p;exact .nil
 |_,_,_,_,_,.cons _ _,.nil,p=>by cases p;exact .nil
 |_,_,_,_,_,.cons h t,.cons h2 t2,p=>by
  cases p with
  |cons r q =>
   obtain⟨t',rfl,ht⟩:=r
   exact .cons (.tup ht (.cons (m h) (.cons (m h2) .nil))) (Rps.zip m t t2 q)
def Aq{p1 p2 pos1 pos2:Pos}(hc:X.calm=true)(hml:X.mg "list"=none)(hmz:X.mg "zip"=none)(ha:PDA X [a,b] t)(hgl:Gl X "list":=by rfl)(hgz:Gl X "zip":=by rfl)(e1:starEach [.Call (.Name "zip" p2) [a,b] [] pos2] X.env=[(false,eval (.Call (.Name "zip" p2) [a,b] [] pos2) X.env)]:=by rfl)(e2:starEach [a,b] X.env=(false,eval a X.env)::starEach [b] X.env:=by rfl)(e3:(backTo pos2 (starEach [b] X.env)).any (·.1)=false:=by rfl) :
  PD X (.Call (.Name "list" p1) [.Call (.Name "zip" p2) [a,b] [] pos2] [] pos1) (tCl Vh t):=PE.wk (Aj hc hgl hml hgz hmz ha e1 e2 e3) (by
 rintro σ H Q ⟨p,H0,own,ρ,P,E,t,q⟩
 refine⟨p,H0,own,ρ,_,E,t,λks vs H1 h A r=>?_⟩
 unfold Vh at h
 split at h
 ·rename_i k1 ds k2 es'
  obtain⟨v,w,rfl,r1,r2⟩:=Lx r
  obtain⟨x,xs,e1,o1,h1,rs1⟩:=Rp.cN r1
  obtain⟨y,ys,e2,o2,h2,rs2⟩:=Rp.cN r2
  subst e1 e2
  refine⟨x,y,xs,ys,rfl,SqL.of h1,SqL.of h2,by rw[rs1.length];exact h.1,λl ws H' sm hl hl' hp=>?_⟩
  have K:Kp p H1 H':=Kp.of sm
  have i2:p.PI H':=p.mono H1 H' A.pen λb o _ e=>sm b o e
  have j2:=eX k1 k2
  have m1:∀{k:Kd},k.le (k1.join k2)=true->∀{vs ds},Rps (okK p H0 own H k) H1 vs ds->Rps (okK p H0 own H (k1.join k2)) H1 vs ds:=λhk _ _ z=>z.mono (λa o=>bW A hk o) (λ_ _ _ e=>e) λ_ _ e=>e
  obtain⟨k',hk',rk'⟩:=j5 A (Rps.zip (λz=>mH A K z) (m1 j2.1 rs1) (m1 j2.2 rs2) hp) (A.free hl) hl' h.2
  exact q _ _ _ _ hk' (A.go K i2) rk'
 ·exact h.elim)
def tCh(f g:Int->Int->Bool)(ta tb tc:DE):DE:=λρ P=>ta ρ λ_ d1=>tb ρ λ_ d2=>match d1,d2 with
 |.int i,.int j=>if f i j=true then tc ρ λ_ d3=>(match d3 with
   |.int l=>P .imm (.bool (g j l))
   |_=>False) else P .imm (.bool false)
 |_,_=>False
def Nt{f g:Int->Int->Bool}:∀σ H Q,dB (tCh f g ta tb tc) σ H Q->Hq (rI0 λi j=>.bl (f i j)) (rI0 λi j=>.bl (g i j)) (dB ta) (dB tb) (dB tc) σ H Q:=by
 rintro σ H Q ⟨p,H0,own,ρ,P,E,t,q⟩
 refine⟨p,H0,own,ρ,_,E,t,λk1 d1 v1 H1 t1 A1 r1=>?_⟩
 refine⟨p,H0,own,ρ,_,E.go A1.kp A1.pen,t1,λk2 d2 v2 H2 t2 A2 r2=>?_⟩
 have A:=A1.base A2
 split at t2
 ·rename_i i j
  refine⟨i,j,r1.int',r2.int',_,rfl,?_⟩
  cases hf:f i j with
  |true =>
   rw[hf,if_pos rfl] at t2
   refine aK ⟨p,H0,own,ρ,_,(E.go A1.kp A1.pen).go A2.kp A2.pen,t2,λk3 d3 v3 H3 t3 A3 r3=>?_⟩
   cases d3 with
   |int l=>exact⟨j,l,r2.int',r3.int',q _ _ _ _ t3 (A.base A3) (.bl _)⟩
   |_=>exact t3.elim
  |false =>
   rw[hf,if_neg Ð] at t2
   exact bD (q _ _ _ _ t2 A (.bl _))
 ·exact t2.elim
def Dp(ha:PD X a ta)(hb:PD X b tb)(hc:PD X c tc)(hm:lastMarks [.LtE,.Lt] [b,c]=false:=by with_unfolding_all rfl):PD X (.Compare a [.LtE,.Lt] [b,c] pos) (tCh (λi j=>decide (i<=j)) (λi j=>decide (i<j)) ta tb tc):=PE.wk (Iu O2 Jb ha hb hc hm) Nt
def Tv(ta:DE):DE:=λρ P=>ta ρ λ_ d=>match d with
 |.bool b=>P .imm (.bool (!b))
 |_=>False
def Q7(ha:PD X a ta):PD X (.UnaryOp .Not a pos) (Tv ta):=PE.wk (QX ha) (by
 rintro σ H Q ⟨p,H0,own,ρ,P,E,t,q⟩
 refine⟨p,H0,own,ρ,_,E,t,λk d v H' h A r=>?_⟩
 cases d with
 |bool b=>exact⟨b,r.bl',q _ _ _ _ h A (.bl _)⟩
 |_=>exact h.elim)
def Cr(ta tb:DE):DE:=λρ P=>ta ρ λ_ d=>match d with
 |.bool b=>if b=true then tb ρ P else P .imm (.bool false)
 |_=>False
def iH{op}(h:PD X a ta):PD X (.BoolOp op [a] pos) ta:=QW h
def gJ{rest:List Expr}(ha:PD X a ta)(hb:PD X (.BoolOp .And (b::rest) pos) tb):PD X (.BoolOp .And (a::b::rest) pos) (Cr ta tb):=PE.wk (Q0 ha hb) (by
 rintro σ H Q ⟨p,H0,own,ρ,P,E,t,q⟩
 refine⟨p,H0,own,ρ,_,E,t,λk d v H' h A r=>?_⟩
 cases d with
 |bool b =>
  refine⟨b,r.bl',?_⟩
  cases b with
  |true=>exact aK ⟨p,H0,own,ρ,P,E.go A.kp A.pen,by simpa using h,λk d v H2 h2 A2 r2=>q k d v H2 h2 (A.base A2) (mJ A r2)⟩
  |false=>exact bD (q _ _ _ _ (by simpa using h) A (.bl _))
 |_=>exact h.elim)
def Qp(tc:DT)(ta tb:DE):DE:=λρ P=>tc ρ λb=>if b=true then ta ρ P else tb ρ P
def jz{u:DT}(hc:PDT X c u)(ha:PD X a ta)(hb:PD X b tb):PD X (.IfExp c a b pos) (Qp u ta tb):=PE.wk (Io hc ha hb) (by
 rintro σ H Q ⟨p,H0,own,ρ,P,E,t,q⟩
 refine⟨p,H0,own,ρ,_,E,t,λb H' h A=>?_⟩
 have nx:∀k d v H2,P k d->At p H0 own H' H2->Rp (okK p H0 own H' k) H2 v d->Q v H2:=λk d v H2 h2 A2 r2=>q k d v H2 h2 (A.base A2) (mJ A r2)
 cases b with
 |true=>exact aK ⟨p,H0,own,ρ,P,E.go A.kp A.pen,by simpa using h,nx⟩
 |false=>exact bD ⟨p,H0,own,ρ,P,E.go A.kp A.pen,by simpa using h,nx⟩)
def tyD:D->String
 |.none=>"NoneType"
 |.bool _=>"bool"
 |.int _=>"int"
 |.str _=>"str"
 |.list _=>"list"
 |.tuple _=>"tuple"
 |.dict _=>"dict"
def isT(c:String)(d:D):Bool:=tyD d == c || (c == "int"&&tyD d == "bool")
def tIs(c:String)(te:DE):DE:=λρ P=>te ρ λ_ d=>P .imm (.bool (isT c d))
def dz{T:String}{x:Str}{ps pt:Pos}(hk:∀t:Value,(t=.type "NoneType"\/t=.type "bool"\/t=.type "int"\/t=.type "str"\/t=.type "list"\/t=.type "tuple"\/t=.type "dict")->∃n,t=.type n/\W.kitOne X.K t (.type T)=some (n == T || (T == "int"&&n == "bool")))(hm:X.mg "isinstance"=none)(he:PD X e te)(hT:PE X (.Name x pt) (tC (.ty T)))(hg:Gl X "isinstance":=by rfl)(h1:starEach [e,.Name x pt] X.env=(false,eval e X.env)::starEach [.Name x pt] X.env:=by rfl)(h2:starEach [.Name x pt] X.env=(false,eval (.Name x pt) X.env)::starEach [] X.env:=by rfl)(hpl:(backTo pos (starEach [.Name x pt] X.env)).any (·.1)=false:=by rfl) :
  PD X (.Call (.Name "isinstance" ps) [e,.Name x pt] [] pos) (tIs T te):=PE.wk (mO xg hg hm boot_isinstance (bY he (bY hT gK h2) h1) (by decide) (by decide) h1 hpl) (by
 rintro σ H Q ⟨p,H0,own,ρ,P,E,t,q⟩
 refine⟨p,H0,own,ρ,_,E,t,λk d v H' h A r=>?_⟩
 have fin:∀n,TyOf X.K H' v (.type n)->n=tyD d->∃x' c' t' b,[v,V.ty T]=[x',.ty c']/\TyOf X.K H' x' t'/\W.kitOne X.K t' (.type c')=some b/\Q (.bl b) H':=λn ty en=>by
  obtain⟨n',e,hk'⟩:=hk (.type n) (by rw[en];cases d <;> simp[tyD])
  cases e
  refine⟨v,T,.type n,_,rfl,ty,hk',?_⟩
  rw[en]
  exact q _ _ _ _ h A (.bl _)
 show ∃x' c' t' b,_/\_
 cases r with
 |non=>exact fin _ .non rfl
 |bl b=>exact fin _ (.bl b) rfl
 |int i=>exact fin _ (.int i) rfl
 |str x=>exact fin _ (.str x) rfl
 |lst o hh rr=>exact fin _ (.lst hh) rfl
 |tup hh rr=>exact fin _ (.tup hh) rfl
 |dct o hh rr=>exact fin _ (.dK hh) rfl
 |dcT o hh=>exact fin _ (.dT hh) rfl)
def Nz{K:Ú}:∀t:Value,(t=.type "NoneType"\/t=.type "bool"\/t=.type "int"\/t=.type "str"\/t=.type "list"\/t=.type "tuple"\/t=.type "dict")->∃n,t=.type n/\W.kitOne K t (.type "int")=some (n == "int" || ("int" == "int"&&n == "bool")):=by
 rintro t (rfl|rfl|rfl|rfl|rfl|rfl|rfl) <;> exact⟨_,rfl,rfl⟩
def JN{K:Ú}:∀t:Value,(t=.type "NoneType"\/t=.type "bool"\/t=.type "int"\/t=.type "str"\/t=.type "list"\/t=.type "tuple"\/t=.type "dict")->∃n,t=.type n/\W.kitOne K t (.type "bool")=some (n == "bool" || ("bool" == "int"&&n == "bool")):=by
 rintro t (rfl|rfl|rfl|rfl|rfl|rfl|rfl) <;> exact⟨_,rfl,rfl⟩
def rK{K:Ú}:∀t:Value,(t=.type "NoneType"\/t=.type "bool"\/t=.type "int"\/t=.type "str"\/t=.type "list"\/t=.type "tuple"\/t=.type "dict")->∃n,t=.type n/\W.kitOne K t (.type "list")=some (n == "list" || ("list" == "int"&&n == "bool")):=by
 rintro t (rfl|rfl|rfl|rfl|rfl|rfl|rfl) <;> exact⟨_,rfl,rfl⟩
def kit_tuple{K:Ú}:∀t:Value,(t=.type "NoneType"\/t=.type "bool"\/t=.type "int"\/t=.type "str"\/t=.type "list"\/t=.type "tuple"\/t=.type "dict")->∃n,t=.type n/\W.kitOne K t (.type "tuple")=some (n == "tuple" || ("tuple" == "int"&&n == "bool")):=by
 rintro t (rfl|rfl|rfl|rfl|rfl|rfl|rfl) <;> exact⟨_,rfl,rfl⟩
def R0:GC:=λks P=>match ks with
 |[(_,.list ds)]=>∃bs:List Bool,ds=bs.map PyData.bool/\P .imm (.bool (bs.all id))
 |_=>False
def Rps.bools{ok:Addr->Prop}{H:Hp}:∀{vs:List V}{bs:List Bool},Rps ok H vs (bs.map PyData.bool)->vs=bs.map V.bl
 |[],[],_=>rfl
 |_,b::bs,.cons h t=>by
  have e:=h.bl'
  subst e
  rw[Rps.bools t]
  rfl
def jA{ps:Pos}(hc:X.calm=true)(hm:X.mg "all"=none)(hv:bootBuiltins "all"=some (.builtin "all"))(ha:PDA X [a] t)(hg:Gl X "all":=by rfl)(he:zS X a []:=by rfl)(hpl:zP X pos []:=by rfl):PD X (.Call (.Name "all" ps) [a] [] pos) (tCl R0 t) :=
 cj (GQ hc) (by
  intro p H0 own Hb H vs ks P Q A r t q
  unfold R0 at t
  split at t
  ·obtain⟨bs,rfl,t⟩:=t
   obtain⟨v,rfl,r'⟩:=fJ r
   obtain⟨x,xs,e1,o1,h1,rs1⟩:=Rp.cN r'
   subst e1
   have e2:=Rps.bools rs1
   subst e2
   exact⟨x,bs,rfl,SqL.of h1,q _ _ _ _ t Kp.refl A.pen (.bl _)⟩
  ·exact t.elim) hg hm hv ha (by decide) (by decide) he hpl
def gMM(f:Int->Int->Int):GC:=λks P=>match ks with
 |[(_,.int i),(_,.int j)]=>P .imm (.int (f i j))
 |_=>False
def Mr{ps:Pos}(hc:X.calm=true)(hm:X.mg "max"=none)(ha:PDA X [a,b] t)(hg:Gl X "max":=by rfl)(he:starEach [a,b] X.env=(false,eval a X.env)::starEach [b] X.env:=by rfl)(hpl:(backTo pos (starEach [b] X.env)).any (·.1)=false:=by rfl):PD X (.Call (.Name "max" ps) [a,b] [] pos) (tCl (gMM λi j=>if j > i then j else i) t) :=
 cj (GP hc) (by
  intro p H0 own Hb H vs ks P Q A r t q
  unfold gMM at t
  split at t
  ·rename_i k i k' j
   obtain⟨v,w,rfl,r1,r2⟩:=Lx r
   rw[Rp.int' r1,Rp.int' r2]
   exact⟨i,j,rfl,q _ _ _ _ t Kp.refl A.pen (.int _)⟩
  ·exact t.elim) hg hm boot_max ha (by decide) (by decide) he hpl
def gMT(f:Int->Int->Int):GC:=λks P=>match ks with
 |[(_,.tuple [.int i,.int j])]=>P .imm (.int (f i j))
 |_=>False
def Mp{ps:Pos}(hc:X.calm=true)(hm:X.mg "min"=none)(ha:PDA X [a] t)(hg:Gl X "min":=by rfl)(he:zS X a []:=by rfl)(hpl:zP X pos []:=by rfl):PD X (.Call (.Name "min" ps) [a] [] pos) (tCl (gMT λi j=>if j<i then j else i) t) :=
 cj (uI hc) (by
  intro p H0 own Hb H vs ks P Q A r t q
  unfold gMT at t
  split at t
  ·rename_i k i j
   obtain⟨v,rfl,r'⟩:=fJ r
   obtain⟨x,xs,e1,h1,rs1⟩:=Rp.eN r'
   obtain⟨v1,v2,e2,q1,q2⟩:=Rps.two rs1
   subst e1 e2
   rw[q1.int',q2.int'] at h1
   exact⟨x,i,j,rfl,SqT.of h1,q _ _ _ _ t Kp.refl A.pen (.int _)⟩
  ·exact t.elim) hg hm boot_min ha (by decide) (by decide) he hpl
def Mq{ps:Pos}(hc:X.calm=true)(hm:X.mg "max"=none)(ha:PDA X [a] t)(hg:Gl X "max":=by rfl)(he:zS X a []:=by rfl)(hpl:zP X pos []:=by rfl):PD X (.Call (.Name "max" ps) [a] [] pos) (tCl (gMT λi j=>if j > i then j else i) t) :=
 cj (GK hc) (by
  intro p H0 own Hb H vs ks P Q A r t q
  unfold gMT at t
  split at t
  ·rename_i k i j
   obtain⟨v,rfl,r'⟩:=fJ r
   obtain⟨x,xs,e1,h1,rs1⟩:=Rp.eN r'
   obtain⟨v1,v2,e2,q1,q2⟩:=Rps.two rs1
   subst e1 e2
   rw[q1.int',q2.int'] at h1
   exact⟨x,i,j,rfl,SqT.of h1,q _ _ _ _ t Kp.refl A.pen (.int _)⟩
  ·exact t.elim) hg hm boot_max ha (by decide) (by decide) he hpl
def J2:GC:=λks P=>match ks with
 |[(k,.list ds)]=>newP k ds λk'=>P k' (.list ds)
 |[(k,.tuple ds)]=>newP k ds λk'=>P k' (.list ds)
 |_=>False
def vJ{ps:Pos}(hm:X.mg "list"=none)(ha:PDA X [a] t)(hg:Gl X "list":=by rfl)(he:zS X a []:=by rfl)(hpl:zP X pos []:=by rfl):PD X (.Call (.Name "list" ps) [a] [] pos) (tCl J2 t) :=
 yq nP (by
  intro p H0 own Hb H vs ks P Q A r t q
  have fin:∀{k ds xs},Rps (okK p H0 own Hb k) H xs ds->newP k ds (λk'=>P k' (.list ds))->∀l,H l=none->Q (.ref l) (upd H l (.lst xs)):=λ{k ds xs} rs t l hl=>by
   obtain⟨k2,i2,nw⟩:=A.new hl (.lst xs)
   obtain⟨k',hk',rk'⟩:=j5 A (cL A k2 rs) nw au t
   exact q _ _ _ _ hk' k2 i2 rk'
  unfold J2 at t
  split at t
  ·obtain⟨v,rfl,r'⟩:=fJ r
   obtain⟨x,xs,e1,o1,h1,rs1⟩:=Rp.cN r'
   subst e1
   exact⟨x,xs,rfl,.inl (SqL.of h1),fin rs1 t⟩
  ·obtain⟨v,rfl,r'⟩:=fJ r
   obtain⟨x,xs,e1,h1,rs1⟩:=Rp.eN r'
   subst e1
   exact⟨x,xs,rfl,.inr (SqT.of h1),fin rs1 t⟩
  ·exact t.elim) hg hm boot_list ha (by decide) (by decide) he hpl
def JX:GC:=λks P=>match ks with
 |[(k,.list ds)]=>P (norm k (.tuple ds)) (.tuple ds)
 |[(k,.tuple ds)]=>P (norm k (.tuple ds)) (.tuple ds)
 |_=>False
def gq{ps:Pos}(hm:X.mg "tuple"=none)(ha:PDA X [a] t)(hg:Gl X "tuple":=by rfl)(he:zS X a []:=by rfl)(hpl:zP X pos []:=by rfl):PD X (.Call (.Name "tuple" ps) [a] [] pos) (tCl JX t) :=
 yq tu (by
  intro p H0 own Hb H vs ks P Q A r t q
  unfold JX at t
  split at t
  ·rename_i k ds
   obtain⟨v,rfl,r'⟩:=fJ r
   obtain⟨x,xs,e1,o1,h1,rs1⟩:=Rp.cN r'
   subst e1
   refine⟨x,xs,rfl,.inl ⟨SqL.of h1,λl hl=>?_⟩⟩
   obtain⟨k2,i2,nw⟩:=A.new hl (.tup xs)
   exact q _ _ _ _ t k2 i2 (aR (.tup au (cL A k2 rs1)))
  ·rename_i k ds
   obtain⟨v,rfl,r'⟩:=fJ r
   obtain⟨x,xs,e1,h1,rs1⟩:=Rp.eN r'
   subst e1
   exact⟨x,xs,rfl,.inr ⟨SqT.of h1,q _ _ _ _ t Kp.refl A.pen (aR r')⟩⟩
  ·exact t.elim) hg hm boot_tuple ha (by decide) (by decide) he hpl
def Bo:GC:=λks P=>match ks with
 |[(_,.list ds)]=>∃ns:List Int,ds=ns.map Ã/\ns.length<64/\∀out:List Int,out.Perm ns->out.Pairwise (·<=·)->P .new (.list (out.map Ã))
 |_=>False
def mU{ps:Pos}(hm:X.mg "sorted"=none)(ha:PDA X [a] t)(hg:Gl X "sorted":=by rfl)(he:zS X a []:=by rfl)(hpl:zP X pos []:=by rfl):PD X (.Call (.Name "sorted" ps) [a] [] pos) (tCl Bo t) :=
 cj w6 (by
  intro p H0 own Hb H vs ks P Q A r t q
  unfold Bo at t
  split at t
  ·obtain⟨ns,rfl,hl,t⟩:=t
   obtain⟨v,rfl,r'⟩:=fJ r
   obtain⟨x,xs,e1,o1,h1,rs1⟩:=Rp.cN r'
   subst e1
   have e2:=Rps.ints rs1
   subst e2
   refine⟨x,ns,rfl,SqL.of h1,hl,λl out hl' hp hs=>?_⟩
   obtain⟨k2,i2,nw⟩:=A.new hl' (.lst (out.map V.int))
   exact q _ _ _ _ (t out hp hs) k2 i2 (.lst nw au (Rps.ofMap (λi=>.int i) out))
  ·exact t.elim) hg hm boot_sorted ha (by decide) (by decide) he hpl
def wK:GC:=λks P=>match ks with
 |[(_,d)]=>∃ts:List Tie,(d=.list (ts.map pD)\/d=.tuple (ts.map pD))/\ts.length<64/\(∀t∈ts,pC t)/\∀us:List Tie,us.Perm ts->us.Pairwise (λa b=>aH a<=aH b)->P .new (.list (us.map pD))
 |_=>False
def Rps.prs{ok:Addr->Prop}{H:Hp}:∀{vs:List V}{ts:List Tie},Rps ok H vs (ts.map pD)->Prs H vs ts
 |[],[],_=>.nil
 |_,t::ts,.cons h r=>by
  obtain⟨x,xs,e,hx,rs⟩:=Rp.eN h
  obtain⟨v1,v2,e2,q1,q2⟩:=Rps.two rs
  subst e e2
  rw[q1.int',q2.int'] at hx
  exact .cons ⟨x,rfl,hx⟩ (Rps.prs r)
def Prs.rps{ok:Addr->Prop}{H:Hp}:∀{vs:List V}{ts:List Tie},Prs H vs ts->Rps ok H vs (ts.map pD)
 |_,_,.nil=>.nil
 |_,_,.cons r t=>by
  obtain⟨x,e,hx⟩:=r
  subst e
  exact .cons (.tup hx (.cons (.int _) (.cons (.int _) .nil))) (Prs.rps t)
def gR{ps:Pos}(hm:X.mg "sorted"=none)(ha:PDA X [a] t)(hg:Gl X "sorted":=by rfl)(he:zS X a []:=by rfl)(hpl:zP X pos []:=by rfl):PD X (.Call (.Name "sorted" ps) [a] [] pos) (tCl wK t) :=
 cj wZ (by
  intro p H0 own Hb H vs ks P Q A r t q
  unfold wK at t
  split at t
  ·obtain⟨ts,hd,hl,hn,t⟩:=t
   obtain⟨v,rfl,r'⟩:=fJ r
   have fin:∀l ws us,H l=none->Prs H ws us->us.Perm ts->us.Pairwise (λa b=>aH a<=aH b)->Q (.ref l) (upd H l (.lst ws)):=λl ws us hl' pr hp hs=>by
    obtain⟨k2,i2,nw⟩:=A.new hl' (.lst ws)
    exact q _ _ _ _ (t us hp hs) k2 i2 (.lst nw au (cL A k2 (Prs.rps pr)))
   rcases hd with rfl|rfl
   ·obtain⟨x,xs,e1,o1,h1,rs1⟩:=Rp.cN r'
    subst e1
    exact⟨x,xs,ts,rfl,.inl (SqL.of h1),Rps.prs rs1,hn,.inl hl,fin⟩
   ·obtain⟨x,xs,e1,h1,rs1⟩:=Rp.eN r'
    subst e1
    exact⟨x,xs,ts,rfl,.inr (SqT.of h1),Rps.prs rs1,hn,.inl hl,fin⟩
  ·exact t.elim) hg hm boot_sorted ha (by decide) (by decide) he hpl
end
variable [Gr]
section
variable {X:Cx}{pins:List (Addr×Obj)}{σ:L2.St}{H:Hp}{s:Shared}{ok:Addr->Prop}
mutual
def Rp.reads(I:Inv X pins σ H s):∀{v:V}{d:D}{u:Value},Rp ok H v d->RelV v u->d.canLay0=true->∃as,Reads s.heap u d as
 |_,_,_,.non,r,_=>by cases r;exact⟨_,.none⟩
 |_,_,_,.bl b,r,_=>by cases r;exact⟨_,.bool b⟩
 |_,_,_,.int i,r,_=>by obtain⟨t,rfl⟩:=r;exact⟨_,.int i t⟩
 |_,_,_,.str x,r,_=>by obtain⟨t,rfl⟩:=r;exact⟨_,.str x t⟩
 |_,_,_,.lst o h rs,r,c=>by
  cases r
  obtain⟨its,rv,pl,_⟩:=I.list (SqL.of h)
  obtain⟨as,ra⟩:=Rps.reads I rs rv (by simpa[PyData.canLay0] using c)
  obtain⟨ob,ho,hc,n,hd⟩:=pl.isList
  exact⟨_,.list ho hc hd (by simpa using ra)⟩
 |_,_,_,.tup h rs,r,c=>by
  cases r
  obtain⟨its,rv,pl,_⟩:=I.tuple (SqT.of h)
  obtain⟨as,ra⟩:=Rps.reads I rs rv (by simpa[PyData.canLay0] using c)
  obtain⟨ob,ho,hc,n,hd⟩:=pl
  exact⟨_,.tuple ho hc hd (by simpa using ra)⟩
 |_,_,_,.dct o h rs,r,c=>by simp[PyData.canLay0] at c
 |_,_,_,.dcT o h,r,c=>by simp[PyData.canLay0] at c
def Rps.reads(I:Inv X pins σ H s):∀{v:List V}{d:List D}{u:List Value},Rps ok H v d->Vals v u->ĩ d=true->∃as,ReadsAll s.heap u d as
 |_,_,_,.nil,r,_=>by cases r;exact⟨[],.nil⟩
 |_,_,_,.cons h t,r,c=>by
  cases r with
  |cons a b =>
   simp only[ĩ,Ë] at c
   obtain⟨as,ra⟩:=Rp.reads I h a c.1
   obtain⟨bs,rb⟩:=Rps.reads I t b c.2
   exact⟨_,.cons ra rb⟩
end
end
def okD(d:D):Bool:=d.canLay0&&decide (d.depth<=60)
section
variable {X:Cx}{pos:Pos}{a b e:Expr}{ta tb te:DE}
def H9(K:Ú)(neg:Bool):R2:=λx y H Q=>∃ok ok' d e,Rp ok H x d/\Rp ok' H y e/\okD d=true/\okD e=true/\Q (.bl (if neg then !(ý d e) else ý d e)) H
def Jf(hu:X.A.units+64<cLine):OpR X (compareOp .Eq) (H9 X.K false):=by
 intro pins s σ H x y v u Q I rx ry h
 obtain⟨ok,ok',d,e,hd,he,cd,ce,q⟩:=h
 simp only[okD,Ë,decide_eq_true_eq] at cd ce
 obtain⟨as,ra⟩:=hd.reads I rx cd.1
 obtain⟨bs,rb⟩:=he.reads I ry ce.1
 exact SeqAt.compareEq_reads ra rb cd.1 ce.1 (by omega) ⟨.bl _,H,I,rfl,q⟩
def vN(hu:X.A.units+64<cLine):OpR X (compareOp .NotEq) (H9 X.K true):=by
 intro pins s σ H x y v u Q I rx ry h
 obtain⟨ok,ok',d,e,hd,he,cd,ce,q⟩:=h
 simp only[okD,Ë,decide_eq_true_eq] at cd ce
 obtain⟨as,ra⟩:=hd.reads I rx cd.1
 obtain⟨bs,rb⟩:=he.reads I ry ce.1
 exact SeqAt.compareNe_reads ra rb cd.1 ce.1 (by omega) ⟨.bl _,H,I,rfl,q⟩
def RZ(neg:Bool):G2:=λ_ d1 _ d2 P=>okD d1=true/\okD d2=true/\P .imm (.bool (if neg then !(ý d1 d2) else ý d1 d2))
def Jp{K:Ú}(neg:Bool):Ok2 (RZ neg) (H9 K neg):=by
 intro p H0 own Hb H x y k1 d1 k2 d2 P Q A r1 r2 t q
 exact⟨_,_,d1,d2,r1,r2,t.1,t.2.1,q _ _ _ _ t.2.2 Kp.refl A.pen (.bl _)⟩
def Ml(hu:X.A.units+64<cLine)(ha:PD X a ta)(hb:PD X b tb):PDT X (.Compare a [.NotEq] [b] pos) (fW (t2 (RZ true) ta tb)):=dY (vN hu) (Jp true) ha hb (bK _)
def eqP(x:D)(h:Heap)(u:Value):Bool:=by
 classical
 exact decide (∃d as,Reads h u d as/\ý d x=true)
def Uk(neg:Bool):R2:=λx y H Q=>∃ok ok' d es,Rp ok H x d/\(Rp ok' H y (.list es)\/Rp ok' H y (.tuple es))/\okD d=true/\(es.all okD)=true/\Q (.bl (if neg then !(es.any λe=>ý e d) else es.any λe=>ý e d)) H
def Kh{x:D}{h:Heap}{u:Value}{d:D}{as:List Addr}(r:Reads h u d as):eqP x h u=ý d x:=by
 classical
 unfold eqP
 rw[ě,decide_eq_true_eq]
 constructor
 ·rintro⟨d',as',r',e⟩
  rw[(r.unique d' as' r').1]
  exact e
 ·exact λe=>⟨d,as,r,e⟩
def xq{x:D}{h:Heap}:∀{us:List Value}{ds:List D}{as:List Addr},ReadsAll h us ds as->us.any (eqP x h)=ds.any λe=>ý e x
 |_,_,_,.nil=>rfl
 |_,_,_,.cons a b=>by
  rw[List.any_cons,List.any_cons,Kh a,xq b]
def wj{A:Around}{s:Shared}{x:D}{v:Value}{bs:List Addr}(rx:Reads s.heap v x bs)(cx:okD x=true)(hu:A.units+60<cLine):∀{us:List Value}{ds:List D}{as:List Addr},ReadsAll s.heap us ds as->ds.all okD=true->∀u∈us,SeqAt.EqAt A s u v (eqP x s.heap u)
 |_,_,_,.nil,_,u,hu'=>nomatch hu'
 |_,d::ds,_,.cons a b,c,u,hu'=>by
  simp only[List.all_cons,Ë] at c
  rcases Ó.mp hu' with rfl|hu'
  ·rw[Kh a]
   have c1:=c.1
   simp only[okD,Ë,decide_eq_true_eq] at c1 cx
   exact SeqAt.eqAt_reads _ _ A s _ _ _ _ a rx c1.1 cx.1 (by omega)
  ·exact wj rx cx hu b c.2 u hu'
def yP{A:Around}(hu:A.units+64<cLine):A.in1.units+60<cLine:=by
 have:A.in1.units<=A.units+1:=by first|exact É _|exact ĸ _|(unfold Around.in1;simp)
 omega
def wC:∀{es:List D},es.all okD=true->ĩ es=true
 |[],_=>rfl
 |e::es,h=>by
  simp only[List.all_cons,Ë,okD] at h
  simp only[ĩ,Ë]
  exact⟨h.1.1,wC h.2⟩
def Jd(hu:X.A.units+64<cLine):OpR X (compareOp .In) (Uk false):=by
 intro pins s σ H x y v u Q I rx ry h
 obtain⟨ok,ok',d,es,hd,hs,cd,ce,q⟩:=h
 have cd':=cd
 simp only[okD,Ë,decide_eq_true_eq] at cd'
 obtain⟨bs,rb⟩:=hd.reads I rx cd'.1
 rcases hs with hs|hs
 ·obtain⟨c,vs,rfl,o,hc,rs⟩:=hs.cN
  cases ry
  obtain⟨its,r,pl,hz⟩:=I.list (SqL.of hc)
  obtain⟨as,ra⟩:=rs.reads I r (wC ce)
  refine SeqAt.in_listAt (eqP d s.heap) pl.isList (λw hw=>wj rb cd (yP hu) ra ce w (by simpa using hw)) ⟨.bl _,H,I,rfl,?_⟩
  rw[show its.toArray.any (eqP d s.heap)=its.any (eqP d s.heap) by simp,xq ra]
  exact q
 ·obtain⟨c,vs,rfl,hc,rs⟩:=hs.eN
  cases ry
  obtain⟨its,r,pl,hz⟩:=I.tuple (SqT.of hc)
  obtain⟨as,ra⟩:=rs.reads I r (wC ce)
  refine SeqAt.in_tupleAt (eqP d s.heap) pl (λw hw=>wj rb cd (yP hu) ra ce w (by simpa using hw)) ⟨.bl _,H,I,rfl,?_⟩
  rw[show its.toArray.any (eqP d s.heap)=its.any (eqP d s.heap) by simp,xq ra]
  exact q
def gIn(neg:Bool):G2:=λ_ d1 _ d2 P=>match d2 with
 |.list es=>okD d1=true/\es.all okD=true/\P .imm (.bool (if neg then !(es.any λe=>ý e d1) else es.any λe=>ý e d1))
 |.tuple es=>okD d1=true/\es.all okD=true/\P .imm (.bool (if neg then !(es.any λe=>ý e d1) else es.any λe=>ý e d1))
 |_=>False
def okIn(neg:Bool):Ok2 (gIn neg) (Uk neg):=by
 intro p H0 own Hb H x y k1 d1 k2 d2 P Q A r1 r2 t q
 cases d2 with
 |list es=>exact⟨_,_,d1,es,r1,.inl r2,t.1,t.2.1,q _ _ _ _ t.2.2 Kp.refl A.pen (.bl _)⟩
 |tuple es=>exact⟨_,_,d1,es,r1,.inr r2,t.1,t.2.1,q _ _ _ _ t.2.2 Kp.refl A.pen (.bl _)⟩
 |_=>exact t.elim
def OJ(hu:X.A.units+64<cLine)(ha:PD X a ta)(hb:PD X b tb)(hm:behindInMarks .In b=false:=by rfl):PD X (.Compare a [.In] [b] pos) (t2 (gIn false) ta tb):=gH (Jd hu) (okIn false) ha hb hm
def d9(hu:X.A.units+64<cLine)(ha:PD X a ta)(hb:PD X b tb)(hm:behindInMarks .In b=false:=by rfl):PDT X (.Compare a [.In] [b] pos) (fW (t2 (gIn false) ta tb)):=dY (Jd hu) (okIn false) ha hb hm
end
variable [Gr]
section
variable {X:Cx}{pos p2:Pos}{a b c e:Expr}{es:List Expr}{ta tb tc te:DE}{t:DA}{st:Stmt}
abbrev DO:=List Sl->(Option Int->Prop)->Prop
def rH(t:DO):TO:=λσ H Q=>∃p H0 own ρ P,EnvD p H0 own σ H ρ/\t ρ P/\∀o H',P o->At p H0 own H H'->Q o H'
def PO.wk{e:Option Expr}{t t':TO}(h:PO X e t)(w:∀σ H Q,t' σ H Q->t σ H Q):PO X e t':=λpins s σ H Q I q=>h pins s σ H Q I (w σ H Q q)
def O9:DO:=λ_ P=>P none
def O8(te:DE):DO:=λρ P=>te ρ λ_ d=>match d with
 |.int i=>P (some i)
 |_=>False
def dO:PO X none (rH O9):=PO.wk Dh (by
 rintro σ H Q ⟨p,H0,own,ρ,P,E,t,q⟩
 exact q _ _ t E.at)
def iR(h:PD X e te):PO X (some e) (rH (O8 te)):=PO.wk (Dg h) (by
 rintro σ H Q ⟨p,H0,own,ρ,P,E,t,q⟩
 refine⟨p,H0,own,ρ,_,E,t,λk d v H' h A r=>?_⟩
 cases d with
 |int i=>exact⟨i,r.int',q _ _ h A⟩
 |_=>exact h.elim)
def eG{α:Type}(ds:List α)(lo hi:Option Int):List α:=(ds.drop (HT.sIx ds.length 0 lo)).take (HT.sIx ds.length ds.length hi - HT.sIx ds.length 0 lo)
def Rps.cut{ok:Addr->Prop}{H:Hp}{vs:List V}{ds:List D}(r:Rps ok H vs ds)(lo hi:Option Int):Rps ok H (o8 vs lo hi) (eG ds lo hi):=by
 unfold o8 eG
 rw[r.length]
 exact(r.drop _).take _
def V8(te:DE)(tl th:DO):DE:=λρ P=>te ρ λk d=>tl ρ λlo=>th ρ λhi=>match d with
 |.list ds=>newP k (eG ds lo hi) λk'=>P k' (.list (eG ds lo hi))
 |_=>False
def vD{lo hi:Option Expr}{tl th:DO}(he:PD X e te)(hl:PO X lo (rH tl))(hh:PO X hi (rH th)):PD X (.Subscript e (.Slice lo hi none p2) pos) (V8 te tl th):=PE.wk (qR u6 he hl hh) (by
 rintro σ H Q ⟨p,H0,own,ρ,P,E,t,q⟩
 refine⟨p,H0,own,ρ,_,E,t,λk d v H1 h A r=>?_⟩
 refine⟨p,H0,own,ρ,_,E.go A.kp A.pen,h,λo1 H2 h2 A2=>?_⟩
 refine⟨p,H0,own,ρ,_,(E.go A.kp A.pen).go A2.kp A2.pen,h2,λo2 H3 h3 A3=>?_⟩
 have A4:=(A.base A2).base A3
 have r3:=mH (A.base A2) A3.kp (mH A A2.kp r)
 cases d with
 |list ds =>
  obtain⟨x,xs,e1,o,h1,rs⟩:=Rp.cN r3
  subst e1
  refine⟨x,xs,rfl,SqL.of h1,λl hl=>?_⟩
  obtain⟨k2,i2,nw⟩:=A4.new hl (.lst (o8 xs o1 o2))
  obtain⟨k',hk',rk'⟩:=j5 A4 (cL A4 k2 (rs.cut o1 o2)) nw au h3
  exact q _ _ _ _ hk' (A4.go k2 i2) rk'
 |_=>exact h3.elim)
def Oe:G2:=λk1 d1 k2 d2 P=>match d1,d2 with
 |.list ds,.list es=>ds.length+es.length<=1000/\newP (k1.join k2) (ds++es) λk=>P k (.list (ds++es))
 |_,_=>False
def O7:Ok2 Oe Um:=by
 intro p H0 own Hb H x y k1 d1 k2 d2 P Q A r1 r2 t q
 unfold Oe at t
 split at t
 ·obtain⟨c1,xs,e1,o1,h1,rs1⟩:=r1.cN
  obtain⟨c2,ys,e2,o2,h2,rs2⟩:=r2.cN
  subst e1 e2
  have h24:=é
  refine⟨c1,c2,xs,ys,rfl,rfl,h1,h2,by rw[rs1.length,rs2.length];omega,λl hl=>?_⟩
  obtain⟨k3,i3,nw⟩:=A.new hl (.lst (xs++ys))
  have j:=eX k1 k2
  have m:∀{k vs ds},k.le (k1.join k2)=true->Rps (okK p H0 own Hb k) H vs ds->Rps (okK p H0 own Hb (k1.join k2)) H vs ds:=λhk z=>z.mono (λa o=>bW A hk o) (λ_ _ _ e=>e) λ_ _ e=>e
  obtain⟨k',hk',rk'⟩:=j5 A (cL A k3 ((m j.1 rs1).app (m j.2 rs2))) nw au t.2
  exact q _ _ _ _ hk' k3 i3 rk'
 ·exact t.elim
def IW(ha:PD X a ta)(hb:PD X b tb):PD X (.BinOp a .Add b pos) (t2 Oe ta tb):=kJ Jg O7 ha hb
def J3:G2:=λk1 d1 k2 d2 P=>match d1,d2 with
 |.tuple ds,.tuple es=>ds.length+es.length<=1000/\P (norm (k1.join k2) (.tuple (ds++es))) (.tuple (ds++es))
 |_,_=>False
def Rx:Ok2 J3 OD:=by
 intro p H0 own Hb H x y k1 d1 k2 d2 P Q A r1 r2 t q
 unfold J3 at t
 split at t
 ·obtain⟨c1,xs,e1,h1,rs1⟩:=r1.eN
  obtain⟨c2,ys,e2,h2,rs2⟩:=r2.eN
  subst e1 e2
  have h24:=é
  refine⟨c1,c2,xs,ys,rfl,rfl,h1,h2,by rw[rs1.length,rs2.length];omega,λl H' sm hl=>?_⟩
  have K:Kp p H H':=Kp.of sm
  have j:=eX k1 k2
  have m:∀{k vs ds},k.le (k1.join k2)=true->Rps (okK p H0 own Hb k) H vs ds->Rps (okK p H0 own Hb (k1.join k2)) H vs ds:=λhk z=>z.mono (λa o=>bW A hk o) (λ_ _ _ e=>e) λ_ _ e=>e
  exact q _ _ _ _ t.2 K (p.mono H H' A.pen λb o _ e=>sm b o e) (aR (.tup hl (cL A K ((m j.1 rs1).app (m j.2 rs2)))))
 ·exact t.elim
def Qn(ta:DE):DE:=λρ P=>ta ρ λ_ d=>match d with
 |.int i=>P .imm (.int (-i))
 |_=>False
def gG(ha:PD X a ta):PD X (.UnaryOp .USub a pos) (Qn ta):=PE.wk (Ut Qg ha) (by
 rintro σ H Q ⟨p,H0,own,ρ,P,E,t,q⟩
 refine⟨p,H0,own,ρ,_,E,t,λk d v H' h A r=>?_⟩
 cases d with
 |int i=>exact⟨i,r.int',q _ _ _ _ h A (.int _)⟩
 |_=>exact h.elim)
def VG(te:DE)(g:DG):DS:=λP ρ=>te ρ λk d=>g (norm (elK k) d) d ρ P.nx
def UJ{p:Pn}{H0 Hb H:Hp}{own:Addr->Option Nat}(A:At p H0 own Hb H){k:Kd}{v:V}{d:D}(r:Rp (okK p H0 own Hb k) H v d):Rp (okB p H0 own (norm (elK k) d)) H v d:=by
 refine jr (r.mono (λa o=>?_) (λ_ _ _ e=>e) λ_ _ e=>e)
 cases k with
 |imm=>exact o
 |new=>exact⟨A.h0 o,A.nfb o,A.I9 o⟩
 |reg q=>exact o
 |n0=>trivial
 |snw=>exact o
 |shr=>exact o
 |wk=>trivial
def wW{g:DG}(h:PS X st (sO (dB te) (JK g))):PDS X st (VG te g):=PS.wk' h (by
 rintro Q σ H ⟨p,H0,own,ρ,P,E,t,w⟩
 refine⟨p,H0,own,ρ,_,E,t,λk d v H1 h A r=>?_⟩
 exact⟨p,H0,own,ρ,_,d,P.nx,E.go A.kp A.pen,UJ A r,h,λσ' ρ' E' n=>w.nx own σ' H1 ρ' E' A.frs n⟩)
def SJ(i:Nat)(te:DE):DS:=λP ρ=>match ρ[i]? with
 |some (.dw r (.list ds))=>te ρ λk d=>match d with
  |.list es=>(k.le .new || cJ es)=true/\ds.length+es.length<=1000/\P.nx ((forget r ρ).set i (.dw r (.list (ds++es))))
  |_=>False
 |_=>False
def Ds{te:DE}{ρ:List Sl}{R:Kd->D->Prop}(t:te ρ R):bM te iy ρ (λks=>∃k d,ks=[(k,d)]/\R k d):=by
 show te ρ λk d=>∃k' d',[((k,d):Kd×D)]=[(k',d')]/\R k' d'
 have e:(λk d=>∃k' d',[((k,d):Kd×D)]=[(k',d')]/\R k' d')=R:=by
  funext k d
  apply propext
  constructor
  ·rintro⟨k',d',e,h⟩
   cases e
   exact h
  ·exact λh=>⟨k,d,rfl,h⟩
 rw[e]
 exact t
def xZ{ok ok':Addr->Prop}{H H2:Hp}(f:∀{w:V}{d:D},Rp ok H w d->Rp ok' H2 w d):∀{vs:List V}{ds:List D},Rps ok H vs ds->Rps ok' H2 vs ds
 |_,_,.nil=>.nil
 |_,_,.cons h t=>.cons (f h) (xZ f t)
def dW{i:Nat}(h:PS X st (tL (tBM X.K "list" Dd (jf i) (jd (bM te iy))))):PDS X st (SJ i te):=PS.wk' h (by
 rintro Q σ H ⟨p,H0,own,ρ,P,E,t,w⟩
 unfold SJ at t
 split at t
 ·rename_i r ds hr
  obtain⟨v,hv,x⟩:=E.slot i _ hr
  obtain⟨l,vs,rfl,hl,ho,rs⟩:=x.cN
  refine⟨.ref l,hv,.inl ⟨rfl,vs,SqL.of ho⟩,p,H0,own,ρ,_,E,Ds t,?_⟩
  rintro ks ws H1 ⟨k,d,rfl,hh⟩ A rk
  cases d with
  |list es =>
   obtain⟨hk,hlen,hn⟩:=hh
   obtain⟨y,rfl,ry⟩:=fJ rk
   obtain⟨b,zs,e1,o1,hb,rz⟩:=Rp.cN ry
   subst e1
   have rz2:Rps (okK p H0 own H .new) H1 zs es:=by
    rcases Bool.or_eq_true_iff.mp hk with q|q
    ·exact rz.mono (λa o=>bW A q o) (λ_ _ _ e=>e) λ_ _ e=>e
    ·exact(Rps.imm rz q).mono (λa o=>o.elim) (λ_ _ _ e=>e) λ_ _ e=>e
   have h1:H1 l=some (.lst vs):=A.kp l _ ho (E.ow l r hl).2.1
   have h24:=é
   have l1:=rs.length
   have l2:=rz.length
   refine⟨l,b,vs,zs,rfl,rfl,h1,hb,by omega,?_⟩
   obtain⟨E2,F2⟩:=E.vd (vs':=vs++zs) (ds':=ds++es) A hv hl ho rs λH2 f g=>(pZ f rs λd hd=>oh hd).app (xZ g rz2)
   exact w.nx _ σ _ _ E2 F2 hn
  |_=>exact hh.elim
 ·exact t.elim)
def VB(i:Nat)(tj te:DE):DS:=λP ρ=>match ρ[i]? with
 |some (.dw r (.list ds))=>tj ρ λ_ dj=>te ρ λk d=>match dj with
  |.int j=>(norm k d).le .new=true/\0<=j/\j.toNat<=ds.length/\ds.length<1000/\P.nx ((forget r ρ).set i (.dw r (.list (ds.take j.toNat++d::ds.drop j.toNat))))
  |_=>False
 |_=>False
def Gq{i:Nat}{tj:DE}(h:PS X st (tL (tBM X.K "list" Dc (jf i) (jd (bM tj (bM te iy)))))):PDS X st (VB i tj te):=PS.wk' h (by
 rintro Q σ H ⟨p,H0,own,ρ,P,E,t,w⟩
 unfold VB at t
 split at t
 ·rename_i r ds hr
  obtain⟨v,hv,x⟩:=E.slot i _ hr
  obtain⟨l,vs,rfl,hl,ho,rs⟩:=x.cN
  refine⟨.ref l,hv,.inl ⟨rfl,vs,SqL.of ho⟩,p,H0,own,ρ,λks=>∃k1 dj k d,ks=[(k1,dj),(k,d)]/\(match dj with
   |.int j=>(norm k d).le .new=true/\0<=j/\j.toNat<=ds.length/\ds.length<1000/\P.nx ((forget r ρ).set i (.dw r (.list (ds.take j.toNat++d::ds.drop j.toNat))))
   |_=>False),E,?_,?_⟩
  ·show tj ρ λk1 dj=>te ρ λk d=>∃k1' dj' k' d',[((k1,dj):Kd×D),(k,d)]=[(k1',dj'),(k',d')]/\_
   have e:∀(k1:Kd) (dj:D),(λk d=>∃k1' dj' k' d',[((k1,dj):Kd×D),(k,d)]=[(k1',dj'),(k',d')]/\(match dj' with
    |.int j=>(norm k' d').le .new=true/\0<=j/\j.toNat<=ds.length/\ds.length<1000/\P.nx ((forget r ρ).set i (.dw r (.list (ds.take j.toNat++d'::ds.drop j.toNat))))
    |_=>False))=λk d=>(match dj with
    |.int j=>(norm k d).le .new=true/\0<=j/\j.toNat<=ds.length/\ds.length<1000/\P.nx ((forget r ρ).set i (.dw r (.list (ds.take j.toNat++d::ds.drop j.toNat))))
    |_=>False):=λk1 dj=>by
    funext k d
    apply propext
    constructor
    ·rintro⟨k1',dj',k',d',e,h⟩
     cases e
     exact h
    ·exact λh=>⟨k1,dj,k,d,rfl,h⟩
   simp only[e]
   exact t
  ·rintro ks ws H1 ⟨k1,dj,k,d,rfl,hh⟩ A rk
   cases dj with
   |int j =>
    obtain⟨hk,h0,hj,hlen,hn⟩:=hh
    obtain⟨y1,y,rfl,ry1,ry⟩:=Lx rk
    have ry:=kI A hk (aR ry)
    have e1:=Rp.int' ry1
    have h1:H1 l=some (.lst vs):=A.kp l _ ho (E.ow l r hl).2.1
    have h24:=é
    have l1:=rs.length
    refine⟨l,vs,j.toNat,y,rfl,?_,h1,by omega,by omega,?_⟩
    ·rw[e1]
     have:((j.toNat:Nat):Int)=j:=by omega
     rw[this]
    obtain⟨E2,F2⟩:=E.vd (vs':=vs.take j.toNat++y::vs.drop j.toNat) (ds':=ds.take j.toNat++d::ds.drop j.toNat) A hv hl ho rs λH2 f g=>by
     have m:=pZ f rs λd hd=>oh hd
     exact(m.take _).app (.cons (g ry) (m.drop _))
    exact w.nx _ σ _ _ E2 F2 hn
   |_=>exact hh.elim
 ·exact t.elim)
end
variable [Gr]
structure Cal(P:Program)(w:World)(K:Ú)(mg:Str->Option Value)(base:Heap)(k:Nat)(x:Str)(ps:List Str)(sp:Sp):Prop where
 ex:∃f fd,FnOk P w K mg base CX0 k f fd ps sp/\Binds K fd ps []/\W.keepIn K (.ref f)=true/\mg x=some (.ref f)
section
variable {X:Cx}{k j:Nat}{x:Str}{ps:List Str}{e:Expr}{es:List Expr}{t:DA}{p pos pq:Pos}
def pcS{sp:Sp}{ta:TA}(C:Cal X.prog X.w X.K X.mg X.base k x ps sp)(hr:Room j X.A)(ha:PA X (e::es) ta)(hk:k<=j)(hg:Gl X x)(hdb:zB x)(he:zS X e es)(hpl:zP X pos es) :
  PE X (.Call (.Name x p) (e::es) [] pos) (pG sp [] E0 ta):=by
 obtain⟨f,fd,F,b,kp,m⟩:=C.ex
 exact Mj F (hr.mono hk) hg m kp b .nil O1 ha hdb he hpl
def dc{f:List D->(D->Prop)->Prop}(C:Cal X.prog X.w X.K X.mg X.base k x ps (spD f))(hr:Room j X.A)(ha:PDA X (e::es) t)(hk:k<=j:=by decide)(hg:Gl X x:=by rfl)(hdb:zB x:=by decide)(he:zS X e es:=by rfl)(hpl:zP X pos es:=by rfl) :
  PD X (.Call (.Name x p) (e::es) [] pos) (tFn f t):=PE.wk (pcS C hr ha hk hg hdb he hpl) Nq
def dcP{C:Pn->Prop}{i:Nat}{f:List D->(D->Prop)->Prop}{y:Str}{py:Pos}(CC:Cal X.prog X.w X.K X.mg X.base k x ps (spP C f))(hr:Room j X.A)(hi:PE X (.Name y py) (jf i))(ha:PDA X es t)(hk:k<=j:=by decide)(hg:Gl X x:=by rfl)(hdb:zB x:=by decide)(he:starEach (.Name y py::es) X.env=(false,eval (.Name y py) X.env)::starEach es X.env:=by rfl)(hpl:zP X pos es:=by rfl) :
  PD X (.Call (.Name x p) (.Name y py::es) [] pos) (Qt C f i t):=PE.wk (pcS CC hr (bY hi ha) hk hg hdb he hpl) JF
def dv(i:Nat){x:Str}{pos:Pos}(hN:X.N[i]?=some x:=by rfl)(hv:Vis X.env.scope x:=by first|exact Ė rfl|exact Or.inr (Ė rfl)|exact Or.inr (Or.inr rfl))(hd:zB x:=by decide)(hcd:(x == ("__classdict__":Str))=false:=by decide):PD X (.Name x pos) (tV i):=Q6 (pv i hN hv hd hcd)
end
structure Bn(mg:Str->Option Value):Prop where
 isinstance:mg "isinstance"=none
 int:mg "int"=none
 bool:mg "bool"=none
 tuple:mg "tuple"=none
 list:mg "list"=none
 len:mg "len"=none
 all:mg "all"=none
 min:mg "min"=none
 max:mg "max"=none
 sorted:mg "sorted"=none
 range:mg "range"=none
 abs:mg "abs"=none
def boot_all:bootBuiltins "all"=some (.builtin "all"):=by decide +kernel
def Ho{i:Nat}{ρ:List Sl}{d:D}{P:DK}(h:ρ[i]?=some (bI d))(q:∀k,P k d):tV i ρ P:=by
 unfold tV
 rw[h]
 unfold bI
 by_cases hi:d8 d=true
 ·rw[if_pos hi];exact q _
 ·rw[if_neg hi];exact q _
def Nu{f:List D->(D->Prop)->Prop}{n:Nat}(hn:∀ds P,f ds P->ds.length=n:=by intro _ _ h;repeat (first|(obtain⟨rfl,_⟩:=h;rfl)|obtain⟨_,h⟩:=h)):∀vs H Q E,spD f vs H Q E->vs.length=n:=λvs H Q E h=>by
 obtain⟨ds,P,r,t,_⟩:=h
 rw[r.length]
 exact hn ds P t
def aY{f:List D->(D->Prop)->Prop}{T:DS}{N:List Str}{vs:List V}{H:Hp}{Q:VK}{E:XK}(h:spD f vs H Q E)(body:∀ds P,f ds P->∃ρ,ds.map bI++È (N.length - ds.length) .any=ρ/\T { nx:=λ_=>P .none,rt:=P } ρ)(g:Gr.G fM H:=by trivial):kY T { nx:=λ_ H'=>Q .non H',rt:=Q } (L2.start N vs) H :=
 wR h (λds P t=>by
  obtain⟨ρ,e,q⟩:=body ds P t
  rw[e]
  exact q) g
def aV(n:Int)(us:List Tie):D:=.tuple [.int n,.tuple (us.map pD)]
def qm(n:Int)(us:List Tie):d8 (aV n us)=true:=by
 show(d8 (.int n)&&(cJ (us.map pD)&&true))=true
 rw[g8]
 rfl
def cI(n:Int)(us:List Tie):bI (aV n us)=.im (aV n us):=if_pos (qm n us)
def isW:D->Bool
 |.int _=>true
 |_=>false
def J6(ds:List D)(P:D->Prop):Prop:=∃d,ds=[d]/\P (.bool (isW d))
def aN(m:Int):D->Bool
 |.int i=>decide (0<=i/\i<m)
 |_=>false
def Bt(ds:List D)(P:D->Prop):Prop:=∃m d,ds=[.int m,d]/\P (.bool (aN m d))
def enterQ{C:Pn->Prop}{f:List D->(D->Prop)->Prop}{T:DS}{N:List Str}{vs:List V}{H:Hp}{Q:VK}{E:XK}(h:spP C f vs H Q E)(body:∀ds P,f ds P->∃ρ,ds.map bI++È (N.length - (ds.length+1)) .any=ρ/\T { nx:=λ_=>P .none,rt:=P } (.pen C::ρ))(g:∀p,Gr.G p H:=by intro _;trivial):kY T { nx:=λ_ H'=>Q .non H',rt:=Q } (L2.start N vs) H :=
 Ss h (λds P t=>by
  obtain⟨ρ,e,q⟩:=body ds P t
  rw[e]
  exact q) g
variable [Gr]
def Oh{α β:Type}{ds:List α}{i:Nat}{d:α}(p:α->Bool)(f:α->β)(h:ds[i]?=some d):((ds.take (i+1)).filter p).map f=((ds.take i).filter p).map f++(if p d=true then [f d] else []):=by
 rw[ĺ,h,List.filter_append,Þ]
 congr 1
 by_cases hp:p d=true
 ·simp[hp]
 ·simp[hp]
def cY{α β:Type}{ds:List α}{i:Nat}{d:α}(f:α->β)(h:ds[i]?=some d):(ds.take (i+1)).map f=(ds.take i).map f++[f d]:=by
 rw[ĺ,h,Þ]
 rfl
def eU{α β:Type}{l:List α}{g:α->β}{i:Nat}{d:β}(h:(l.map g)[i]?=some d):∃x,l[i]?=some x/\g x=d:=by
 rw[è] at h
 cases e:l[i]? with
 |none=>rw[e] at h;cases h
 |some x=>rw[e] at h;exact⟨x,rfl,ç h⟩
def take_all{α:Type}(l:List α){n:Nat}(h:l.length<=n):l.take n=l:=Ÿ h
def d7:∀l:List Int,(l.map Ã).all okD=true
 |[]=>rfl
 |x::l=>by
  rw[ã,List.all_cons,d7 l]
  rfl
def any_ints(x:Int):∀l:List Int,((l.map Ã).any λe=>ý e (.int x))=decide (x∈l)
 |[]=>rfl
 |y::l=>by
  rw[ã,List.any_cons,any_ints x l]
  have e:ý (.int y) (.int x)=(y == x):=rfl
  rw[e,ě,Bool.or_eq_true,beq_iff_eq,decide_eq_true_eq,decide_eq_true_eq,List.mem_cons]
  constructor
  ·rintro(h|h)
   ·exact .inl h.symm
   ·exact .inr h
  ·rintro(h|h)
   ·exact .inl h.symm
   ·exact .inr h
def Gb(lo:Int)(n:Nat):(fQ lo n).length=n:=by unfold fQ;simp
def cG{lo:Int}{n i:Nat}{d:D}(h:(fQ lo n)[i]?=some d):i<n/\d=.int (lo+((i:Nat):Int)):=by
 unfold fQ at h
 obtain⟨x,hx,e⟩:=eU h
 obtain⟨h1,h2⟩:=Ö.mp hx
 have h3:i<n:=by simpa using h1
 have h4:x=i:=by simpa using h2.symm
 subst h4
 exact⟨h3,e.symm⟩
variable [Gr]
section
variable {X:Cx}{pos p2:Pos}{a b e:Expr}{ta tb te:DE}
def Rps.rep{ok:Addr->Prop}{H:Hp}{vs:List V}{ds:List D}(r:Rps ok H vs ds):∀k:Nat,Rps ok H (È k vs).flatten (È k ds).flatten
 |0=>.nil
 |k+1=>by
  rw[Ğ,Ğ,ļ,ļ]
  exact r.app (Rps.rep r k)
def RV:G2:=λk1 d1 _ d2 P=>match d1,d2 with
 |.list ds,.int k=>0<=k/\k<1000/\ds.length * k.toNat<=1000/\newP k1 (È k.toNat ds).flatten λk'=>P k' (.list (È k.toNat ds).flatten)
 |_,_=>False
def Uz:Ok2 RV Ui:=by
 intro p H0 own Hb H x y k1 d1 k2 d2 P Q A r1 r2 t q
 unfold RV at t
 split at t
 ·rename_i ds k
  obtain⟨c1,xs,e1,o1,h1,rs1⟩:=r1.cN
  subst e1
  have h24:=é
  refine⟨c1,k,xs,rfl,r2.int',h1,by omega,by omega,by rw[rs1.length];omega,λl hl=>?_⟩
  obtain⟨k3,i3,nw⟩:=A.new hl (.lst (È k.toNat xs).flatten)
  obtain⟨k',hk',rk'⟩:=j5 A (cL A k3 (rs1.rep k.toNat)) nw au t.2.2.2
  exact q _ _ _ _ hk' k3 i3 rk'
 ·exact t.elim
def Od:G2:=λ_ d1 _ d2 P=>match d1,d2 with
 |.bool i,.bool j=>P .imm (.bool (decide (i=j)))
 |_,_=>False
def UW:Ok2 Od (λx y H Q=>∃a b,x=.bl a/\y=.bl b/\Q (.bl (decide (a=b))) H):=by
 intro p H0 own Hb H x y k1 d1 k2 d2 P Q A r1 r2 t q
 unfold Od at t
 split at t
 ·cases r1
  cases r2
  exact⟨_,_,rfl,rfl,q _ _ _ _ t Kp.refl A.pen (.bl _)⟩
 ·exact t.elim
def Ar(ha:PD X a ta)(hb:PD X b tb):PD X (.Compare a [.Is] [b] pos) (t2 Od ta tb):=gH Jc UW ha hb (bK _)
end
def mL(ns:List Int):∀k,k<=ns.length->PySem.preSum (λi=>ns.getD i 0) k=(ns.take k).sum
 |0,_=>rfl
 |k+1,h=>by
  show PySem.preSum _ k+ns.getD k 0=_
  have hk:k<ns.length:=by omega
  have e:ns.take (k+1)=ns.take k++[ns[k]]:=by rw[ĺ,Ì hk];rfl
  have e2:ns.getD k 0=ns[k]:=by rw[Ê,Ì hk];rfl
  rw[mL ns k (by omega),e,e2,List.sum_append,ò,List.sum_nil,Int.add_zero]
def ou:∀(ns:List Int) (b:Int),(∀x∈ns,-b<=x/\x<=b)->-(b * ns.length)<=ns.sum/\ns.sum<=b * ns.length
 |[],b,_=>by simp
 |x::ns,b,h=>by
  obtain⟨h1,h2⟩:=ou ns b λy hy=>h y (Ä _ hy)
  have hx:=h x À
  have e:b * ((x::ns).length:Int)=b * ns.length+b:=by
   rw[Ù]
   have:(((ns.length+1:Nat)):Int)=(ns.length:Int)+1:=by omega
   rw[this,Int.mul_add,Int.mul_one]
  rw[e,ò]
  omega
section
variable {X:Cx}{pos:Pos}{a:Expr}{t:DA}
def GD(hc:X.calm=true):bJ X (.builtin "sum") (λxs H Q=>∃(p:Addr) (ns:List Int),xs=[.ref p]/\SqL X.K H p (ns.map V.int)/\ns.length<=1000/\(∀x∈ns,-1000000<=x/\x<=1000000)/\Q (.int ns.sum) H):=by
 intro pins s σ H xs us Q I r h
 obtain⟨p,ns,rfl,hp,hl,hs,q⟩:=h
 obtain⟨u,rfl,rx⟩:=vals1 r
 cases rx
 obtain⟨its,rv,pl,hz⟩:=I.list hp
 have hlen:its.length=ns.length:=by have:=rv.length;rw[Á] at this;exact this.symm
 have hlt:p≠s.heap.objs.size:=by obtain⟨o,ho,_⟩:=pl.isList;exact á (Î ho)
 have hltp:p<s.heap.objs.size:=by obtain⟨o,ho,_⟩:=pl.isList;exact Î ho
 have at':∀i v,its[i]?=some v->∃t,v=Ĝ (ns.getD i 0) t:=λi v e=>by
  have hi:i<its.length:=(Ö.mp e).1
  have hv:(ns.map V.int)[i]?=some (V.int ns[i]):=by rw[è,Ì (show i<ns.length by omega)];rfl
  obtain⟨u,eu,ru⟩:=rv.get hv
  rw[e] at eu
  cases eu
  obtain⟨t,rfl⟩:=ru
  exact⟨t,by rw[Ê,Ì (show i<ns.length by omega)];rfl⟩
 refine call_sum_walk (wpAny_pyIter_list pl.isList ?_)
 refine⟨_,_,_,_,_,_,λi=>ns.getD i 0,rfl,Walks.list (A:=X.A.in1) (I.ok.hd hc) _ p hlt _,⟨⟨_,ß _ rfl,rfl,rfl⟩,pl.isList.push _⟩,?_,λi v e=>at' i v (by simpa using e),λj hj=>?_,λh' tk t' hk=>?_⟩
 ·intro b hb
  show b<(s.heap.push _).objs.size
  rw[ł]
  simp at hb
  rcases hb with rfl|rfl
  ·exact Ŗ _
  ·exact Ă hltp
 ·have hj:j<ns.length:=by simpa[hlen] using hj
  have e:ns.getD j 0=ns[j]:=by rw[Ê,Ì hj];rfl
  have b1:=hs _ (Ħ hj)
  have b2:=ou (ns.take (j+1)) 1000000 λx hx=>hs x (ş hx)
  have b3:(ns.take (j+1)).length<=1000:=by rw[ă];omega
  rw[mL ns (j+1) hj]
  refine⟨?_,?_⟩
  ·show -(2 ^ 63)<=ns.getD j 0/\ns.getD j 0<2 ^ 63
   rw[e]
   omega
  ·show -(2 ^ 63)<=(ns.take (j+1)).sum/\(ns.take (j+1)).sum<2 ^ 63
   omega
 ·have e:PySem.preSum (λi=>ns.getD i 0) its.toArray.size=ns.sum:=by
   rw[Ñ,hlen,mL ns ns.length (É _),ĉ]
  rw[e]
  refine⟨.int ns.sum,H,I.kept λb o eb=>hk b o ?_ (Ï _ eb),⟨_,rfl⟩,q⟩
  intro hm
  have:b=s.heap.objs.size:=by simpa using hm
  exact absurd (this ▸ Î eb) (Ā _)
variable [Gr]
def boot_sum:bootBuiltins "sum"=some (.builtin "sum"):=by decide +kernel
end
variable [Gr]
section
variable {X:Cx}{pos:Pos}{a b e:Expr}{ta tb te:DE}
def DW:G2:=λ_ d1 _ d2 P=>match d1,d2 with
 |.bool i,.bool j=>P .imm (.bool (!decide (i=j)))
 |_,_=>False
def Ru:Ok2 DW (λx y H Q=>∃a b,x=.bl a/\y=.bl b/\Q (.bl (!decide (a=b))) H):=by
 intro p H0 own Hb H x y k1 d1 k2 d2 P Q A r1 r2 t q
 unfold DW at t
 split at t
 ·cases r1
  cases r2
  exact⟨_,_,rfl,rfl,q _ _ _ _ t Kp.refl A.pen (.bl _)⟩
 ·exact t.elim
def lE(ha:PD X a ta)(hb:PD X b tb):PDT X (.Compare a [.IsNot] [b] pos) (fW (t2 DW ta tb)):=dY yt Ru ha hb (bK _)
end
variable [Gr]
section
variable {X:Cx}{pos:Pos}{a b e:Expr}{ta tb te:DE}
def M7:D->Bool
 |.none=>true
 |_=>false
def RX:G2:=λ_ d1 _ d2 P=>match d2 with
 |.none=>P .imm (.bool (M7 d1))
 |_=>False
def Ly{ok:Addr->Prop}{H:Hp}{v:V}{d:D}(r:Rp ok H v d):decide (v=.non)=M7 d:=by
 cases r <;> simp[M7]
def UL:Ok2 RX (λx y H Q=>y=.non/\Q (.bl (decide (x=.non))) H):=by
 intro p H0 own Hb H x y k1 d1 k2 d2 P Q A r1 r2 t q
 unfold RX at t
 split at t
 ·cases r2
  rw[Ly r1]
  exact⟨rfl,q _ _ _ _ t Kp.refl A.pen (.bl _)⟩
 ·exact t.elim
def Ra(ha:PD X a ta)(hb:PD X b tb):PD X (.Compare a [.Is] [b] pos) (t2 RX ta tb):=gH Rh UL ha hb (bK _)
end
variable [Gr]
section
variable {X:Cx}{pos:Pos}{st:Stmt}
end
@[reducible] def grX(H:Hp):Gr:=⟨λp H0=>p=fM/\H0=H⟩
structure Cal1(P:Program)(w:World)(K:Ú)(mg:Str->Option Value)(base:Heap)(k:Nat)(x:Str)(ps:List Str)(sp:Sp):Prop where
 ex:∃f fd,FnOk P w K mg base (CX1 P w) k f fd ps sp/\Binds K fd ps []/\W.keepIn K (.ref f)=true/\mg x=some (.ref f)
section
variable {X:Cx}{E:XK}{k j:Nat}{x:Str}{ps:List Str}{e:Expr}{es:List Expr}{p pos:Pos}
end
variable [Gr]
def boot_repr:bootBuiltins "repr"=some (.builtin "repr"):=by decide +kernel
section
variable {X:Cx}{pos:Pos}{a b e:Expr}{ta tb te:DE}{t:DA}
end
end Dl
namespace L2
open PySem PyProof.Rows
def yO:∀{ns:List Int}{us:List Value},Vals (ns.map V.int) us->IntsAre us ns
 |[],_,.nil=>.nil
 |n::ns,_,.cons r t=>by
  obtain⟨k,rfl⟩:=r
  exact .cons n k (yO t)
def once(ns:List Int):List Int:=ns.foldl Ŭ []
def Bq(ns:List Int){m:Nat}(hm:m=ns.length):firstMet (λi=>ns.getD i 0) m=once ns:=by
 subst hm
 unfold firstMet once
 congr 1
 refine List.ext_getElem (by simp) λi h1 h2=>?_
 simp at h1
 simp[Ê,h1]
section
variable {X:Cx}
def zy(hc:X.calm=true):bJ X (.type "set") (λxs H Q=>∃p ns,xs=[.ref p]/\SqL X.K H p (ns.map V.int)/\ns.length<=1000/\∀l S,H l=none->Q (.ref l) (upd H l (.set S (once ns).length))):=by
 intro pins s σ H xs us Q I r h
 obtain⟨p,ns,rfl,hq,hl,q⟩:=h
 obtain⟨u,rfl,rx⟩:=vals1 r
 cases rx
 obtain⟨its,r',pl,hz⟩:=I.list hq
 have hlen:=r'.length
 rw[Á] at hlen
 refine call_set_list (items:=its.toArray) (ns:=ns) (I.ok.hd hc) pl.isList (by simpa using yO r') ?_ λh' tk st k=>?_
 ·show its.toArray.size+1<scanBound
  rw[Ñ,←hlen]
  exact Nat.lt_of_le_of_lt (Nat.add_le_add_right hl 1) (by decide)
 ·rw[Bq ns (by rw[Ñ,←hlen])] at st
  refine⟨.ref s.heap.objs.size,_,I.laid (t':=tk) (λb o e=>k b o (Î e) e) (É _) (show aX X.prog X.w _ h' _ (.set _ (once ns).length) from st),rfl,q _ _ (I.hok.fresh (É _))⟩
def tE:bJ X (.builtin "len") (λxs H Q=>∃p S n,xs=[.ref p]/\H p=some (.set S n)/\n<=1000/\Q (.int (n:Int)) H):=by
 intro pins s σ H xs us Q I r h
 obtain⟨p,S,n,rfl,hq,hl,q⟩:=h
 obtain⟨u,rfl,rx⟩:=vals1 r
 cases rx
 obtain⟨o,es,ep,t,e1,e2,e3,_,_,_,e6,e7⟩:=I.hok p _ hq
 refine call_len_set e1 e2 e3 e6 (by rw[e7];omega) ?_
 rw[e7]
 exact⟨.int n,H,I.tok _,⟨_,rfl⟩,q⟩
end
def jC:∀(ns acc:List Int),(ns.foldl Ŭ acc).length<=acc.length+ns.length
 |[],acc=>É _
 |n::ns,acc=>by
  rw[List.foldl_cons]
  have h:=jC ns (Ŭ acc n)
  have:(Ŭ acc n).length<=acc.length+1:=by
   unfold Ŭ
   split
   ·omega
   ·rw[Æ];exact É _
  rw[Ù]
  omega
def yu:∀(ns acc:List Int),((ns.foldl Ŭ acc).length=acc.length+ns.length)↔(ns.Nodup/\∀x∈ns,x∉acc)
 |[],acc=>by simp
 |n::ns,acc=>by
  rw[List.foldl_cons,Ù,ŭ]
  by_cases hn:n∈acc
  ·have e:Ŭ acc n=acc:=by
    unfold Ŭ
    rw[if_pos (List.any_eq_true.mpr ⟨n,hn,by simp⟩)]
   rw[e]
   have:=jC ns acc
   constructor
   ·intro h;omega
   ·rintro⟨_,h⟩
    exact absurd hn (h n À)
  ·have e:Ŭ acc n=acc++[n]:=by
    unfold Ŭ
    rw[if_neg (λz=>by
     obtain⟨x,hx,ex⟩:=List.any_eq_true.mp z
     have:x=n:=by simpa using ex
     exact hn (this ▸ hx))]
   rw[e]
   have ih:=yu ns (acc++[n])
   rw[Æ,Ü] at ih
   constructor
   ·intro h
    obtain⟨a,b⟩:=ih.mp (by omega)
    refine⟨⟨λz=>b n z (â _ (ï.mpr rfl)),a⟩,λx hx=>?_⟩
    rcases Ó.mp hx with z|z
    ·rw[z];exact hn
    ·exact λy=>b x z (Ě _ y)
   ·rintro⟨⟨a,b⟩,c⟩
    have:=ih.mpr ⟨b,λx hx z=>by
     rcases ä.mp z with y|y
     ·exact c x (Ä _ hx) y
     ·rw[ï.mp y] at hx;exact a hx⟩
    omega
def lK(ns:List Int):(once ns).length=ns.length↔ns.Nodup:=by
 have:=yu ns []
 simp at this
 exact this
end L2
namespace Dl
open PySem L2 PyProof.Rows
variable [Gr]
section
variable {X:Cx}{pos pos':Pos}{a:Expr}{t:DA}
def boot_set:bootBuiltins "set"=some (.type "set"):=by decide +kernel
def Ob:GC:=λks P=>∃k ns,ks=[(k,.list (ns.map Ã))]/\ns.length<=1000/\P .imm (.int ((once ns).length:Nat))
def Fo{ps ps':Pos}(hc:X.calm=true)(hs:X.mg "set"=none)(hl:X.mg "len"=none)(ha:PDA X [a] t)(hgs:Gl X "set":=by rfl)(hgl:Gl X "len":=by rfl)(he:zS X a []:=by rfl)(hpl:zP X pos []:=by rfl)(he':starEach [Expr.Call (.Name "set" ps) [a] [] pos] X.env=(false,eval (Expr.Call (.Name "set" ps) [a] [] pos) X.env)::starEach [] X.env:=by rfl)(hpl':(backTo pos' (starEach [] X.env)).any (·.1)=false:=by rfl) :
  PD X (.Call (.Name "len" ps') [.Call (.Name "set" ps) [a] [] pos] [] pos') (tCl Ob t) :=
 PE.wk (mO tE hgl hl PySem.boot_len (bY (gP (zy hc) hgs hs boot_set ha (by decide) (by decide) he hpl) gK he') (by decide) (by decide) he' hpl') (by
  rintro σ H Q ⟨p,H0,own,ρ,P,E,t,q⟩
  refine⟨p,H0,own,ρ,_,E,t,λks vs H1 h A r=>?_⟩
  obtain⟨k,ns,rfl,hn,h⟩:=h
  obtain⟨v,rfl,r'⟩:=fJ r
  obtain⟨c,ws,rfl,o,hc',rs⟩:=r'.cN
  have ew:=rs.ints
  subst ew
  refine⟨c,ns,rfl,SqL.of hc',hn,λl S hl'=>?_⟩
  obtain⟨k2,i2,nw⟩:=A.new hl' (.set S (once ns).length)
  have h1:=jC ns []
  exact⟨l,S,_,rfl,au,by unfold once;simp at h1;omega,q _ _ _ _ h (A.go k2 i2) (.int _)⟩)
end
variable [Gr]
section
variable {X:Cx}{pos p2:Pos}{a b c e:Expr}{es:List Expr}{ta tb tc te:DE}{t:DA}{st:Stmt}
def OpR.or{f:Value->Value->Sem Value}{r r':R2}(h:OpR X f r)(h':OpR X f r'):OpR X f (λx y H Q=>r x y H Q\/r' x y H Q):=by
 intro pins s σ H x y v u Q I rx ry q
 rcases q with q|q
 ·exact h pins s σ H x y v u Q I rx ry q
 ·exact h' pins s σ H x y v u Q I rx ry q
def bJ.or{f:Value}{r r':List V->Hp->VK->Prop}(h:bJ X f r)(h':bJ X f r'):bJ X f (λx H Q=>r x H Q\/r' x H Q):=by
 intro pins s σ H x v Q I rx q
 rcases q with q|q
 ·exact h pins s σ H x v Q I rx q
 ·exact h' pins s σ H x v Q I rx q
def IK(ha:PD X a ta)(hb:PD X b tb)(hs:nW b:=by exact λ_ _=>rfl):PD X (.Subscript a b pos) (t2 gIx ta tb):=PE.wk (Dk (IxR.or wH JR) ha hb hs) (uf (by
 intro p H0 own Hb H x y k1 d1 k2 d2 P Q A r1 r2 t q
 unfold gIx at t
 split at t
 ·rename_i ds i
  obtain⟨d,hd,t⟩:=t
  obtain⟨c,vs,rfl,o,hc,rs⟩:=r1.cN
  obtain⟨v,hv,rv⟩:=rs.atI hd
  exact .inl ⟨c,vs,i,v,rfl,r2.int',SqL.of hc,hv,q _ _ _ _ t Kp.refl A.pen (aR rv)⟩
 ·rename_i ds i
  obtain⟨d,hd,t⟩:=t
  obtain⟨c,vs,rfl,hc,rs⟩:=r1.eN
  obtain⟨v,hv,rv⟩:=rs.atI hd
  exact .inr ⟨c,vs,i,v,rfl,r2.int',SqT.of hc,hv,q _ _ _ _ t Kp.refl A.pen (aR rv)⟩
 ·exact t.elim))
def yS:G2:=λk1 d1 k2 d2 P=>match d1 with
 |.int i=>(match d2 with
  |.int j=>P .imm (.int (i+j))
  |_=>False)
 |.list ds=>Oe k1 (.list ds) k2 d2 P
 |.tuple ds=>J3 k1 (.tuple ds) k2 d2 P
 |_=>False
def vG(ha:PD X a ta)(hb:PD X b tb):PD X (.BinOp a .Add b pos) (t2 yS ta tb):=kJ (OpR.or lJ (OpR.or Jg Mu)) (by
 intro p H0 own Hb H x y k1 d1 k2 d2 P Q A r1 r2 t q
 cases d1 with
 |int i =>
  cases d2 with
  |int j=>exact .inl ⟨i,j,r1.int',r2.int',q _ _ _ _ t Kp.refl A.pen (.int _)⟩
  |_=>exact t.elim
 |list ds=>exact .inr (.inl (O7 p H0 own Hb H x y k1 _ k2 d2 P Q A r1 r2 t q))
 |tuple ds=>exact .inr (.inr (Rx p H0 own Hb H x y k1 _ k2 d2 P Q A r1 r2 t q))
 |_=>exact t.elim) ha hb
def JZ:G2:=λk1 d1 k2 d2 P=>match d1 with
 |.int i=>(match d2 with
  |.int j=>La i j/\P .imm (.int (i * j))
  |_=>False)
 |.list ds=>RV k1 (.list ds) k2 d2 P
 |_=>False
def gQ(ha:PD X a ta)(hb:PD X b tb):PD X (.BinOp a .Mult b pos) (t2 JZ ta tb):=kJ (OpR.or oM Rg) (by
 intro p H0 own Hb H x y k1 d1 k2 d2 P Q A r1 r2 t q
 cases d1 with
 |int i =>
  cases d2 with
  |int j=>exact .inl ⟨i,j,r1.int',r2.int',t.1,q _ _ _ _ t.2 Kp.refl A.pen (.int _)⟩
  |_=>exact t.elim
 |list ds=>exact .inr (Uz p H0 own Hb H x y k1 _ k2 d2 P Q A r1 r2 t q)
 |_=>exact t.elim) ha hb
def nF(neg:Bool):G2:=λk1 d1 k2 d2 P=>match scD d1 d2 with
 |some b=>P .imm (.bool (if neg then !b else b))
 |none=>RZ neg k1 d1 k2 d2 P
def O6{K:Ú}:Ok2 (nF false) (λx y H Q=>rEq x y H Q\/H9 K false x y H Q):=by
 intro p H0 own Hb H x y k1 d1 k2 d2 P Q A r1 r2 t q
 cases e:scD d1 d2 with
 |some b =>
  have t':gEq false k1 d1 k2 d2 P:=by
   unfold nF at t
   unfold gEq
   rw[e] at t ⊢
   exact t
  exact .inl (Rw p H0 own Hb H x y k1 d1 k2 d2 P Q A r1 r2 t' q)
 |none =>
  unfold nF at t
  rw[e] at t
  exact .inr (Jp false p H0 own Hb H x y k1 d1 k2 d2 P Q A r1 r2 t q)
def O5{K:Ú}:Ok2 (nF true) (λx y H Q=>rNe x y H Q\/H9 K true x y H Q):=by
 intro p H0 own Hb H x y k1 d1 k2 d2 P Q A r1 r2 t q
 cases e:scD d1 d2 with
 |some b =>
  have t':gEq true k1 d1 k2 d2 P:=by
   unfold nF at t
   unfold gEq
   rw[e] at t ⊢
   exact t
  exact .inl (Rv p H0 own Hb H x y k1 d1 k2 d2 P Q A r1 r2 t' q)
 |none =>
  unfold nF at t
  rw[e] at t
  exact .inr (Jp true p H0 own Hb H x y k1 d1 k2 d2 P Q A r1 r2 t q)
def Av(hu:X.A.units+64<cLine)(ha:PD X a ta)(hb:PD X b tb):PD X (.Compare a [.Eq] [b] pos) (t2 (nF false) ta tb):=gH (OpR.or Dr (Jf hu)) O6 ha hb (bK _)
def vH(hu:X.A.units+64<cLine)(ha:PD X a ta)(hb:PD X b tb):PD X (.Compare a [.NotEq] [b] pos) (t2 (nF true) ta tb):=gH (OpR.or Dq (vN hu)) O5 ha hb (bK _)
def vp(hu:X.A.units+64<cLine)(ha:PD X a ta)(hb:PD X b tb):PDT X (.Compare a [.Eq] [b] pos) (fW (t2 (nF false) ta tb)):=dY (OpR.or Dr (Jf hu)) O6 ha hb (bK _)
def qe(hu:X.A.units+64<cLine)(ha:PD X a ta)(hb:PD X b tb):PDT X (.Compare a [.NotEq] [b] pos) (fW (t2 (nF true) ta tb)):=dY (OpR.or Dq (vN hu)) O5 ha hb (bK _)
end
section
variable {n:Nat}{g:DG}{tt:DT}{te:DE}{ρ:List Sl}{k:Kd}{ds:List D}{R:Kd->List D->Prop}
def Ng{α β:Type}(f:α->β){l:List α}{i:Nat}{x:α}(h:l[i]?=some x):(l.take (i+1)).map f=(l.take i).map f++[f x]:=by
 rw[ĺ,h]
 simp
def wB{α:Type}(xs:List α)(e f:α->D)(ke:Kd)(hd:ds=xs.map e)(hl:xs.length<=1000)(step:∀x∈xs,∀(A:D->Prop) (B:Prop),A (f x)->g (norm (elC k) (e x)) (e x) (È n .any++ρ) λρ'=>if true=true then te ρ' λk' d'=>(norm k' d').le ke=true/\A d' else B)(q:R ke (xs.map f)) :
  ds.length<=1000/\∃(ke:Kd) (Iv:Nat->List D->Prop),Iv 0 [] /\
   (∀i d ys,ds[i]?=some d->Iv i ys->g (norm (elC k) d) d (È n .any++ρ) λρ'=>if true=true then te ρ' λk' d'=>(norm k' d').le ke=true/\Iv (i+1) (ys++[d']) else Iv (i+1) ys) /\
   ∀ys,Iv ds.length ys->R ke ys:=by
 subst hd
 refine⟨by rw[Á];exact hl,ke,λi ys=>ys=(xs.take i).map f,rfl,?_,?_⟩
 ·rintro i d ys hd rfl
  rw[è] at hd
  cases hx:xs[i]? with
  |none=>rw[hx] at hd;cases hd
  |some x =>
   rw[hx] at hd
   have hd:=ç hd
   subst hd
   exact step x (Ò hx) (λd'=>(xs.take i).map f++[d']=(xs.take (i+1)).map f) _ (Ng f hx).symm
 ·rintro ys rfl
  rw[Á,ĉ]
  exact q
def Dy{α:Type}(xs:List α)(e:α->D)(p:α->Bool)(f:α->D)(ke:Kd)(hd:ds=xs.map e)(hl:xs.length<=1000)(step:∀x∈xs,∀(A:D->Prop) (B:Prop),(p x=true->A (f x))->(p x=false->B)->g (norm (elC k) (e x)) (e x) (È n .any++ρ) λρ'=>tt ρ' λb=>if b=true then te ρ' λk' d'=>(norm k' d').le ke=true/\A d' else B)(q:R ke ((xs.filter p).map f)) :
  ds.length<=1000/\∃(ke:Kd) (Iv:Nat->List D->Prop),Iv 0 [] /\
   (∀i d ys,ds[i]?=some d->Iv i ys->g (norm (elC k) d) d (È n .any++ρ) λρ'=>tt ρ' λb=>if b=true then te ρ' λk' d'=>(norm k' d').le ke=true/\Iv (i+1) (ys++[d']) else Iv (i+1) ys) /\
   ∀ys,Iv ds.length ys->R ke ys:=by
 subst hd
 refine⟨by rw[Á];exact hl,ke,λi ys=>ys=((xs.take i).filter p).map f,rfl,?_,?_⟩
 ·rintro i d ys hd rfl
  rw[è] at hd
  cases hx:xs[i]? with
  |none=>rw[hx] at hd;cases hd
  |some x =>
   rw[hx] at hd
   have hd:=ç hd
   subst hd
   have sn:((xs.take (i+1)).filter p).map f=((xs.take i).filter p).map f++if p x=true then [f x] else []:=by
    rw[ĺ,hx,List.filter_append,Þ]
    cases hp:p x <;> simp[hp]
   refine step x (Ò hx) (λd'=>((xs.take i).filter p).map f++[d']=((xs.take (i+1)).filter p).map f) _ (λh=>?_) (λh=>?_)
   ·rw[sn,if_pos h]
   ·show _=_
    rw[sn,h,if_neg Ð,ø]
 ·rintro ys rfl
  rw[Á,ĉ]
  exact q
end
section
variable {g:DG}{tb:DS}{k:Kd}{ds:List D}{ρ:List Sl}{P:DEnds}
def Og{α:Type}(xs:List α)(e:α->D)(ok:List Sl->Prop)(hd:ds=xs.map e)(hk:k.le .shr=true)(h0:ok ρ)(step:∀x∈xs,∀ρ',ok ρ'->g (norm (elK k) (e x)) (e x) ρ' λρ2=>tb { nx:=ok,ct:=ok,bk:=P.nx,rt:=P.rt } ρ2)(q:∀ρ',ok ρ'->P.nx ρ') :
  k.le .shr=true/\∃Iv:Nat->List Sl->Prop,Iv 0 ρ /\
   (∀i d ρ',ds[i]?=some d->Iv i ρ'->g (norm (elK k) d) d ρ' λρ2=>tb { nx:=Iv (i+1),ct:=Iv (i+1),bk:=P.nx,rt:=P.rt } ρ2)/\∀ρ',Iv ds.length ρ'->P.nx ρ':=by
 subst hd
 refine⟨hk,λ_ ρ'=>ok ρ',h0,?_,q⟩
 intro i d ρ' hd h
 rw[è] at hd
 cases hx:xs[i]? with
 |none=>rw[hx] at hd;cases hd
 |some x =>
  rw[hx] at hd
  have hd:=ç hd
  subst hd
  exact step x (Ò hx) ρ' h
end
variable [Gr]
section
variable {X:Cx}{scope:Scope}{tg iter elt:Expr}{ifs:List Expr}{pos:Pos}{ti:DI}{g:DG}{tt:DT}{te:DE}
def QG(own:List Str){i:Nat}{y:Str}{py spos:Pos}(hc:X.calm=true)(hN:X.N.Nodup)(hiN:X.N[i]?=some y)(hx:Loc X.env.scope y)(hi:PDI X tg iter ti)(hg:∀c,PDG (X.comp own scope c) tg g)(ht:∀c,G3 (X.comp own scope c) ifs tt)(he:∀c,PD (X.comp own scope c) elt te)(hsw:swapsWith (.ListComp elt [⟨tg,iter,ifs,0⟩] scope pos) (some (.Name y py)) spos.line X.env=pure true:=by rfl)(hk:gM X.env scope X.N=true:=by rfl)(hs:zF X iter:=by intro _;rfl)(hf:zL X y:=by first|exact .inl rfl|exact .inr rfl|assumption) :
  PS X (.Assign [.Name y py] (.ListComp elt [⟨tg,iter,ifs,0⟩] scope pos) spos) (sO (dB (dLC own.length ti g tt te)) (jJ i)):=PS.wk' (Ih own hc hN hiN hx hi hg ht he hsw hk hs hf) λD σ H q=>j7 σ H _ q
end
section
variable {n:Nat}{g:DG}{tt:DT}{te:DE}{ρ:List Sl}{k:Kd}{ds:List D}{R:Kd->List D->Prop}
end
variable [Gr]
section
variable {X:Cx}{pos:Pos}{st:Stmt}{rest:List Stmt}{te tj:DE}{ti:DI}{t:DS}
def Sy(i:Nat)(t:DS):DS:=λP ρ=>match ρ[i]? with
 |some (.dw r d)=>lg r ρ i=true/\t P (ρ.set i (.sn d))
 |some (.rw r L)=>lg r ρ i=true/\t P (ρ.set i (.sn (.list (L.map ÿ))))
 |some (.sp r b ds)=>lg r ρ i=true/\t P (ρ.set i (if b=true then .sn (.list ds) else .sh (.list ds)))
 |_=>False
def EnvD.freeze{p:Pn}{H0 H:Hp}{own:Addr->Option Nat}{σ:L2.St}{ρ:List Sl}{i r:Nat}{d:D}{v:V}(E:EnvD p H0 own σ H ρ)(hf:lg r ρ i=true)(hv:σ[i]?=some (some v))(x:Rp (λa=>own a=some r) H v d) :
  EnvD p H0 (aO r own) σ H (ρ.set i (.sn d)):=by
 have E2:EnvD p H0 (aO r own) σ H (ρ.set i .any):=(E.drop (i:=i)).clear hf
 have E3:=E2.put (v:=v) (i:=i) (s:=.sn d) ⟨v,hv,x.mono (λa o=>⟨(E.ow a r o).1,(E.ow a r o).2.1,by unfold aO;rw[if_pos o]⟩) (λ_ _ _ e=>e) λ_ _ e=>e⟩
 rw[List.set_set] at E3
 exact E3
def Bv(i:Nat)(h:iz X rest t):iz X rest (Sy i t):=PSs.wk' h (by
 rintro Q σ H ⟨p,H0,own,ρ,P,E,q,w⟩
 unfold Sy at q
 split at q
 ·rename_i r d e
  obtain⟨v,hv,x⟩:=E.slot i _ e
  exact⟨p,H0,_,_,P,E.freeze q.1 hv x,q.2,w.go iw⟩
 ·rename_i r L e
  obtain⟨st,as,hv,x⟩:=E.slot i _ e
  exact⟨p,H0,_,_,P,E.freeze q.1 hv x.rp,q.2,w.go iw⟩
 ·rename_i r b ds e
  obtain⟨l,vs,hv,o,h,z⟩:=E.slot i _ e
  have E2:EnvD p H0 (aO r own) σ H (ρ.set i .any):=(E.drop (i:=i)).clear q.1
  have c0:∀a,own a=none->aO r own a=none:=λa n=>by unfold aO;rw[n];simp
  have cl:aO r own l=none:=by unfold aO;rw[if_pos o]
  have E3:EnvD p H0 (aO r own) σ H ((ρ.set i .any).set i (if b=true then .sn (.list ds) else .sh (.list ds))):=E2.put (v:=.ref l) (by
   cases b with
   |true=>exact⟨_,hv,.lst ⟨(E.ow l r o).1,(E.ow l r o).2.1,cl⟩ h (z.mono (λc n=>⟨n.1 rfl,n.2.1,c0 c n.2.2⟩) (λ_ _ _ e=>e) λ_ _ e=>e)⟩
   |false=>exact⟨_,hv,.lst ⟨(E.ow l r o).2.1,cl⟩ h (z.mono (λc n=>⟨n.2.1,c0 c n.2.2⟩) (λ_ _ _ e=>e) λ_ _ e=>e)⟩)
  rw[List.set_set] at E3
  exact⟨p,H0,_,_,P,E3,q.2,w.go iw⟩
 ·exact q.elim)
def spK(b:Bool):Kd:=if b=true then .snw else .shr
def Rt{p:Pn}{H0 Hb H:Hp}{own:Addr->Option Nat}{b:Bool}(A:At p H0 own Hb H){k:Kd}(hk:k.le (spK b)=true){v:V}{d:D}{H2:Hp}(r:Rp (okK p H0 own Hb k) H2 v d):Rp (okS p H0 own b) H2 v d:=by
 have r2:=kI A hk r
 cases b with
 |true=>exact r2.mono (λa o=>⟨λ_=>o.1,o.2.1,o.2.2⟩) (λ_ _ _ e=>e) λ_ _ e=>e
 |false=>exact r2.mono (λa o=>⟨λz=>(nomatch z),o.1,o.2⟩) (λ_ _ _ e=>e) λ_ _ e=>e
def EnvD.LC{p:Pn}{H0 H:Hp}{own:Addr->Option Nat}{σ:L2.St}{ρ:List Sl}{i r:Nat}{b:Bool}{l:Addr}{vs vs':List V}{ds':List D}(E:EnvD p H0 own σ H ρ)(hv:σ[i]?=some (some (.ref l)))(o:own l=some r)(h:H l=some (.lst vs))(z:Rps (okS p H0 own b) H vs' ds') :
  EnvD p H0 own σ (upd H l (.lst vs')) ((forget r ρ).set i (.sp r b ds'))/\FrS p own H own (upd H l (.lst vs')):=by
 refine⟨(E.write (o':=.lst vs') o h λxs z=>nomatch z).put (v:=.ref l) ⟨l,vs',hv,o,au,z.mono (λ_ o=>o) (λc u n e=>?_) λa xs e=>?_⟩,tG o h λxs z=>nomatch z⟩
 ·rw[aq];exact e
  intro y;subst y;rw[n.2.2] at o;cases o
 ·rw[aq];exact e
  intro y;subst y;rw[h] at e;cases e
def EnvD.spine{p:Pn}{H0 H H1:Hp}{own:Addr->Option Nat}{σ:L2.St}{ρ:List Sl}{i r:Nat}{b:Bool}{l:Addr}{vs:List V}{ds:List D}(E:EnvD p H0 own σ H ρ)(A:At p H0 own H H1)(hf:lg r ρ i=true)(hl:H1 l=none)(z:Rps (okS p H0 own b) H1 vs ds) :
  ∃own',EnvD p H0 own' (σ.set i (some (.ref l))) (upd H1 l (.lst vs)) (ρ.set i (.sp r b ds))/\FrS p own H own' (upd H1 l (.lst vs)):=by
 have E2:EnvD p H0 (aO r own) σ H (ρ.set i .any):=(E.drop (i:=i)).clear hf
 have E3:=E2.go A.kp A.pen
 have s1:Same H1 (upd H1 l (.lst vs)):=λb u q=>by rw[aq (aD q hl)];exact q
 have A8:At p H0 (aO r own) H1 (upd H1 l (.lst vs)):=⟨E3.k0,Kp.of s1,E3.pen,p.mono H1 _ E3.pen λb u _ q=>s1 b u q,E3.ow⟩
 have E4:=E3.adopt r A8
 have c0:∀a,own a=none->aO r own a=none:=λa n=>by unfold aO;rw[n];simp
 have E5:=E4.set (i:=i) (v:=.ref l) (s:=.sp r b ds) λhli=>⟨l,vs,ē hli,pA hl au,au,z.cT (λc u n e=>⟨⟨n.1,n.2.1,by rw[bG e];exact c0 c n.2.2⟩,s1 c u e⟩) λa xs e=>s1 a _ e⟩
 rw[List.set_set] at E5
 exact⟨_,E5,(A.frs.trans iw).trans (pB A8)⟩
def RpK.okS{p:Pn}{H0 Hb H:Hp}{own:Addr->Option Nat}{b:Bool}(A:At p H0 own Hb H):∀{vs:List V}{ks:List (Kd×D)},RpK p H0 own Hb H vs ks->(ks.all λkd=>(norm kd.1 kd.2).le (spK b))=true->Rps (okS p H0 own b) H vs (ks.map (·.2))
 |_,_,.nil,_=>.nil
 |_,kd::ks,.cons h t,e=>by
  rw[List.all_cons,Ë] at e
  exact .cons (Rt A e.1 (aR h)) (RpK.okS A t e.2)
def PL(i r:Nat)(b:Bool)(t:DA):DS:=λP ρ=>t ρ λks=>ks.length<=1000/\(ks.all λkd=>(norm kd.1 kd.2).le (spK b))=true/\lg r ρ i=true/\P.nx (ρ.set i (.sp r b (ks.map (·.2))))
def wV{i:Nat}{t:DA}(r:Nat)(b:Bool)(h:PS X st (sO (Tz (jd t)) (jJ i))):PDS X st (PL i r b t):=PS.wk' h (by
 rintro Q σ H ⟨p,H0,own,ρ,P,E,q,w⟩
 refine⟨p,H0,own,ρ,_,E,q,λks vs H1 h A rk=>?_⟩
 have h24:=é
 have hln:=rk.length
 refine⟨by have:=h.1;omega,λl hl=>?_⟩
 obtain⟨own',E2,F2⟩:=E.spine A h.2.2.1 hl (RpK.okS A rk h.2.1)
 exact w.nx _ _ _ _ E2 F2 h.2.2.2)
def Bx(js:List Nat)(t:DS):DS:=λP ρ=>t P (js.foldl (λρ j=>ρ.set j .any) ρ)
def EnvD.drops{p:Pn}{H0 H:Hp}{own:Addr->Option Nat}{σ:L2.St}:∀(js:List Nat) {ρ:List Sl},EnvD p H0 own σ H ρ->EnvD p H0 own σ H (js.foldl (λρ j=>ρ.set j .any) ρ)
 |[],_,E=>E
 |_::js,_,E=>EnvD.drops js E.drop
def rW(js:List Nat)(h:iz X rest t):iz X rest (Bx js t):=PSs.wk' h (by
 rintro Q σ H ⟨p,H0,own,ρ,P,E,q,w⟩
 exact⟨p,H0,own,_,P,E.drops js,q,w⟩)
def qg:PD X (.Dict [] [] pos) (λ_ P=>P .new (.dict [])):=PE.wk Ip (by
 rintro σ H Q ⟨p,H0,own,ρ,P,E,t,q⟩
 have A:=E.at
 exact λd hd=>let ⟨k2,i2,nw⟩:=A.new hd (.dK []);q _ _ _ _ t (A.go k2 i2) (.dct nw au .nil))
end
@[reducible] def grL(K:Ú)(sc:Addr)(ns:List Int):Gr:=⟨λp H0=>SqL K H0 sc (ns.map V.int)/\∀b,p.fp b->H0 b=none⟩
def T4(K:Ú):Sp:=λvs H Q _=>∃(a:Addr) (ns:List Int),vs=[.ref a]/\SqL K H a (ns.map V.int)/\∀H',Q (.bl true) H'
section
variable {X:Cx}{k1 k2 j:Nat}{x y z:Str}{ps1 ps2:List Str}{e:Expr}{es1 es2:List Expr}{p1 p2 p3 pos pos1:Pos}{K:Ú}{sc:Addr}{ns:List Int}{C:Pn->Prop}{pre:List D->Prop}{g:List D->(D->Prop)->Prop}{i:Nat}
end
variable [Gr]
section
variable {X:Cx}{pos pos':Pos}{a b:Expr}{t:DA}
def Lw{ok:Addr->Prop}{H:Hp}(lo hi:Int):Rps ok H (yd lo hi) (fQ lo (hi - lo).toNat):=by
 unfold yd fQ
 exact Rps.ofMap (λx=>.int _) _
def Oi{p:Pn}{H0 H H1:Hp}{own:Addr->Option Nat}{P:DK}{Q:VK}{lo hi:Int}(A:At p H0 own H H1)(h:P .new (.list (fQ lo (hi - lo).toNat)))(b:-1000<=lo/\lo<=1000/\-1000<=hi/\hi<=1000)(q:∀k d v H',P k d->At p H0 own H H'->Rp (okK p H0 own H k) H' v d->Q v H')(r:Addr)(hr:H1 r=none) :
  ∃p' lo' hi',[V.ref r]=[.ref p']/\upd H1 r (.rng lo hi) p'=some (.rng lo' hi')/\(-1000<=lo'/\lo'<=1000/\-1000<=hi'/\hi'<=1000)/\∀l,upd H1 r (.rng lo hi) l=none->Q (.ref l) (upd (upd H1 r (.rng lo hi)) l (.lst (yd lo' hi'))):=by
 refine⟨r,lo,hi,rfl,au,b,λl hl=>?_⟩
 obtain⟨k2,i2,_⟩:=A.new hr (.rng lo hi)
 have A2:=A.go k2 i2
 obtain⟨k3,i3,nw⟩:=A2.new hl (.lst (yd lo hi))
 exact q _ _ _ _ h (A2.go k3 i3) (.lst nw au (Lw lo hi))
def TF(t:DA):DE:=λρ P=>t ρ λks=>match ks with
 |[(_,.int j)]=>(-1000<=j/\j<=1000)/\P .new (.list (fQ 0 (j - 0).toNat))
 |_=>False
def iI{ps ps':Pos}(hc:X.calm=true)(hml:X.mg "list"=none)(hmr:X.mg "range"=none)(ha:PDA X [a] t)(hgl:Gl X "list":=by rfl)(hgr:Gl X "range":=by rfl)(he:zS X a []:=by rfl)(hpl:(backTo pos' (starEach [] X.env)).any (·.1)=false:=by rfl)(he2:starEach [.Call (.Name "range" ps') [a] [] pos'] X.env=(false,eval (.Call (.Name "range" ps') [a] [] pos') X.env)::starEach [] X.env:=by rfl)(hpl2:zP X pos []:=by rfl) :
  PD X (.Call (.Name "list" ps) [.Call (.Name "range" ps') [a] [] pos'] [] pos) (TF t):=PE.wk (gP (tD hc) hgl hml boot_list (bY (gP GF hgr hmr boot_range ha (by decide) (by decide) he hpl) gK he2) (by decide) (by decide) he2 hpl2) (by
 rintro σ H Q ⟨p,H0,own,ρ,P,E,t,q⟩
 refine⟨p,H0,own,ρ,_,E,t,λks vs H1 h A rk=>?_⟩
 split at h
 ·rename_i k j
  obtain⟨v,rfl,r'⟩:=fJ rk
  have e:=Rp.int' r'
  subst e
  exact⟨j,rfl,Oi A h.2 ⟨by omega,by omega,h.1.1,h.1.2⟩ q⟩
 ·exact h.elim)
end
variable [Gr]
mutual
inductive Tm where
 |int (i:Int)
 |neg (i:Int)
 |bl (b:Bool)
 |non
 |str (s:Str)
 |var (i:Nat)
 |lst (ts:Tms)
 |tup (ts:Tms)
 |dct
inductive Tms where
 |nil
 |cons (t:Tm) (ts:Tms)
end
def Qf(sc:Scope)(x:Str):Bool:=sc.names.lookup x == some .local || sc.names.lookup x == some .cell || sc.names.lookup x == some .free
def Ld{sc:Scope}{x:Str}(h:Qf sc x=true):Vis sc x:=by
 unfold Qf at h
 rw[Bool.or_eq_true,Bool.or_eq_true,beq_iff_eq,beq_iff_eq,beq_iff_eq] at h
 rcases h with (h|h)|h
 ·exact .inl h
 ·exact .inr (.inl h)
 ·exact .inr (.inr h)
mutual
def okT(N:List Str)(sc:Scope):Tm->Expr->Bool
 |.int i,.Constant (.int j) _ _=>i == j
 |.neg i,.UnaryOp .USub (.Constant (.int j) _ _) _=>i == j
 |.bl b,.Constant (.bool c) _ _=>b == c
 |.non,.Constant .none _ _=>true
 |.str s,.Constant (.str u) _ _=>s == u
 |.var i,.Name x _=>N[i]? == some x&&(Qf sc x&&(!(x == ("__debug__":Str))&&!(x == ("__classdict__":Str))))
 |.lst ts,.List es _=>lQ N sc ts es
 |.tup ts,.Tuple es _ _=>lQ N sc ts es
 |.dct,.Dict [] [] _=>true
 |_,_=>false
def lQ(N:List Str)(sc:Scope):Tms->List Expr->Bool
 |.nil,[]=>true
 |.cons t ts,e::es=>okT N sc t e&&lQ N sc ts es
 |_,_=>false
end
mutual
def evT(ρ:List Sl):Tm->Option (Kd×D)
 |.int i=>some (.imm,.int i)
 |.neg i=>some (.imm,.int (-i))
 |.bl b=>some (.imm,.bool b)
 |.non=>some (.imm,.none)
 |.str s=>some (.imm,.str s)
 |.var i=>match ρ[i]? with
  |some (.im d)=>some (.imm,d)
  |some (.sh d)=>some (.shr,d)
  |some (.sn d)=>some (.snw,d)
  |some (.dw r d)=>some (.reg r,d)
  |_=>none
 |.lst ts=>match jL ρ ts with
  |some ks=>some ((joins ks).join .new,.list (ks.map (·.2)))
  |none=>none
 |.tup ts=>match jL ρ ts with
  |some ks=>some (norm (joins ks) (.tuple (ks.map (·.2))),.tuple (ks.map (·.2)))
  |none=>none
 |.dct=>some (.new,.dict [])
def jL(ρ:List Sl):Tms->Option (List (Kd×D))
 |.nil=>some []
 |.cons t ts=>match evT ρ t,jL ρ ts with
  |some k,some ks=>some (k::ks)
  |_,_=>none
end
mutual
def smT:Tm->Bool
 |.lst ts=>kj 1000 ts
 |.tup ts=>kj 1000 ts
 |_=>true
def kj:Nat->Tms->Bool
 |_,.nil=>true
 |n+1,.cons t ts=>smT t&&kj n ts
 |0,.cons _ _=>false
end
def Qo(tm:Tm):DE:=λρ P=>∃k d,evT ρ tm=some (k,d)/\P k d
def W6(ts:Tms):DA:=λρ P=>∃ks,jL ρ ts=some ks/\P ks
section
variable {X:Cx}{e:Expr}{es:List Expr}
def PD.wk{t t':DE}(h:PD X e t)(w:∀ρ P,t' ρ P->t ρ P):PD X e t':=PE.wk h (by
 rintro σ H Q ⟨p,H0,own,ρ,P,E,t,q⟩
 exact⟨p,H0,own,ρ,P,E,w _ _ t,q⟩)
def PDA.wk{t t':DA}(h:PDA X es t)(w:∀ρ P,t' ρ P->t ρ P):PDA X es t':=PA.wk h (by
 rintro σ H Q ⟨p,H0,own,ρ,P,E,t,q⟩
 exact⟨p,H0,own,ρ,P,E,w _ _ t,q⟩)
def Bu{ρ:List Sl}:∀{ts:Tms}{ks:List (Kd×D)}{n:Nat},kj n ts=true->jL ρ ts=some ks->ks.length<=n
 |.nil,ks,n,_,e=>by
  simp only[jL] at e
  cases e
  exact ô _
 |.cons t ts,ks,0,h,e=>by simp[kj] at h
 |.cons t ts,ks,n+1,h,e=>by
  simp only[kj,Ë] at h
  simp only[jL] at e
  cases e1:evT ρ t with
  |none=>rw[e1] at e;cases e
  |some k =>
   cases e2:jL ρ ts with
   |none=>rw[e1,e2] at e;cases e
   |some ks' =>
    rw[e1,e2] at e
    cases e
    have:=Bu h.2 e2
    rw[Ù]
    omega
def Cw{N:List Str}{sc:Scope}{t:Tm}(h:okT N sc t e=true):zS X e es:=by
 cases e <;> first
  |rfl
  |(cases t <;> simp[okT] at h)
section
variable {N:List Str}{sc:Scope}
def N6{i:Int}(h:okT N sc (Tm.int i) e=true):∃k p,e=.Constant (.int i) k p:=by
 generalize ht:(Tm.int i)=t at h
 unfold okT at h
 split at h <;> first
  |exact absurd h Ð
  |(cases ht;rw[beq_iff_eq] at h;subst h;exact⟨_,_,rfl⟩)
  |cases ht
def RP{i:Bool}(h:okT N sc (Tm.bl i) e=true):∃k p,e=.Constant (.bool i) k p:=by
 generalize ht:(Tm.bl i)=t at h
 unfold okT at h
 split at h <;> first
  |exact absurd h Ð
  |(cases ht;rw[beq_iff_eq] at h;subst h;exact⟨_,_,rfl⟩)
  |cases ht
def NZ(h:okT N sc Tm.non e=true):∃k p,e=.Constant .none k p:=by
 generalize ht:Tm.non=t at h
 unfold okT at h
 split at h <;> first
  |exact absurd h Ð
  |(cases ht;exact⟨_,_,rfl⟩)
  |cases ht
def NT{i:Str}(h:okT N sc (Tm.str i) e=true):∃k p,e=.Constant (.str i) k p:=by
 generalize ht:(Tm.str i)=t at h
 unfold okT at h
 split at h <;> first
  |exact absurd h Ð
  |(cases ht;rw[beq_iff_eq] at h;subst h;exact⟨_,_,rfl⟩)
  |cases ht
def inv_neg{i:Int}(h:okT N sc (Tm.neg i) e=true):∃k p q,e=.UnaryOp .USub (.Constant (.int i) k p) q:=by
 generalize ht:(Tm.neg i)=t at h
 unfold okT at h
 split at h <;> first
  |exact absurd h Ð
  |(cases ht;rw[beq_iff_eq] at h;subst h;exact⟨_,_,_,rfl⟩)
  |cases ht
def NP{i:Nat}(h:okT N sc (Tm.var i) e=true):∃x p,e=.Name x p/\N[i]?=some x/\Vis sc x/\zB x/\(x == ("__classdict__":Str))=false:=by
 generalize ht:(Tm.var i)=t at h
 unfold okT at h
 split at h <;> first
  |exact absurd h Ð
  |(cases ht;rw[Ë,Ë,Ë,beq_iff_eq,Ž,Ž] at h;exact⟨_,_,rfl,h.1,Ld h.2.1,h.2.2.1,h.2.2.2⟩)
  |cases ht
def N5{ts:Tms}(h:okT N sc (Tm.lst ts) e=true):∃es p,e=.List es p/\lQ N sc ts es=true:=by
 generalize ht:(Tm.lst ts)=t at h
 unfold okT at h
 split at h <;> first
  |exact absurd h Ð
  |(cases ht;exact⟨_,_,rfl,h⟩)
  |cases ht
def NQ{ts:Tms}(h:okT N sc (Tm.tup ts) e=true):∃es k p,e=.Tuple es k p/\lQ N sc ts es=true:=by
 generalize ht:(Tm.tup ts)=t at h
 unfold okT at h
 split at h <;> first
  |exact absurd h Ð
  |(cases ht;exact⟨_,_,_,rfl,h⟩)
  |cases ht
def N7(h:okT N sc Tm.dct e=true):∃p,e=.Dict [] [] p:=by
 generalize ht:Tm.dct=t at h
 unfold okT at h
 split at h <;> first
  |exact absurd h Ð
  |(cases ht;exact⟨_,rfl⟩)
  |cases ht
end
mutual
def Bc{N:List Str}{sc:Scope}(hN:X.N=N)(hs:X.env.scope=sc):∀(t:Tm) (e:Expr),okT N sc t e=true->smT t=true->PD X e (Qo t)
 |.int i,e,h,_=>by
  obtain⟨k,p,rfl⟩:=N6 h
  exact PD.wk aC λρ P ⟨k,d,e,q⟩=>by simp only[evT] at e;cases e;exact q
 |.neg i,e,h,_=>by
  obtain⟨k,p,q,rfl⟩:=inv_neg h
  exact PD.wk (gG aC) λρ P ⟨k,d,e,q⟩=>by simp only[evT] at e;cases e;exact q
 |.bl b,e,h,_=>by
  obtain⟨k,p,rfl⟩:=RP h
  exact PD.wk gU λρ P ⟨k,d,e,q⟩=>by simp only[evT] at e;cases e;exact q
 |.non,e,h,_=>by
  obtain⟨k,p,rfl⟩:=NZ h
  exact PD.wk lH λρ P ⟨k,d,e,q⟩=>by simp only[evT] at e;cases e;exact q
 |.str s,e,h,_=>by
  obtain⟨k,p,rfl⟩:=NT h
  exact PD.wk vC λρ P ⟨k,d,e,q⟩=>by simp only[evT] at e;cases e;exact q
 |.var i,e,h,_=>by
  obtain⟨x,p,rfl,h1,h2,h3,h4⟩:=NP h
  refine PD.wk (dv i (by rw[hN];exact h1) (by rw[hs];exact h2) h3 h4) λρ P ⟨k,d,e,q⟩=>?_
  simp only[evT] at e
  unfold tV
  split at e <;> first
   |(cases e;rename_i z;rw[z];exact q)
   |cases e
 |.lst ts,e,h,s=>by
  obtain⟨es,p,rfl,h1⟩:=N5 h
  have s1:kj 1000 ts=true:=by simpa only[smT] using s
  refine PD.wk (cW (wz hN hs ts es 1000 h1 s1)) λρ P ⟨k,d,e,q⟩=>?_
  simp only[evT] at e
  cases e1:jL ρ ts with
  |none=>rw[e1] at e;cases e
  |some ks =>
   rw[e1] at e
   cases e
   exact⟨ks,e1,Bu s1 e1,q⟩
 |.tup ts,e,h,s=>by
  obtain⟨es,k,p,rfl,h1⟩:=NQ h
  have s1:kj 1000 ts=true:=by simpa only[smT] using s
  refine PD.wk (bx (wz hN hs ts es 1000 h1 s1)) λρ P ⟨k,d,e,q⟩=>?_
  simp only[evT] at e
  cases e1:jL ρ ts with
  |none=>rw[e1] at e;cases e
  |some ks =>
   rw[e1] at e
   cases e
   exact⟨ks,e1,Bu s1 e1,q⟩
 |.dct,e,h,_=>by
  obtain⟨p,rfl⟩:=N7 h
  exact PD.wk qg λρ P ⟨k,d,e,q⟩=>by simp only[evT] at e;cases e;exact q
def wz{N:List Str}{sc:Scope}(hN:X.N=N)(hs:X.env.scope=sc):∀(ts:Tms) (es:List Expr) (n:Nat),lQ N sc ts es=true->kj n ts=true->PDA X es (W6 ts)
 |.nil,es,n,h,_=>by
  cases es with
  |nil=>exact PDA.wk ao λρ P ⟨ks,e,q⟩=>by simp only[jL] at e;cases e;exact q
  |cons e es=>simp[lQ] at h
 |.cons t ts,es,n,h,s=>by
  cases es with
  |nil=>simp[lQ] at h
  |cons e es =>
   simp only[lQ,Ë] at h
   cases n with
   |zero=>simp[kj] at s
   |succ n =>
    simp only[kj,Ë] at s
    refine PDA.wk (aj (Bc hN hs t e h.1 s.1) (wz hN hs ts es n h.2 s.2) (Cw h.1)) λρ P ⟨ks,e,q⟩=>?_
    simp only[jL] at e
    cases e1:evT ρ t with
    |none=>rw[e1] at e;cases e
    |some k =>
     cases e2:jL ρ ts with
     |none=>rw[e1,e2] at e;cases e
     |some ks' =>
      rw[e1,e2] at e
      cases e
      exact⟨k.1,k.2,e1,ks',e2,q⟩
end
def S9(ts:Tms)(t:DA):DA:=λρ P=>∃ks,jL ρ ts=some ks/\t ρ λks'=>P (ks++ks')
def HJ{N:List Str}{sc:Scope}(hN:X.N=N)(hs:X.env.scope=sc){t2:DA}{es2:List Expr}(h2:PDA X es2 t2):∀(ts:Tms) (es1:List Expr) (n:Nat),lQ N sc ts es1=true->kj n ts=true->PDA X (es1++es2) (S9 ts t2)
 |.nil,es,n,h,_=>by
  cases es with
  |nil=>exact PDA.wk h2 λρ P ⟨ks,e,q⟩=>by simp only[jL] at e;cases e;exact q
  |cons e es=>simp[lQ] at h
 |.cons t ts,es,n,h,s=>by
  cases es with
  |nil=>simp[lQ] at h
  |cons e es =>
   simp only[lQ,Ë] at h
   cases n with
   |zero=>simp[kj] at s
   |succ n =>
    simp only[kj,Ë] at s
    refine PDA.wk (aj (Bc hN hs t e h.1 s.1) (HJ hN hs h2 ts es n h.2 s.2) (Cw h.1)) λρ P ⟨ks,e,q⟩=>?_
    simp only[jL] at e
    cases e1:evT ρ t with
    |none=>rw[e1] at e;cases e
    |some k =>
     cases e2:jL ρ ts with
     |none=>rw[e1,e2] at e;cases e
     |some ks' =>
      rw[e1,e2] at e
      cases e
      exact⟨k.1,k.2,e1,ks',e2,q⟩
def jy(N:List Str)(sc:Scope)(tm:Tm)(h:okT N sc tm e=true)(hN:X.N=N:=by rfl)(hs:X.env.scope=sc:=by rfl)(s:smT tm=true:=by decide +kernel):PD X e (Qo tm):=Bc hN hs tm e h s
def dZ(n:Nat)(N:List Str)(sc:Scope)(ts:Tms){t2:DA}(h2:PDA X (es.drop n) t2)(h:lQ N sc ts (es.take n)=true)(hN:X.N=N:=by rfl)(hs:X.env.scope=sc:=by rfl)(s:kj 1000 ts=true:=by decide +kernel):PDA X es (S9 ts t2):=by
 have r:=HJ hN hs h2 ts (es.take n) 1000 h s
 rw[List.take_append_drop] at r
 exact r
end
end Dl
namespace L2
open PySem PySem.Spec PyProof.Rows HT
section
variable {X:Cx}{e:Expr}{te:TE}{p1 p2 p3 pos:Pos}
end
end L2
namespace Dl
open PySem L2 PyProof.Rows
variable [Gr]
section
variable {X:Cx}{pos p1 p2 p3:Pos}{a b e:Expr}{es:List Expr}{ta tb te:DE}{t:DA}
def Tp(te:DE)(tl th:DO):DE:=λρ P=>te ρ λk d=>tl ρ λlo=>th ρ λhi=>match d with
 |.list ds=>newP k (eG ds lo hi) λk'=>P k' (.list (eG ds lo hi))
 |.tuple ds=>¬(HT.sIx ds.length 0 lo=0/\HT.sIx ds.length ds.length hi=ds.length)/\P (norm k (.tuple (eG ds lo hi))) (.tuple (eG ds lo hi))
 |_=>False
def mV{lo hi:Option Expr}{tl th:DO}(he:PD X e te)(hl:PO X lo (rH tl))(hh:PO X hi (rH th)):PD X (.Subscript e (.Slice lo hi none p2) pos) (Tp te tl th):=PE.wk (qR (SlR.or u6 Qx) he hl hh) (by
 rintro σ H Q ⟨p,H0,own,ρ,P,E,t,q⟩
 refine⟨p,H0,own,ρ,_,E,t,λk d v H1 h A r=>?_⟩
 refine⟨p,H0,own,ρ,_,E.go A.kp A.pen,h,λo1 H2 h2 A2=>?_⟩
 refine⟨p,H0,own,ρ,_,(E.go A.kp A.pen).go A2.kp A2.pen,h2,λo2 H3 h3 A3=>?_⟩
 have A4:=(A.base A2).base A3
 have r3:=mH (A.base A2) A3.kp (mH A A2.kp r)
 cases d with
 |list ds =>
  obtain⟨x,xs,e1,o,h1,rs⟩:=Rp.cN r3
  subst e1
  refine .inl ⟨x,xs,rfl,SqL.of h1,λl hl=>?_⟩
  obtain⟨k2,i2,nw⟩:=A4.new hl (.lst (o8 xs o1 o2))
  obtain⟨k',hk',rk'⟩:=j5 A4 (cL A4 k2 (rs.cut o1 o2)) nw au h3
  exact q _ _ _ _ hk' (A4.go k2 i2) rk'
 |tuple ds =>
  obtain⟨x,xs,e1,h1,rs⟩:=Rp.eN r3
  subst e1
  refine .inr ⟨x,xs,rfl,SqT.of h1,by rw[rs.length];exact h3.1,λl hl=>?_⟩
  obtain⟨k2,i2,nw⟩:=A4.new hl (.tup (o8 xs o1 o2))
  exact q _ _ _ _ h3.2 (A4.go k2 i2) (aR (.tup au (cL A4 k2 (rs.cut o1 o2))))
 |_=>exact h3.elim)
end
variable [Gr]
abbrev IM:=List (Int×D)
def kvD(m:IM):List (D×D):=m.map λp=>(Ã p.1,p.2)
section
variable {X:Cx}{pos pos' p2:Pos}{a b e:Expr}{ta tb te tj tm:DE}{st st2:Stmt}{rest:List Stmt}{ti:DI}{g:DG}{t:DS}
def tD1(ta tb:DE):DE:=λρ P=>ta ρ λ_ d1=>tb ρ λk2 d2=>match d1 with
 |.int i=>(norm k2 d2).le .new=true/\P .new (.dict (kvD [(i,d2)]))
 |_=>False
def qW(ha:PD X a ta)(hb:PD X b tb):PD X (.Dict [some a] [b] pos) (tD1 ta tb):=PE.wk (Dm (jt ha hb vm) rfl rfl (by intro z;cases z) (by show 1<=15;decide)) (by
 rintro σ H Q ⟨p,H0,own,ρ,P,E,t,q⟩
 intro c hc
 have A0:=E.at
 obtain⟨k0,i0,nw⟩:=A0.new hc (.dK [])
 have nf:=A0.nfb hc
 refine⟨p,H0,own,ρ,_,E.go k0 i0,t,λk1 d1 v1 H1 t1 A1 r1=>?_⟩
 refine⟨p,H0,own,ρ,_,(E.go k0 i0).go A1.kp A1.pen,t1,λk2 d2 v2 H2 t2 A2 r2=>?_⟩
 have h1:H1 c=some (.dK []):=A1.kp c _ au nf
 have h2:H2 c=some (.dK []):=A2.kp c _ h1 nf
 refine⟨h2,?_⟩
 cases d1 with
 |int i =>
  have e1:=Rp.int' r1
  subst e1
  refine⟨[(Ņ i,v2)],rfl,(by show 1<=15;decide),?_⟩
  show Q (.ref c) (upd H2 c (.dK [(Ņ i,v2)]))
  have K:Kp p H (upd H2 c (.dK [(Ņ i,v2)])):=λx o ex nx=>by
   rw[aq (aD ex hc)]
   exact A2.kp x o (A1.kp x o (by rw[aq (aD ex hc)];exact ex) nx) nx
  have PIf:p.PI (upd H2 c (.dK [(Ņ i,v2)])):=p.mono H2 _ A2.pen λx o fx ex=>by
   rw[aq (λz:x=c=>fx.elim (λfx=>nf (by rw[←z];exact fx)) λ⟨_,_,y⟩=>by rw[z,h2,y] at ex;cases ex)];exact ex
  refine q _ _ _ _ t2.2 ⟨A0.k0,K,A0.penb,PIf,A0.ow⟩ (.dct nw au (.cons (k:=Ņ i) ?_ .nil))
  have rn:Rp (okK p H0 own H1 .new) H2 v2 d2:=kI A2 t2.1 (aR r2)
  refine rn.cT (λx o n ex=>⟨?_,?_⟩) λx xs ex=>?_
  ·have n:H1 x=none:=n
   cases hx:H x with
   |none=>exact hx
   |some u =>
    have:=A1.kp x u (by rw[aq (aD hx hc)];exact hx) (A2.nfb n)
    rw[n] at this
    cases this
  ·have n:H1 x=none:=n
   rw[aq (λz=>by rw[z,h1] at n;cases n)]
   exact ex
  ·rw[aq (λz=>by rw[z,h2] at ex;cases ex)]
   exact ex
 |_=>exact t2.elim)
def Tj(te:DE):DT:=λρ P=>te ρ λ_ d=>match d with
 |.list ds=>P (!ds.isEmpty)
 |.tuple ds=>P (!ds.isEmpty)
 |.bool b=>P b
 |_=>False
def Kl{ok:Addr->Prop}{H:Hp}{vs:List V}{ds:List D}(r:Rps ok H vs ds):(!vs.isEmpty)=!ds.isEmpty:=by
 cases r <;> rfl
def vo(h:PD X e te)(he:∀whole,isTrue e X.env whole=(do let v ←whole;standAt e.pos;holding [v] (truthy v)):=by intro _;rfl):PDT X e (Tj te):=PT.wk (Ia h he) (by
 rintro σ H Q ⟨p,H0,own,ρ,P,E,t,q⟩
 refine⟨p,H0,own,ρ,_,E,t,λk d v H' h A r=>?_⟩
 cases d with
 |list ds =>
  obtain⟨c,vs,rfl,o,hc,rs⟩:=Rp.cN r
  exact⟨_,.inl ⟨vs,SqL.of hc,rfl⟩,by rw[Kl rs];exact q _ _ h A⟩
 |tuple ds =>
  obtain⟨c,vs,rfl,hc,rs⟩:=Rp.eN r
  exact⟨_,.inr (.inl ⟨vs,SqT.of hc,rfl⟩),by rw[Kl rs];exact q _ _ h A⟩
 |bool b =>
  have e:=Rp.bl' r
  subst e
  exact⟨b,rfl,q _ _ h A⟩
 |_=>exact h.elim)
end
variable [Gr]
section
variable {X:Cx}{te te1 te2 tj tm:DE}{st st2:Stmt}{rest:List Stmt}{t:DS}
end
variable [Gr]
section
variable {X:Cx}{te tj:DE}{st:Stmt}{t:DS}
end
end Dl
namespace L2
open PySem PySem.Spec PyProof.Rows
end L2
namespace Dl
open PySem L2 PyProof.Rows
variable [Gr]
section
variable {X:Cx}{tg:Expr}{pos:Pos}{ta:DA}
end
section
variable {X:Cx}
def GJ(hc:X.calm=true):bJ X (.builtin "min") (λxs H Q=>∃(p:Addr) (ns:List Int),xs=[.ref p]/\SqL X.K H p (ns.map V.int)/\ns≠[]/\∀M,M∈ns->(∀a∈ns,M<=a)->Q (.int M) H):=by
 intro pins s σ H xs us Q I r h
 obtain⟨p,ns,rfl,hp,hne,q⟩:=h
 obtain⟨u,rfl,rx⟩:=vals1 r
 cases rx
 obtain⟨its,rv,pl,hz⟩:=I.list hp
 have hi:IntsAre its ns:=intsAre_of rv
 obtain⟨zs,e⟩:=hi.allInts.items
 have hns:ns=zs.toList.map (·.1):=by rw[←hi.numsOf,←nums_intItems,←e]
 have hsz:0<zs.size:=by
  have h3:=List.length_pos_iff.mpr hne
  rw[hns,Á,Ī] at h3;exact h3
 have hl:=pl.isList
 rw[e] at hl
 refine min_intList (I.ok.hd hc) hl hsz λv h' tk hv hk=>?_
 obtain⟨t,rfl⟩:=intItems_at hv
 obtain⟨h1,h2⟩:=argBest_lt (numAt zs) (zs.size - 1)
 refine⟨.int _,H,I.kept λb o eb=>hk b o eb,⟨_,rfl⟩,q _ ?_ λa ha=>?_⟩
 ·rw[hns,numAt_eq];refine getD_mem ?_;rw[Á,Ī];omega
 ·rw[hns] at ha
  obtain⟨j,hj,rfl⟩:=mem_getD ha
  rw[Á,Ī] at hj
  have h3:=h2 j (by omega)
  rw[←numAt_eq];exact h3
def Gz(hc:X.calm=true):bJ X (.builtin "sum") (λxs H Q=>∃(p:Addr) (ns:List Int),xs=[.ref p]/\SqT X.K H p (ns.map V.int)/\ns.length<=1000/\(∀x∈ns,-1000000<=x/\x<=1000000)/\Q (.int ns.sum) H):=by
 intro pins s σ H xs us Q I r h
 obtain⟨p,ns,rfl,hp,hl,hs,q⟩:=h
 obtain⟨u,rfl,rx⟩:=vals1 r
 cases rx
 obtain⟨its,rv,pl,hz⟩:=I.tuple hp
 have hlen:its.length=ns.length:=by have:=rv.length;rw[Á] at this;exact this.symm
 have hltp:p<s.heap.objs.size:=by obtain⟨o,ho,_⟩:=pl;exact Î ho
 have at':∀i v,its[i]?=some v->∃t,v=Ĝ (ns.getD i 0) t:=λi v e=>by
  have hi:i<its.length:=(Ö.mp e).1
  have hv:(ns.map V.int)[i]?=some (V.int ns[i]):=by rw[è,Ì (show i<ns.length by omega)];rfl
  obtain⟨u,eu,ru⟩:=rv.get hv
  rw[e] at eu
  cases eu
  obtain⟨t,rfl⟩:=ru
  exact⟨t,by rw[Ê,Ì (show i<ns.length by omega)];rfl⟩
 refine call_sum_walk (wpAny_pyIter_tuple pl ?_)
 refine⟨_,_,_,_,_,_,λi=>ns.getD i 0,rfl,Walks.tuple (A:=X.A.in1) (I.ok.hd hc) _ p (á hltp) _,⟨⟨_,ß _ rfl,rfl,rfl⟩,pl.push _⟩,?_,λi v e=>at' i v (by simpa using e),λj hj=>?_,λh' tk t' hk=>?_⟩
 ·intro b hb
  show b<(s.heap.push _).objs.size
  rw[ł]
  simp at hb
  rcases hb with rfl|rfl
  ·exact Ŗ _
  ·exact Ă hltp
 ·have hj:j<ns.length:=by simpa[hlen] using hj
  have e:ns.getD j 0=ns[j]:=by rw[Ê,Ì hj];rfl
  have b1:=hs _ (Ħ hj)
  have b2:=ou (ns.take (j+1)) 1000000 λx hx=>hs x (ş hx)
  have b3:(ns.take (j+1)).length<=1000:=by rw[ă];omega
  rw[mL ns (j+1) hj]
  refine⟨?_,?_⟩
  ·show -(2 ^ 63)<=ns.getD j 0/\ns.getD j 0<2 ^ 63
   rw[e]
   omega
  ·show -(2 ^ 63)<=(ns.take (j+1)).sum/\(ns.take (j+1)).sum<2 ^ 63
   omega
 ·have e:PySem.preSum (λi=>ns.getD i 0) its.toArray.size=ns.sum:=by
   rw[Ñ,hlen,mL ns ns.length (É _),ĉ]
  rw[e]
  refine⟨.int ns.sum,H,I.kept λb o eb=>hk b o ?_ (Ï _ eb),⟨_,rfl⟩,q⟩
  intro hm
  have:b=s.heap.objs.size:=by simpa using hm
  exact absurd (this ▸ Î eb) (Ā _)
end
section
variable {prog:Program}{w:World}{A:Around}{E:Value->Shared->Prop}
end
section
variable {X:Cx}{pos:Pos}
variable [Gr]
end
section
variable {X:Cx}{pos:Pos}{a:Expr}{t:DA} [Gr]
def RW(f:Int->Int->Int)(le:Int->Int->Prop):GC:=λks P=>match ks with
 |[(_,.tuple [.int i,.int j])]=>P .imm (.int (f i j))
 |[(_,.list ds)]=>∃ns:List Int,ds=ns.map Ã/\ns≠[]/\∀M,M∈ns->(∀a∈ns,le M a)->P .imm (.int M)
 |_=>False
def vI{ps:Pos}(hc:X.calm=true)(hm:X.mg "min"=none)(ha:PDA X [a] t)(hg:Gl X "min":=by rfl)(he:zS X a []:=by rfl)(hpl:zP X pos []:=by rfl):PD X (.Call (.Name "min" ps) [a] [] pos) (tCl (RW (λi j=>if j<i then j else i) (λM a=>M<=a)) t) :=
 cj (bJ.or (uI hc) (GJ hc)) (by
  intro p H0 own Hb H vs ks P Q A r t q
  unfold RW at t
  split at t
  ·rename_i k i j
   obtain⟨v,rfl,r'⟩:=fJ r
   obtain⟨x,xs,e1,h1,rs1⟩:=Rp.eN r'
   obtain⟨v1,v2,e2,q1,q2⟩:=Rps.two rs1
   subst e1 e2
   rw[q1.int',q2.int'] at h1
   exact .inl ⟨x,i,j,rfl,SqT.of h1,q _ _ _ _ t Kp.refl A.pen (.int _)⟩
  ·obtain⟨ns,rfl,hne,t⟩:=t
   obtain⟨v,rfl,r'⟩:=fJ r
   obtain⟨x,xs,e1,o1,h1,rs1⟩:=Rp.cN r'
   subst e1
   have e2:=Rps.ints rs1
   subst e2
   exact .inr ⟨x,ns,rfl,SqL.of h1,hne,λM h1 h2=>q _ _ _ _ (t M h1 h2) Kp.refl A.pen (.int _)⟩
  ·exact t.elim) hg hm boot_min ha (by decide) (by decide) he hpl
def J0:GC:=λks P=>match ks with
 |[(_,.list ds)]=>∃ns:List Int,ds=ns.map Ã/\ns.length<=1000/\(∀x∈ns,-1000000<=x/\x<=1000000)/\P .imm (.int ns.sum)
 |[(_,.tuple ds)]=>∃ns:List Int,ds=ns.map Ã/\ns.length<=1000/\(∀x∈ns,-1000000<=x/\x<=1000000)/\P .imm (.int ns.sum)
 |_=>False
def vB{ps:Pos}(hc:X.calm=true)(hm:X.mg "sum"=none)(ha:PDA X [a] t)(hg:Gl X "sum":=by rfl)(he:zS X a []:=by rfl)(hpl:zP X pos []:=by rfl):PD X (.Call (.Name "sum" ps) [a] [] pos) (tCl J0 t) :=
 cj (bJ.or (GD hc) (Gz hc)) (by
  intro p H0 own Hb H vs ks P Q A r t q
  unfold J0 at t
  split at t
  ·obtain⟨ns,rfl,hl,hb,t⟩:=t
   obtain⟨v,rfl,r'⟩:=fJ r
   obtain⟨x,xs,e1,o1,h1,rs1⟩:=Rp.cN r'
   subst e1
   have e2:=Rps.ints rs1
   subst e2
   exact .inl ⟨x,ns,rfl,SqL.of h1,hl,hb,q _ _ _ _ t Kp.refl A.pen (.int _)⟩
  ·obtain⟨ns,rfl,hl,hb,t⟩:=t
   obtain⟨v,rfl,r'⟩:=fJ r
   obtain⟨x,xs,e1,h1,rs1⟩:=Rp.eN r'
   subst e1
   have e2:=Rps.ints rs1
   subst e2
   exact .inr ⟨x,ns,rfl,SqT.of h1,hl,hb,q _ _ _ _ t Kp.refl A.pen (.int _)⟩
  ·exact t.elim) hg hm boot_sum ha (by decide) (by decide) he hpl
variable {b:Expr}{ta tb:DE}
end
section
variable {X:Cx}
end
section
variable {X:Cx}{pos:Pos}{a e:Expr}{te ta:DE}{t:DA}{st st2:Stmt}{rest:List Stmt} [Gr]
end
section
variable {X:Cx}{tg iter c:Expr}{pos pos1:Pos}{ret:Stmt}{ti:DI}{g:DG}{tc:DT} [Gr]
end
end Dl
namespace L2
open PySem PySem.Spec PyProof.Rows
end L2
set_option autoImplicit true
set_option relaxedAutoImplicit true
namespace Wr
open PySem L2 PyProof.Rows Dl
structure WD[Gr](X:Cx)(e:Expr)(t:DE):Prop where
 h:PD X e t
structure WDT[Gr](X:Cx)(e:Expr)(t:DT):Prop where
 h:PDT X e t
structure WDW[Gr](X:Cx)(e:Expr)(t:DT):Prop where
 h:PDW X e t
structure WDA[Gr](X:Cx)(e:List Expr)(t:DA):Prop where
 h:PDA X e t
structure WDS[Gr](X:Cx)(e:Stmt)(t:DS):Prop where
 h:PDS X e t
structure WDSs[Gr](X:Cx)(e:List Stmt)(t:DS):Prop where
 h:iz X e t
structure WDI[Gr](X:Cx)(tg e:Expr)(t:DI):Prop where
 h:PDI X tg e t
structure WDG[Gr](X:Cx)(e:Expr)(t:DG):Prop where
 h:PDG X e t
structure WDGs[Gr](X:Cx)(e:List Expr)(t:DGs):Prop where
 h:PGs X e (rJ t)
structure WDTs[Gr](X:Cx)(e:List Expr)(t:DT):Prop where
 h:G3 X e t
structure WDO[Gr](X:Cx)(e:Option Expr)(t:DO):Prop where
 h:PO X e (rH t)
structure WV(X:Cx)(e:Expr)(i:Nat):Prop where
 h:PE X e (jf i)
structure WC(X:Cx)(e:Expr)(v:V):Prop where
 h:PE X e (tC v)
section
variable [Gr]
def wv(i:Nat){x:Str}{pos:Pos}(hN:X.N[i]?=some x:=by rfl)(hv:Vis X.env.scope x:=by first|exact Ė rfl|exact Or.inr (Ė rfl)|exact Or.inr (Or.inr rfl))(hd:zB x:=by decide)(hcd:(x == ("__classdict__":Str))=false:=by decide):WV X (.Name x pos) i:=⟨pv i hN hv hd hcd⟩
def wpt{t:DT}(h:WDW X e t):WDT X e t:=⟨PDW.pt h.h⟩
def wty{x:Str}{T:String}(hg:Gl X x)(hm:X.mg x=none)(hv:bootBuiltins x=some (.type T))(hn:x≠"__name__":=by decide)(hd:zB x:=by decide):WC X (.Name x ps) (.ty T):=⟨mQ hg hm hv rfl hn hd⟩
def cQ{i:Nat}{x:Str}{e:Expr}{te:DE}{pos' pos:Pos}(rg:Option Nat)(hN:X.N.Nodup)(hi:X.N[i]?=some x)(hx:Loc X.env.scope x)(he:WD X e te)(hs:swapsWith e (some (.Name x pos')) pos.line X.env=pure false:=by rfl)(hf:zL X x:=by first|exact .inl rfl|exact .inr rfl|assumption) :
  WDS X (.Assign [.Name x pos'] e pos) (wY i rg te):=⟨Dl.cQ rg (bU hN hi hx he.h hs hf)⟩
def yX(rg:Option Nat)(own:List Str){i:Nat}{y:Str}{py spos:Pos}(hc:X.calm=true)(hN:X.N.Nodup)(hiN:X.N[i]?=some y)(hx:Loc X.env.scope y)(hi:WDI X tg iter ti)(hg:∀c,WDG (X.comp own scope c) tg g)(ht:∀c,WDTs (X.comp own scope c) ifs tt)(he:∀c,WD (X.comp own scope c) elt te)(hsw:swapsWith (.ListComp elt [⟨tg,iter,ifs,0⟩] scope pos) (some (.Name y py)) spos.line X.env=pure true:=by rfl)(hk:gM X.env scope X.N=true:=by rfl)(hs:zF X iter:=by intro _;rfl)(hf:zL X y:=by first|exact .inl rfl|exact .inr rfl|assumption) :
  WDS X (.Assign [.Name y py] (.ListComp elt [⟨tg,iter,ifs,0⟩] scope pos) spos) (wY i rg (dLC own.length ti g tt te)):=⟨Dl.cQ rg (QG own hc hN hiN hx hi.h (λc=>(hg c).h) (λc=>(ht c).h) (λc=>(he c).h) hsw hk hs hf)⟩
def wV{i:Nat}{x:Str}{es:List Expr}{t:DA}{pos' pos lp:Pos}(r:Nat)(b:Bool)(hN:X.N.Nodup)(hi:X.N[i]?=some x)(hx:Loc X.env.scope x)(he:WDA X es t)(hs:swapsWith (.List es lp) (some (.Name x pos')) pos.line X.env=pure false:=by rfl)(hf:zL X x:=by first|exact .inl rfl|exact .inr rfl|assumption) :
  WDS X (.Assign [.Name x pos'] (.List es lp) pos) (PL i r b t):=⟨Dl.wV r b (bU hN hi hx (Ai he.h) hs hf)⟩
def wW{tg e:Expr}{te:DE}{g:DG}(he:WD X e te)(hg:WDG X tg g)(hs:swapsWithSole [tg] e pos.line X.env=pure false:=by rfl)(hw:swappedStores [tg] e X.env=pure none:=by rfl)(h1:(assignEach [tg] X.env).map (·.2)=[assign tg X.env]:=by rfl):WDS X (.Assign [tg] e pos) (VG te g):=⟨Dl.wW (QK he.h hg.h hs hw h1)⟩
def dX{i:Nat}{x:Str}{e:Expr}{es:List Expr}{apos cpos np pos:Pos}(hv:WV X (.Name x np) i)(ha:WDA X (e::es) (bM te iy))(hbase:attributeBase (.Name x np) "append" X.env (eval (.Name x np) X.env)=eval (.Name x np) X.env:=by rfl)(hfew:zW X cpos (e::es):=by rfl)(hline:(apos.endLine == cpos.line)=true:=by rfl)(hst:zS X e es:=by rfl)(hplain:zP X cpos es:=by rfl)(hs:swapsWith (.Call (.Attribute (.Name x np) "append" apos) (e::es) [] cpos) none pos.line X.env=pure false:=by rfl) :
  WDS X (.Expr (.Call (.Attribute (.Name x np) "append" apos) (e::es) [] cpos) pos) (SM i te):=⟨Dl.dX (cC (iZ þ Ĳ İ fu hv.h ha.h hbase hfew hline hst hplain) hs)⟩
def dW{i:Nat}{x:Str}{e:Expr}{es:List Expr}{apos cpos np pos:Pos}(hv:WV X (.Name x np) i)(ha:WDA X (e::es) (bM te iy))(hbase:attributeBase (.Name x np) "extend" X.env (eval (.Name x np) X.env)=eval (.Name x np) X.env:=by rfl)(hfew:zW X cpos (e::es):=by rfl)(hline:(apos.endLine == cpos.line)=true:=by rfl)(hst:zS X e es:=by rfl)(hplain:zP X cpos es:=by rfl)(hs:swapsWith (.Call (.Attribute (.Name x np) "extend" apos) (e::es) [] cpos) none pos.line X.env=pure false:=by rfl) :
  WDS X (.Expr (.Call (.Attribute (.Name x np) "extend" apos) (e::es) [] cpos) pos) (SJ i te):=⟨Dl.dW (cC (iZ þ ť Ť j6 hv.h ha.h hbase hfew hline hst hplain) hs)⟩
def aU{i:Nat}{x:Str}(hN:X.N.Nodup)(hi:X.N[i]?=some x)(hx:Loc X.env.scope x)(hf:zL X x:=by first|exact .inl rfl|exact .inr rfl|assumption):WDG X (.Name x pos) (gNm i):=⟨Dl.aU (Di hN hi hx hf)⟩
def aC{i:Int}{j:Nat}:WD X (.Constant (.int i) j pos) (tK (.int i)):=⟨Dl.aC ⟩
def gU{i:Bool}{j:Nat}:WD X (.Constant (.bool i) j pos) (tK (.bool i)):=⟨Dl.gU ⟩
def lH{j:Nat}:WD X (.Constant .none j pos) (tK .none):=⟨Dl.lH ⟩
def vC{x:Str}{j:Nat}:WD X (.Constant (.str x) j pos) (tK (.str x)):=⟨Dl.vC ⟩
def bO{e:Expr}{t:DE}(h:WD X e t)(he:∀whole,isTrue e X.env whole=(do let v ←whole;standAt e.pos;holding [v] (truthy v)):=by intro _;rfl):WDT X e (fW t):=⟨Dl.bO (h:=h.h) (he:=he)⟩
def cD{t:DT}(ha:WDT X a t):WDT X (.UnaryOp .Not a pos) (Vz t):=⟨Dl.cD (ha:=ha.h)⟩
def jx(ha:WDT X a t):WDW X (.BoolOp .And [a] pos) t:=⟨Dl.jx (ha:=ha.h)⟩
def gn(ha:WDT X a t):WDW X (.BoolOp .Or [a] pos) t:=⟨Dl.gn (ha:=ha.h)⟩
def mR{rest:List Expr}(ha:WDT X a t)(hb:WDW X (.BoolOp .And (b::rest) pos) u):WDW X (.BoolOp .And (a::b::rest) pos) (SN t u):=⟨Dl.mR (ha:=ha.h) (hb:=hb.h)⟩
def jw{rest:List Expr}(ha:WDT X a t)(hb:WDW X (.BoolOp .Or (b::rest) pos) u):WDW X (.BoolOp .Or (a::b::rest) pos) (dOr t u):=⟨Dl.jw (ha:=ha.h) (hb:=hb.h)⟩
def ao :WDA X [] iy:=⟨Dl.ao ⟩
def aj(ha:WD X e te)(hr:WDA X es t)(hs:zS X e es:=by rfl):WDA X (e::es) (bM te t):=⟨Dl.aj (ha:=ha.h) (hr:=hr.h) (hs:=hs)⟩
def cW(h:WDA X es t):WD X (.List es pos) (Cq t):=⟨Dl.cW (h:=h.h)⟩
def bx{x1}(h:WDA X es t):WD X (.Tuple es x1 pos) (zZ t):=⟨Dl.bx (h:=h.h)⟩
def cX(ha:WD X a ta)(hb:WD X b tb):WD X (.BinOp a .Sub b pos) (t2 (gI0 λi j=>.int (i - j)) ta tb):=⟨Dl.cX (ha:=ha.h) (hb:=hb.h)⟩
def mX(ha:WD X a ta)(hb:WD X b tb):WD X (.BinOp a .FloorDiv b pos) (t2 (gI Te λi j=>.int (i / j)) ta tb):=⟨Dl.mX (ha:=ha.h) (hb:=hb.h)⟩
def Ao(ha:WD X a ta)(hb:WD X b tb):WD X (.BinOp a .Mod b pos) (t2 (gI (λ_ j=>0<j) λi j=>.int (i % j)) ta tb):=⟨Dl.Ao (ha:=ha.h) (hb:=hb.h)⟩
def qU(ha:WD X a ta)(hb:WD X b tb):WD X (.BinOp a .Pow b pos) (t2 (gI Td λi j=>.int (i ^ j.toNat)) ta tb):=⟨Dl.qU (ha:=ha.h) (hb:=hb.h)⟩
def tW(ha:WD X a ta)(hb:WD X b tb):WD X (.Compare a [.Lt] [b] pos) (t2 (gI0 λi j=>.bool (decide (i<j))) ta tb):=⟨Dl.tW (ha:=ha.h) (hb:=hb.h)⟩
def Iz(ha:WD X a ta)(hb:WD X b tb):WD X (.Compare a [.LtE] [b] pos) (t2 (gI0 λi j=>.bool (decide (i<=j))) ta tb):=⟨Dl.Iz (ha:=ha.h) (hb:=hb.h)⟩
def IV(ha:WD X a ta)(hb:WD X b tb):WD X (.Compare a [.GtE] [b] pos) (t2 (gI0 λi j=>.bool (decide (j<=i))) ta tb):=⟨Dl.IV (ha:=ha.h) (hb:=hb.h)⟩
def Al(ha:WD X a ta)(hb:WD X b tb):WDT X (.Compare a [.Lt] [b] pos) (fW (t2 (gI0 λi j=>.bool (decide (i<j))) ta tb)):=⟨Dl.Al (ha:=ha.h) (hb:=hb.h)⟩
def lG(ha:WD X a ta)(hb:WD X b tb):WDT X (.Compare a [.Gt] [b] pos) (fW (t2 (gI0 λi j=>.bool (decide (j<i))) ta tb)):=⟨Dl.lG (ha:=ha.h) (hb:=hb.h)⟩
def Am(ha:WD X a ta)(hb:WD X b tb):WDT X (.Compare a [.GtE] [b] pos) (fW (t2 (gI0 λi j=>.bool (decide (j<=i))) ta tb)):=⟨Dl.Am (ha:=ha.h) (hb:=hb.h)⟩
def fK{ps:Pos}(hm:X.mg "len"=none)(ha:WDA X [a] t)(hg:Gl X "len":=by rfl)(he:zS X a []:=by rfl)(hpl:zP X pos []:=by rfl):WD X (.Call (.Name "len" ps) [a] [] pos) (tCl Oc t):=⟨Dl.fK (hm:=hm) (ha:=ha.h) (hg:=hg) (he:=he) (hpl:=hpl)⟩
def dN :WDSs X [] Kz:=⟨Dl.dN ⟩
def aJ{st:Stmt}{rest:List Stmt}(h1:WDS X st t)(h2:WDSs X rest u):WDSs X (st::rest) (rY t u):=⟨Dl.aJ (h1:=h1.h) (h2:=h2.h)⟩
def aF{st:Stmt}(h1:WDS X st t):WDSs X [st] t:=⟨Dl.aF (h1:=h1.h)⟩
def nM{st:Stmt}:WDS X st (λ_ _=>False):=⟨Dl.nM ⟩
def bB(he:WD X e te):WDS X (.Return (some e) pos) (Gx te):=⟨Dl.bB (he:=he.h)⟩
def cU{c:Expr}{a b:List Stmt}{tc:DT}(hc:WDT X c tc)(ha:WDSs X a t)(hb:WDSs X b u):WDS X (.If c a b pos) (dIf tc t u):=⟨Dl.cU (hc:=hc.h) (ha:=ha.h) (hb:=hb.h)⟩
def qx(he:WD X e te)(hs:swapsWith e none pos.line X.env=pure false:=by rfl):WDS X (.Expr e pos) (PN te):=⟨Dl.qx (he:=he.h) (hs:=hs)⟩
def dU :WDGs X [] DQ:=⟨Dl.dU ⟩
def jN{g:DG}{gs:DGs}(h1:WDG X e g)(h2:WDGs X es gs)(hs:(assignEach (e::es) X.env).map (·.2)=assign e X.env::(assignEach es X.env).map (·.2):=by rfl):WDGs X (e::es) (oX g gs):=⟨Dl.jN (h1:=h1.h) (h2:=h2.h) (hs:=hs)⟩
def fU{gs:DGs}{k n:Nat}(hc:X.calm=true)(h:WDGs X es gs)(hn:(assignEach es X.env).length=n:=by rfl)(hst:(assignEach es X.env).findIdx? (·.1)=none:=by rfl):WDG X (.Tuple es k pos) (gTp n gs):=⟨Dl.fU (hc:=hc) (h:=h.h) (hn:=hn) (hst:=hst)⟩
def dR(hl:WD X l tl):WDI X tg l (iSq tl):=⟨Dl.dR (hl:=hl.h)⟩
def bT{a:Expr}{ps:Pos}(hm:X.mg "range"=none)(ha:WDA X [a] ta)(hg:Gl X "range":=by rfl)(hs:starEach [a] X.env=[(false,eval a X.env)]:=by rfl):WDI X tg (.Call (.Name "range" ps) [a] [] pos) (iR1 ta):=⟨Dl.bT (hm:=hm) (ha:=ha.h) (hg:=hg) (hs:=hs)⟩
def eF{body:List Stmt}(hp:PassesOwn (model X.prog X.w) X.A X.env X.xe)(hc:X.calm=true)(hi:WDI X tg iter ti)(hg:WDG X tg g)(hb:WDSs X body tb)(hs:zF X iter:=by intro _;rfl):WDS X (.For tg iter body [] pos) (VD ti g tb):=⟨Dl.eF (hp:=hp) (hc:=hc) (hi:=hi.h) (hg:=hg.h) (hb:=hb.h) (hs:=hs)⟩
def jM{body:List Stmt}{c:Expr}{tc:DT}(hp:PassesOwn (model X.prog X.w) X.A X.env X.xe)(hc:WDT X c tc)(hb:WDSs X body tb):WDS X (.While c body [] pos) (Bw tc tb):=⟨Dl.jM (hp:=hp) (hc:=hc.h) (hb:=hb.h)⟩
def dM{X:Cx}:WDTs X [] (λ_ P=>P true):=⟨Dl.dM ⟩
def eZ{X:Cx}{c:Expr}{t:DT}(hc:WDT X c t):WDTs X [c] t:=⟨Dl.eZ (hc:=hc.h)⟩
def kO(own:List Str)(hc:X.calm=true)(hi:WDI X tg iter ti)(hg:∀c,WDG (X.comp own scope c) tg g)(ht:∀c,WDTs (X.comp own scope c) ifs tt)(he:∀c,WD (X.comp own scope c) elt te)(hk:gM X.env scope X.N=true:=by rfl)(hs:zF X iter:=by intro _;rfl):WD X (.ListComp elt [⟨tg,iter,ifs,0⟩] scope pos) (dLC own.length ti g tt te):=⟨Dl.kO (own:=own) (hc:=hc) (hi:=hi.h) (hg:=λc=>(hg c).h) (ht:=λc=>(ht c).h) (he:=λc=>(he c).h) (hk:=hk) (hs:=hs)⟩
def iH{op}(h:WD X a ta):WD X (.BoolOp op [a] pos) ta:=⟨Dl.iH (h:=h.h)⟩
def gJ{rest:List Expr}(ha:WD X a ta)(hb:WD X (.BoolOp .And (b::rest) pos) tb):WD X (.BoolOp .And (a::b::rest) pos) (Cr ta tb):=⟨Dl.gJ (ha:=ha.h) (hb:=hb.h)⟩
def jz{u:DT}(hc:WDT X c u)(ha:WD X a ta)(hb:WD X b tb):WD X (.IfExp c a b pos) (Qp u ta tb):=⟨Dl.jz (hc:=hc.h) (ha:=ha.h) (hb:=hb.h)⟩
def jA{ps:Pos}(hc:X.calm=true)(hm:X.mg "all"=none)(hv:bootBuiltins "all"=some (.builtin "all"))(ha:WDA X [a] t)(hg:Gl X "all":=by rfl)(he:zS X a []:=by rfl)(hpl:zP X pos []:=by rfl):WD X (.Call (.Name "all" ps) [a] [] pos) (tCl R0 t):=⟨Dl.jA (hc:=hc) (hm:=hm) (hv:=hv) (ha:=ha.h) (hg:=hg) (he:=he) (hpl:=hpl)⟩
def vJ{ps:Pos}(hm:X.mg "list"=none)(ha:WDA X [a] t)(hg:Gl X "list":=by rfl)(he:zS X a []:=by rfl)(hpl:zP X pos []:=by rfl):WD X (.Call (.Name "list" ps) [a] [] pos) (tCl J2 t):=⟨Dl.vJ (hm:=hm) (ha:=ha.h) (hg:=hg) (he:=he) (hpl:=hpl)⟩
def gq{ps:Pos}(hm:X.mg "tuple"=none)(ha:WDA X [a] t)(hg:Gl X "tuple":=by rfl)(he:zS X a []:=by rfl)(hpl:zP X pos []:=by rfl):WD X (.Call (.Name "tuple" ps) [a] [] pos) (tCl JX t):=⟨Dl.gq (hm:=hm) (ha:=ha.h) (hg:=hg) (he:=he) (hpl:=hpl)⟩
def mU{ps:Pos}(hm:X.mg "sorted"=none)(ha:WDA X [a] t)(hg:Gl X "sorted":=by rfl)(he:zS X a []:=by rfl)(hpl:zP X pos []:=by rfl):WD X (.Call (.Name "sorted" ps) [a] [] pos) (tCl Bo t):=⟨Dl.mU (hm:=hm) (ha:=ha.h) (hg:=hg) (he:=he) (hpl:=hpl)⟩
def gR{ps:Pos}(hm:X.mg "sorted"=none)(ha:WDA X [a] t)(hg:Gl X "sorted":=by rfl)(he:zS X a []:=by rfl)(hpl:zP X pos []:=by rfl):WD X (.Call (.Name "sorted" ps) [a] [] pos) (tCl wK t):=⟨Dl.gR (hm:=hm) (ha:=ha.h) (hg:=hg) (he:=he) (hpl:=hpl)⟩
def d9(hu:X.A.units+64<cLine)(ha:WD X a ta)(hb:WD X b tb)(hm:behindInMarks .In b=false:=by rfl):WDT X (.Compare a [.In] [b] pos) (fW (t2 (gIn false) ta tb)):=⟨Dl.d9 (hu:=hu) (ha:=ha.h) (hb:=hb.h) (hm:=hm)⟩
def dO :WDO X none O9:=⟨Dl.dO ⟩
def iR(h:WD X e te):WDO X (some e) (O8 te):=⟨Dl.iR (h:=h.h)⟩
def gG(ha:WD X a ta):WD X (.UnaryOp .USub a pos) (Qn ta):=⟨Dl.gG (ha:=ha.h)⟩
def dc{f:List D->(D->Prop)->Prop}(C:Cal X.prog X.w X.K X.mg X.base k x ps (spD f))(hr:Room j X.A)(ha:WDA X (e::es) t)(hk:k<=j:=by decide)(hg:Gl X x:=by rfl)(hdb:zB x:=by decide)(he:zS X e es:=by rfl)(hpl:zP X pos es:=by rfl):WD X (.Call (.Name x p) (e::es) [] pos) (tFn f t):=⟨Dl.dc (C:=C) (hr:=hr) (ha:=ha.h) (hk:=hk) (hg:=hg) (hdb:=hdb) (he:=he) (hpl:=hpl)⟩
def dcP{C:Pn->Prop}{i:Nat}{f:List D->(D->Prop)->Prop}{y:Str}{py:Pos}(CC:Cal X.prog X.w X.K X.mg X.base k x ps (spP C f))(hr:Room j X.A)(hi:WV X (.Name y py) i)(ha:WDA X es t)(hk:k<=j:=by decide)(hg:Gl X x:=by rfl)(hdb:zB x:=by decide)(he:starEach (.Name y py::es) X.env=(false,eval (.Name y py) X.env)::starEach es X.env:=by rfl)(hpl:zP X pos es:=by rfl):WD X (.Call (.Name x p) (.Name y py::es) [] pos) (Qt C f i t):=⟨Dl.dcP (CC:=CC) (hr:=hr) (hi:=hi.h) (ha:=ha.h) (hk:=hk) (hg:=hg) (hdb:=hdb) (he:=he) (hpl:=hpl)⟩
def dv(i:Nat){x:Str}{pos:Pos}(hN:X.N[i]?=some x:=by rfl)(hv:Vis X.env.scope x:=by first|exact Ė rfl|exact Or.inr (Ė rfl)|exact Or.inr (Or.inr rfl))(hd:zB x:=by decide)(hcd:(x == ("__classdict__":Str))=false:=by decide):WD X (.Name x pos) (tV i):=⟨Dl.dv (i:=i) (hN:=hN) (hv:=hv) (hd:=hd) (hcd:=hcd)⟩
def Ar(ha:WD X a ta)(hb:WD X b tb):WD X (.Compare a [.Is] [b] pos) (t2 Od ta tb):=⟨Dl.Ar (ha:=ha.h) (hb:=hb.h)⟩
def lE(ha:WD X a ta)(hb:WD X b tb):WDT X (.Compare a [.IsNot] [b] pos) (fW (t2 DW ta tb)):=⟨Dl.lE (ha:=ha.h) (hb:=hb.h)⟩
def IK(ha:WD X a ta)(hb:WD X b tb)(hs:nW b:=by exact λ_ _=>rfl):WD X (.Subscript a b pos) (t2 gIx ta tb):=⟨Dl.IK (ha:=ha.h) (hb:=hb.h) (hs:=hs)⟩
def vG(ha:WD X a ta)(hb:WD X b tb):WD X (.BinOp a .Add b pos) (t2 yS ta tb):=⟨Dl.vG (ha:=ha.h) (hb:=hb.h)⟩
def gQ(ha:WD X a ta)(hb:WD X b tb):WD X (.BinOp a .Mult b pos) (t2 JZ ta tb):=⟨Dl.gQ (ha:=ha.h) (hb:=hb.h)⟩
def Av(hu:X.A.units+64<cLine)(ha:WD X a ta)(hb:WD X b tb):WD X (.Compare a [.Eq] [b] pos) (t2 (nF false) ta tb):=⟨Dl.Av (hu:=hu) (ha:=ha.h) (hb:=hb.h)⟩
def vH(hu:X.A.units+64<cLine)(ha:WD X a ta)(hb:WD X b tb):WD X (.Compare a [.NotEq] [b] pos) (t2 (nF true) ta tb):=⟨Dl.vH (hu:=hu) (ha:=ha.h) (hb:=hb.h)⟩
def vp(hu:X.A.units+64<cLine)(ha:WD X a ta)(hb:WD X b tb):WDT X (.Compare a [.Eq] [b] pos) (fW (t2 (nF false) ta tb)):=⟨Dl.vp (hu:=hu) (ha:=ha.h) (hb:=hb.h)⟩
def qe(hu:X.A.units+64<cLine)(ha:WD X a ta)(hb:WD X b tb):WDT X (.Compare a [.NotEq] [b] pos) (fW (t2 (nF true) ta tb)):=⟨Dl.qe (hu:=hu) (ha:=ha.h) (hb:=hb.h)⟩
def Bv{rest:List Stmt}(i:Nat)(h:WDSs X rest t):WDSs X rest (Sy i t):=⟨Dl.Bv (i:=i) (h:=h.h)⟩
def rW{rest:List Stmt}(js:List Nat)(h:WDSs X rest t):WDSs X rest (Bx js t):=⟨Dl.rW (js:=js) (h:=h.h)⟩
def qg :WD X (.Dict [] [] pos) (λ_ P=>P .new (.dict [])):=⟨Dl.qg ⟩
def iI{ps ps':Pos}(hc:X.calm=true)(hml:X.mg "list"=none)(hmr:X.mg "range"=none)(ha:WDA X [a] t)(hgl:Gl X "list":=by rfl)(hgr:Gl X "range":=by rfl)(he:zS X a []:=by rfl)(hpl:(backTo pos' (starEach [] X.env)).any (·.1)=false:=by rfl)(he2:starEach [.Call (.Name "range" ps') [a] [] pos'] X.env=(false,eval (.Call (.Name "range" ps') [a] [] pos') X.env)::starEach [] X.env:=by rfl)(hpl2:zP X pos []:=by rfl):WD X (.Call (.Name "list" ps) [.Call (.Name "range" ps') [a] [] pos'] [] pos) (TF t):=⟨Dl.iI (hc:=hc) (hml:=hml) (hmr:=hmr) (ha:=ha.h) (hgl:=hgl) (hgr:=hgr) (he:=he) (hpl:=hpl) (he2:=he2) (hpl2:=hpl2)⟩
def jy(N:List Str)(sc:Scope)(tm:Tm)(h:okT N sc tm e=true)(hN:X.N=N:=by rfl)(hs:X.env.scope=sc:=by rfl)(s:smT tm=true:=by decide +kernel):WD X e (Qo tm):=⟨Dl.jy (N:=N) (sc:=sc) (tm:=tm) (h:=h) (hN:=hN) (hs:=hs) (s:=s)⟩
def dZ(n:Nat)(N:List Str)(sc:Scope)(ts:Tms){t2:DA}(h2:WDA X (es.drop n) t2)(h:lQ N sc ts (es.take n)=true)(hN:X.N=N:=by rfl)(hs:X.env.scope=sc:=by rfl)(s:kj 1000 ts=true:=by decide +kernel):WDA X es (S9 ts t2):=⟨Dl.dZ (n:=n) (N:=N) (sc:=sc) (ts:=ts) (h2:=h2.h) (h:=h) (hN:=hN) (hs:=hs) (s:=s)⟩
def mV{lo hi:Option Expr}{tl th:DO}(he:WD X e te)(hl:WDO X lo tl)(hh:WDO X hi th):WD X (.Subscript e (.Slice lo hi none p2) pos) (Tp te tl th):=⟨Dl.mV (he:=he.h) (hl:=hl.h) (hh:=hh.h)⟩
def qW(ha:WD X a ta)(hb:WD X b tb):WD X (.Dict [some a] [b] pos) (tD1 ta tb):=⟨Dl.qW (ha:=ha.h) (hb:=hb.h)⟩
def vo(h:WD X e te)(he:∀whole,isTrue e X.env whole=(do let v ←whole;standAt e.pos;holding [v] (truthy v)):=by intro _;rfl):WDT X e (Tj te):=⟨Dl.vo (h:=h.h) (he:=he)⟩
def vI{ps:Pos}(hc:X.calm=true)(hm:X.mg "min"=none)(ha:WDA X [a] t)(hg:Gl X "min":=by rfl)(he:zS X a []:=by rfl)(hpl:zP X pos []:=by rfl):WD X (.Call (.Name "min" ps) [a] [] pos) (tCl (RW (λi j=>if j<i then j else i) (λM a=>M<=a)) t):=⟨Dl.vI (hc:=hc) (hm:=hm) (ha:=ha.h) (hg:=hg) (he:=he) (hpl:=hpl)⟩
def vB{ps:Pos}(hc:X.calm=true)(hm:X.mg "sum"=none)(ha:WDA X [a] t)(hg:Gl X "sum":=by rfl)(he:zS X a []:=by rfl)(hpl:zP X pos []:=by rfl):WD X (.Call (.Name "sum" ps) [a] [] pos) (tCl J0 t):=⟨Dl.vB (hc:=hc) (hm:=hm) (ha:=ha.h) (hg:=hg) (he:=he) (hpl:=hpl)⟩
end
section
def dz[Gr]{T:String}{x:Str}{e:Expr}{te:DE}{ps pt pos:Pos}(hk:∀t:Value,(t=.type "NoneType"\/t=.type "bool"\/t=.type "int"\/t=.type "str"\/t=.type "list"\/t=.type "tuple"\/t=.type "dict")->∃n,t=.type n/\W.kitOne X.K t (.type T)=some (n == T || (T == "int"&&n == "bool")))(hm:X.mg "isinstance"=none)(he:WD X e te)(hT:WC X (.Name x pt) (.ty T))(hg:Gl X "isinstance":=by rfl)(h1:starEach [e,.Name x pt] X.env=(false,eval e X.env)::starEach [.Name x pt] X.env:=by rfl)(h2:starEach [.Name x pt] X.env=(false,eval (.Name x pt) X.env)::starEach [] X.env:=by rfl)(hpl:(backTo pos (starEach [.Name x pt] X.env)).any (·.1)=false:=by rfl) :
  WD X (.Call (.Name "isinstance" ps) [e,.Name x pt] [] pos) (tIs T te):=⟨Dl.dz hk hm he.h hT.h hg h1 h2 hpl⟩
end
end Wr
set_option autoImplicit false
set_option autoImplicit true
namespace Wr
open PySem L2 PyProof.Rows Dl
section
variable [Gr] {X:Cx}{tj te:DE}
end
section
variable [Gr] {X:Cx}{tj te te1 te2 ta:DE}{t:DS}
end
end Wr
namespace Dl
open PySem L2 PyProof.Rows
section
variable {X:Cx}{pins:List (Addr×Obj)}{σ:L2.St}{H:Hp}{s:Shared}{ok ok':Addr->Prop}
mutual
def Rp.gF(I:Inv X pins σ H s):∀{v:V}{d:D}{u:Value},Rp ok H v d->RelV v u->∃as,Reads s.heap u d as/\∀a∈as,H a≠none
 |_,_,_,.non,r=>by cases r;exact⟨_,.none,λ_ h=>nomatch h⟩
 |_,_,_,.bl b,r=>by cases r;exact⟨_,.bool b,λ_ h=>nomatch h⟩
 |_,_,_,.int i,r=>by obtain⟨t,rfl⟩:=r;exact⟨_,.int i t,λ_ h=>nomatch h⟩
 |_,_,_,.str x,r=>by obtain⟨t,rfl⟩:=r;exact⟨_,.str x t,λ_ h=>nomatch h⟩
 |_,_,_,.lst o h rs,r=>by
  cases r
  obtain⟨its,rv,pl,_⟩:=I.list (SqL.of h)
  obtain⟨as,ra,na⟩:=Rps.gF I rs rv
  obtain⟨ob,ho,hc,n,hd⟩:=pl.isList
  refine⟨_,.list ho hc hd (by simpa using ra),λb hb=>?_⟩
  rcases Ó.mp hb with rfl|hb
  ·rw[h];exact λz=>nomatch z
  ·exact na b hb
 |_,_,_,.tup h rs,r=>by
  cases r
  obtain⟨its,rv,pl,_⟩:=I.tuple (SqT.of h)
  obtain⟨as,ra,na⟩:=Rps.gF I rs rv
  obtain⟨ob,ho,hc,n,hd⟩:=pl
  exact⟨_,.tuple ho hc hd (by simpa using ra),na⟩
 |_,_,_,.dct (a:=a) (kvs:=kvs) (ds:=ds) o h rs,r=>by
  cases r
  obtain⟨_,_,vs,rel,ob,es,ep,ho,hc,hd,_,hp,_⟩:=Ks I.hok h
  obtain⟨as,bs,ra,rb,na⟩:=Rkv.gF I rs rel hp
  refine⟨_,.dict ho hc.1 hd ra rb,λb hb=>?_⟩
  rcases ä.mp hb with hb|hb
  ·rcases Ó.mp hb with rfl|hb
   ·rw[h];exact λz=>nomatch z
   ·exact na b (.inl hb)
  ·exact na b (.inr hb)
 |_,_,_,.dcT (a:=a) o h,r=>by
  cases r
  obtain⟨_,_,xs,rel,ob,es,ep,ho,hc,hd,he,hk,_⟩:=Ko I.hok h
  cases rel with
  |@cons p q ps qs hq t =>
   cases t
   obtain⟨q1,q2,q3⟩:=hq
   obtain⟨ks,c,v⟩:=q
   dsimp only at q1 q2 q3
   subst q1
   have q3:v=.bool true:=q3
   subst q3
   obtain⟨its,rv,pl,_⟩:=I.tuple (SqT.of q2)
   obtain⟨v1,v2,rfl,⟨t1,rfl⟩,⟨t2,rfl⟩⟩:=vals2 rv
   obtain⟨oc,hoc,hcc,n,hdc⟩:=pl
   refine⟨_,.dict ho hc.1 hd (kvs:=[(.tuple [.int 0,.int 1],.bool true)]) (as:=[]) (bs:=[]) ?_ ?_,λb hb=>?_⟩
   ·rw[he]
    exact .cons (as:=[]) (.tuple hoc hcc hdc (.cons (as:=[]) (.int 0 t1) (.cons (as:=[]) (.int 1 t2) .nil))) .nil
   ·rw[he]
    exact .cons (as:=[]) (.bool true) .nil
   ·have hb:b=a:=by simpa using hb
    subst hb
    rw[h]
    exact λz=>nomatch z
def Rps.gF(I:Inv X pins σ H s):∀{v:List V}{d:List D}{u:List Value},Rps ok H v d->Vals v u->∃as,ReadsAll s.heap u d as/\∀a∈as,H a≠none
 |_,_,_,.nil,r=>by cases r;exact⟨[],.nil,λ_ h=>nomatch h⟩
 |_,_,_,.cons h t,r=>by
  cases r with
  |cons a b =>
   obtain⟨as,ra,na⟩:=Rp.gF I h a
   obtain⟨bs,rb,nb⟩:=Rps.gF I t b
   exact⟨_,.cons ra rb,λc hc=>(ä.mp hc).elim (na c) (nb c)⟩
def Rkv.gF(I:Inv X pins σ H s):∀{kvs:List (Key×V)}{ds:List (D×D)}{vs:List (Key×Value)}{es:List DictEntry},Rkv ok H kvs ds->KV kvs vs->Pairs (bC X.prog X.w) es vs->∃as bs,ReadsAll s.heap (es.map (·.key)) (ds.map (·.1)) as/\ReadsAll s.heap (es.map (·.val)) (ds.map (·.2)) bs/\∀a,a∈as\/a∈bs->H a≠none
 |_,_,_,_,.nil,r,p=>by
  cases r
  cases p
  exact⟨[],[],.nil,.nil,λ_ h=>h.elim (λh=>nomatch h) λh=>nomatch h⟩
 |_,_,_,_,.cons h t,r,p=>by
  cases r with
  |cons a b =>
   cases p with
   |cons p1 p2 p3 =>
    obtain⟨a1,a2⟩:=a
    obtain⟨as,bs,ra,rb,nb⟩:=Rkv.gF I t b p3
    obtain⟨cs,rc,nc⟩:=Rp.gF I h a2
    have p1':rM _ _=true:=p1
    rw[←a1] at p1'
    rw[←p2] at rc
    rcases bf p1' with ⟨i,tk,e1,e2⟩|⟨x,tk,e1,e2⟩
    ·refine⟨_,_,.cons (as:=[]) ?_ ra,.cons rc rb,λc hc=>?_⟩
     ·dsimp only at e1 ⊢;rw[e2,e1]
      exact .int i tk
     ·rcases hc with hc|hc
      ·exact nb c (.inl hc)
      ·exact(ä.mp hc).elim (nc c) λz=>nb c (.inr z)
    ·refine⟨_,_,.cons (as:=[]) ?_ ra,.cons rc rb,λc hc=>?_⟩
     ·dsimp only at e1 ⊢;rw[e2,e1]
      exact .str x tk
     ·rcases hc with hc|hc
      ·exact nb c (.inl hc)
      ·exact(ä.mp hc).elim (nc c) λz=>nb c (.inr z)
end
mutual
def Rp.kW(f:∀a o,ok a->((∀xs,o≠.tup xs)/\¬Fxd o)->H a=some o->ok' a):∀{v:V}{d:D},Rp ok H v d->Rp ok' H v d
 |_,_,.non=>.non
 |_,_,.bl b=>.bl b
 |_,_,.int i=>.int i
 |_,_,.str x=>.str x
 |_,_,.lst o h r=>.lst (f _ _ o ⟨(λ_ z=>by cases z),λ⟨_,_,z⟩=>by cases z⟩ h) h (Rps.kW f r)
 |_,_,.tup h r=>.tup h (Rps.kW f r)
 |_,_,.dct o h r=>.dct (f _ _ o ⟨(λ_ z=>by cases z),λ⟨_,_,z⟩=>by cases z⟩ h) h (Rkv.kW f r)
 |_,_,.dcT o h=>.dcT (f _ _ o ⟨(λ_ z=>by cases z),λ⟨_,_,z⟩=>by cases z⟩ h) h
def Rps.kW(f:∀a o,ok a->((∀xs,o≠.tup xs)/\¬Fxd o)->H a=some o->ok' a):∀{v:List V}{d:List D},Rps ok H v d->Rps ok' H v d
 |_,_,.nil=>.nil
 |_,_,.cons h r=>.cons (Rp.kW f h) (Rps.kW f r)
def Rkv.kW(f:∀a o,ok a->((∀xs,o≠.tup xs)/\¬Fxd o)->H a=some o->ok' a):∀{v:List (Key×V)}{d:List (D×D)},Rkv ok H v d->Rkv ok' H v d
 |_,_,.nil=>.nil
 |_,_,.cons h r=>.cons (Rp.kW f h) (Rkv.kW f r)
end
end
def Jm(d:D):Prop:=d.showable=true/\d.depth<=50/\d.shown.length<=sizeLine
def zO(base:Heap):Prop:=∃o,base.get? sysModules=some o
section
variable {X:Cx}{pos:Pos}{a e:Expr}{te:DE}{t:DA} [Gr]
def BR(hS:zO X.base)(hg:X.A.guards=some [])(hu:X.A.units+64<cLine):bJ X (.builtin "repr") (λxs H Q=>∃ok v d,xs=[v]/\Rp ok H v d/\Jm d/\Q (.str d.shown) H):=by
 intro pins s σ H xs us Q I r h
 obtain⟨ok,v,d,rfl,rd,⟨o2,o3,o4⟩,q⟩:=h
 obtain⟨u,rfl,r1⟩:=vals1 r
 have fin:∀(x:Str) (tk:Tok),x=d.shown->EP X pins σ Q (.str x tk) { s with toks:=s.toks+1 }:=λx tk e=>by subst e;exact⟨.str d.shown,H,I.tok _,⟨tk,rfl⟩,q⟩
 have big:∀a,v=.ref a->wpAny (model X.prog X.w) X.A (call (.builtin "repr") [u]) (EP X pins σ Q) X.xe s:=λa ea=>by
  subst ea
  obtain⟨as,ra,na⟩:=rd.gF I r1
  cases r1
  obtain⟨o,ho⟩:=hS
  refine repr_of_reads' (h₀:=s.heap) ra o2 (λ_ hm=>na _ hm (I.bs _ _ ho).2) hg (by omega) (λ_ _ e=>e) (λh' u tk k=>?_) o4
  exact⟨.str d.shown,H,I.kept k,⟨_,rfl⟩,q⟩
 cases rd with
 |non=>cases r1;exact PySem.P.repr_of_none (fin _ _ rfl)
 |bl b=>cases r1;exact PySem.P.repr_of_bool (fin _ _ (by cases b <;> rfl))
 |int i =>
  obtain⟨t,rfl⟩:=r1
  exact PySem.P.repr_of_int (of_decide_eq_true o2) (fin _ _ rfl)
 |str x =>
  obtain⟨t,rfl⟩:=r1
  exact PySem.P.repr_of_str (fin _ _ rfl) o4
 |lst o h rs=>exact big _ rfl
 |tup h rs=>exact big _ rfl
 |dct o h rs=>exact big _ rfl
 |dcT o h=>exact big _ rfl
def J1:GC:=λks P=>∃k d,ks=[(k,d)]/\Jm d/\P .imm (.str d.shown)
def mW{ps:Pos}(hS:zO X.base)(hgd:X.A.guards=some [])(hu:X.A.units+64<cLine)(hm:X.mg "repr"=none)(ha:PDA X [a] t)(hg:Gl X "repr":=by rfl)(he:zS X a []:=by rfl)(hpl:zP X pos []:=by rfl):PD X (.Call (.Name "repr" ps) [a] [] pos) (tCl J1 t) :=
 cj (BR hS hgd hu) (by
  intro p H0 own Hb H vs ks P Q A r t q
  obtain⟨k,d,rfl,o,t⟩:=t
  obtain⟨v,rfl,r'⟩:=fJ r
  exact⟨_,v,d,rfl,r',o,q _ _ _ _ t Kp.refl A.pen (.str _)⟩) hg hm boot_repr ha (by decide) (by decide) he hpl
end
def spR(f:List D->(D->Prop)->Prop):Sp:=λvs H Q _=>∃ok ds P,Rps ok H vs ds/\f ds P/\∀d v H',P d->Same H H'->Rp (λa=>ok a\/H a=none) H' v d->Q v H'
def nq{f:List D->(D->Prop)->Prop}{n:Nat}(hn:∀ds P,f ds P->ds.length=n:=by intro _ _ h;repeat (first|(obtain⟨rfl,_⟩:=h;rfl)|obtain⟨_,h⟩:=h)):∀vs H Q E,spR f vs H Q E->vs.length=n:=λvs H Q E h=>by
 obtain⟨ok,ds,P,r,t,_⟩:=h
 rw[r.length]
 exact hn ds P t
section
variable [Gr]
abbrev DR:=(D->Prop)->List Sl->Prop
structure WishR(p:Pn)(own:Addr->Option Nat)(H:Hp)(P:D->Prop)(Q:Ends):Prop where
 rt:∀d v H',P d->p.PI H'->(∀b o,H b=some o->¬p.fp b->own b=none->H' b=some o)->Rp (λa=>¬p.fp a) H' v d->Q.rt v H'
def Ph(t:DR):TS:=λQ σ H=>∃p H0 own ρ P,EnvD p H0 own σ H ρ/\t P ρ/\WishR p own H P Q
structure WR(X:Cx)(ss:List Stmt)(t:DR):Prop where
 h:PSs X ss (Ph t)
def Qz(te:DE):DR:=λP ρ=>te ρ λ_ d=>P d
def Af(t:DS)(u:DR):DR:=λP ρ=>t { nx:=u P,rt:=λ_=>False } ρ
variable {X:Cx}{pos:Pos}{e:Expr}{te:DE}{st:Stmt}{rest:List Stmt}{t:DS}{u:DR}
def qN(he:Wr.WD X e te):WR X [.Return (some e) pos] (Qz te):=⟨PSs.wk' (gk (lC he.h)) (by
 rintro Q σ H ⟨p,H0,own,ρ,P,E,t,w⟩
 exact⟨p,H0,own,ρ,_,E,t,λk d v H' h A r=>w.rt d v H' h A.pen (λb o e n _=>A.kp b o e n) (r.mono (λa o=>ni A o) (λ_ _ _ e=>e) λ_ _ e=>e)⟩)⟩
def Ls(h1:Wr.WDS X st t)(h2:WR X rest u):WR X (st::rest) (Af t u):=⟨PSs.wk' (qO h1.h h2.h) (by
 rintro Q σ H ⟨p,H0,own,ρ,P,E,t,w⟩
 refine⟨p,H0,own,ρ,_,E,t,⟨λo s h r e g n=>⟨p,H0,o,r,P,e,n,⟨λd v H' hP hI hk rp=>w.rt d v H' hP hI (λb ob e1 n1 o1=>?_) rp⟩⟩,λ_ _ _ n=>n.elim,λ_ _ _ _ _ _ n=>n.elim,λ_ _ _ _ _ _ n=>n.elim⟩⟩
 obtain⟨e2,o2⟩:=g.keep b ob e1 n1 o1
 exact hk b ob e2 n1 o2)⟩
def rR{f:List D->(D->Prop)->Prop}{T:DR}{N:List Str}{vs:List V}{H:Hp}{Q:VK}{E:XK}(h:spR f vs H Q E)(body:∀ds P,f ds P->∃ρ,ds.map bI++È (N.length - ds.length) .any=ρ/\T P ρ)(g:∀p,Gr.G p H:=by intro _;trivial):Ph T { nx:=λ_ H'=>Q .non H',rt:=Q } (L2.start N vs) H:=by
 obtain⟨ok,ds,P,r,t,q⟩:=h
 obtain⟨ρ,e,b⟩:=body ds P t
 let p:Pn:=⟨λa=>¬ok a/\∃o,H a=some o/\(∀xs,o≠.tup xs)/\¬Fxd o,λH'=>∀b o,¬ok b->H b=some o->((∀xs,o≠.tup xs)/\¬Fxd o)->H' b=some o,.non,
  λH1 H2 h1 h2 b o n e1 e2=>h2 b o (.inl ⟨n,o,e1,e2⟩) (h1 b o n e1 e2),λH1 b h1 ⟨n,o,e1,e2⟩=>⟨o,h1 b o n e1 e2,e2⟩⟩
 have E:=kh (p:=p) (N:=N) (g p) (λb o _ e _=>e) (r.mono (ok':=λa=>¬p.fp a) (λa o z=>z.1 o) (λ_ _ _ e=>e) λ_ _ e=>e)
 rw[r.length] at E
 rw[e] at E
 refine⟨p,H,λ_=>none,_,_,E,b,⟨λd v H' hP hI hk rp=>?_⟩⟩
 have sm:Same H H':=λb o e=>by
  by_cases hf:p.fp b
  ·obtain⟨n,o',e1,e2⟩:=hf
   rw[e] at e1
   cases e1
   exact hI b o n e e2
  ·exact hk b o e hf rfl
 refine q d v H' hP sm (rp.kW λa o n1 n2 e1=>?_)
 cases hx:H a with
 |none=>exact .inr rfl
 |some o' =>
  have e2:=sm a o' hx
  rw[e1] at e2
  cases e2
  exact .inl (Ć λz=>n1 ⟨z,o,hx,n2⟩)
def TJ(f:List D->(D->Prop)->Prop)(t:DA):DE:=λρ P=>t ρ λks=>(ks.all λk=>k.1.le .shr)=true/\f (ks.map (·.2)) λd=>P (norm .shr d) d
def CV{p:Pn}{H0 Hb H H2:Hp}{own:Addr->Option Nat}(A:At p H0 own Hb H):∀{vs:List V}{ks:List (Kd×D)},RpK p H0 own Hb H2 vs ks->(ks.all λk=>k.1.le .shr)=true->Rps (okK p H0 own Hb .shr) H2 vs (ks.map (·.2))
 |_,_,.nil,_=>.nil
 |_,_,.cons h t,q=>by
  rw[List.all_cons,Ë] at q
  exact .cons (kI A q.1 h) (CV A t q.2)
variable {k j:Nat}{x:Str}{ps:List Str}{es:List Expr}{ta:DA}{p:Pos}
def dcR{f:List D->(D->Prop)->Prop}(C:Cal X.prog X.w X.K X.mg X.base k x ps (spR f))(hr:Room j X.A)(ha:Wr.WDA X (e::es) ta)(hk:k<=j:=by decide)(hg:Gl X x:=by rfl)(hdb:zB x:=by decide)(he:zS X e es:=by rfl)(hpl:zP X pos es:=by rfl) :
  Wr.WD X (.Call (.Name x p) (e::es) [] pos) (TJ f ta):=⟨PE.wk (pcS C hr ha.h hk hg hdb he hpl) (by
 rintro σ H Q ⟨p,H0,own,ρ,P,E,t,q⟩
 refine⟨p,H0,own,ρ,_,E,t,λks vs H1 h A r=>?_⟩
 show spR f (vs++[]) H1 Q E0
 rw[ø]
 refine⟨_,ks.map (·.2),_,CV A r h.1,h.2,λd v H' h2 s r2=>?_⟩
 have k2:Kp p H1 H':=Kp.of s
 refine q _ d v H' h2 (A.go k2 (p.mono H1 H' A.pen λb o _ e=>s b o e)) (aR ?_)
 refine r2.mono (λa o=>?_) (λ_ _ _ e=>e) λ_ _ e=>e
 rcases o with o|o
 ·exact o
 ·exact bW A (j:=.new) (k:=.shr) rfl (A.free o))⟩
end
end Dl
namespace Wr
open PySem L2 PyProof.Rows Dl
variable [Gr] {X:Cx}{pos:Pos}{a:Expr}{t:DA}
def mW{ps:Pos}(hS:zO X.base)(hgd:X.A.guards=some [])(hu:X.A.units+64<cLine)(hm:X.mg "repr"=none)(ha:WDA X [a] t)(hg:Gl X "repr":=by rfl)(he:zS X a []:=by rfl)(hpl:zP X pos []:=by rfl):WD X (.Call (.Name "repr" ps) [a] [] pos) (tCl J1 t):=⟨Dl.mW hS hgd hu hm ha.h hg he hpl⟩
end Wr
namespace L2
open PySem PySem.Spec PyProof.Rows
def Qu(trs:List (TE×TE)):TE:=λσ H Q=>∀p,H p=none->uT trs σ (upd H p (.dT [])) λps H2=>H2 p=some (.dT [])/\∃(ks:List Key) (b:Addr) (v:V),ps=[(.ref b,v)]/\H2 b=some (.tup (ks.map kV))/\Q (.ref p) (upd H2 p (.dT [(ks,v)]))
def Ir{X:Cx}{pos:Pos}{k v:Expr}{trs:List (TE×TE)}(hu:X.A.units+64<cLine)(h:PPs X pos [some k] [v] trs):PE X (.Dict [some k] [v] pos) (Qu trs):=by
 intro pins s σ H Q I q
 have hn:=I.hok.fresh (É s.heap.objs.size)
 have I1:=I.laid (a:=s.heap.objs.size) (o:=.dT []) (h':=s.heap.push { cls:=.type "dict",data:=.dict #[] }) (t':=s.toks) (λ_ _ q=>Ï _ q) (É _) (Kq s.heap I.big)
 refine wpAny_Dict_any rfl rfl (by intro z;cases z) (by show 1<=15;decide) (thn (h pins _ σ _ _ I1 (q _ hn)) λws s2 ⟨ps,H2,I2,rel,e,ks,b,v,ep,eb,q2⟩=>?_)
 subst ep
 cases rel with
 |@cons a1 w1 as bs hr t =>
  cases t
  obtain⟨w1,w2⟩:=w1
  obtain⟨r1,r2⟩:=hr
  cases (show w1=ğ b from r1)
  obtain⟨z,hd,xs,rel,dd⟩:=Ko I2.hok e
  cases rel
  unfold storeAll
  rw[List.forIn_cons]
  refine Å (Å (wpAny_dictSet_heap (hsz:=by rw[é];exact ô _) (knd:=tupleKind (bC X.prog X.w)) (show _<cLine by omega) (wF I2.hok eb) dd λh' dd' hs=>Ô ?_))
  dsimp only
  rw[List.forIn_nil]
  refine Ô ⟨.ref s.heap.objs.size,_,?_,rfl,q2⟩
  obtain⟨q,es,ep,hq,h2,h3,h4,_,h5⟩:=dd'
  refine qC I2 (by rw[e];exact ŏ) hs ⟨q,hq⟩ ⟨by rw[é];show 1<=16777216;decide,hd,_,.cons ⟨rfl,?_,r2⟩ .nil,q,es,ep,hq,h2,h3,h4,h5⟩
  rw[aq (Pa eb e (λz=>nomatch z))]
  exact eb
end L2
namespace Dl
open PySem L2 PyProof.Rows
variable [Gr] {X:Cx}{a b:Expr}{ta tb:DE}{pos:Pos}
abbrev U4:D:=.dict [(.tuple [.int 0,.int 1],.bool true)]
def TX(ta tb:DE):DE:=λρ P=>ta ρ λ_ d1=>tb ρ λ_ d2=>d1=.tuple [.int 0,.int 1]/\d2=.bool true/\P .new U4
def oK(hu:X.A.units+64<cLine)(ha:PD X a ta)(hb:PD X b tb):PD X (.Dict [some a] [b] pos) (TX ta tb):=PE.wk (Ir hu (jt ha hb vm)) (by
 rintro σ H Q ⟨p,H0,own,ρ,P,E,t,q⟩
 intro c hc
 have A0:=E.at
 obtain⟨k0,i0,nw⟩:=A0.new hc (.dT [])
 have nf:=A0.nfb hc
 refine⟨p,H0,own,ρ,_,E.go k0 i0,t,λk1 d1 v1 H1 t1 A1 r1=>?_⟩
 refine⟨p,H0,own,ρ,_,(E.go k0 i0).go A1.kp A1.pen,t1,λk2 d2 v2 H2 t2 A2 r2=>?_⟩
 have h1:H1 c=some (.dT []):=A1.kp c _ au nf
 have h2:H2 c=some (.dT []):=A2.kp c _ h1 nf
 refine⟨h2,?_⟩
 obtain⟨rfl,rfl,t2⟩:=t2
 obtain⟨b,vs,rfl,hb,rs⟩:=Rp.eN (mH A1 A2.kp r1)
 have e1:vs=[.int 0,.int 1]:=by
  cases rs with
  |cons h1 t1=>cases t1 with
   |cons h2 t2=>cases t2;rw[h1.int',h2.int']
 subst e1
 cases r2
 refine⟨[Ņ 0,Ņ 1],b,.bl true,rfl,hb,?_⟩
 have K:Kp p H (upd H2 c (.dT [([Ņ 0,Ņ 1],.bl true)])):=λx o ex nx=>by
  rw[aq (aD ex hc)]
  exact A2.kp x o (A1.kp x o (by rw[aq (aD ex hc)];exact ex) nx) nx
 have PIf:p.PI (upd H2 c (.dT [([Ņ 0,Ņ 1],.bl true)])):=p.mono H2 _ A2.pen λx o fx ex=>by
  rw[aq (λz:x=c=>fx.elim (λfx=>nf (by rw[←z];exact fx)) λ⟨_,_,y⟩=>by rw[z,h2,y] at ex;cases ex)];exact ex
 exact q _ _ _ _ t2 ⟨A0.k0,K,A0.penb,PIf,A0.ow⟩ (.dcT nw au))
end Dl
namespace Wr
open PySem L2 PyProof.Rows Dl
variable [Gr] {X:Cx}{a b:Expr}{ta tb:DE}{pos:Pos}
def oK(hu:X.A.units+64<cLine)(ha:WD X a ta)(hb:WD X b tb):WD X (.Dict [some a] [b] pos) (TX ta tb):=⟨Dl.oK hu ha.h hb.h⟩
end Wr
namespace L2
open PySem PySem.Spec PyProof.Rows
end L2
namespace Dl
open PySem L2 PyProof.Rows
variable [Gr]
section
variable {X:Cx}{tg:Expr}{pos:Pos}{ta:DA}
end
end Dl
namespace Wr
open PySem L2 PyProof.Rows Dl
variable [Gr] {X:Cx}{pos:Pos}{ta:DA}
end Wr
namespace Dl
open PySem L2 PyProof.Rows
variable [Gr]
section
variable {X:Cx}{pos:Pos}{st:Stmt}{rest:List Stmt}{t u:DS}{te tj t1 t2:DE}
def jO(t u:DS):DS:=λP ρ=>∃M:List Sl->Prop,t { P with nx:=M } ρ/\∀ρ',M ρ'->u P ρ'
end
end Dl
namespace Wr
open PySem L2 PyProof.Rows Dl
section
variable [Gr] {X:Cx}{tj te t1 t2:DE}{t u:DS}
end
end Wr
set_option autoImplicit false
namespace L2
open PySem PySem.Spec PyProof.Rows
section
variable {X:Cx}{k:Nat}{f CF:Addr}{fd:FuncData}{ps:List Str}{sp:Sp}{E:XK}{x hx n:Str}{p np cpos epos hpos pos:Pos}{e:Expr}{es:List Expr}{t:TA}{b₀:Stmt}{suite:List Stmt}{ts:TS}{j:Nat}
end
section
variable {X:Cx}{k:Nat}{f CF:Addr}{fd:FuncData}{ps:List Str}{sp:Sp}{E:XK}{x hx n:Str}{p np cpos epos hpos pos:Pos}{e:Expr}{es:List Expr}{t:TA}{b₀:Stmt}{suite:List Stmt}{ts:TS}{j:Nat}
end
end L2
namespace Dl
open PySem L2 PyProof.Rows
section
variable [Gr] {X:Cx}{pos:Pos}{a:Expr}{t:DA}
end
end Dl
namespace Wr
open PySem L2 PyProof.Rows Dl
section
variable [Gr] {X:Cx}{pos:Pos}{a:Expr}{t:DA}
end
end Wr
namespace Dl
open PySem L2 PyProof.Rows
structure Ext(p q:Pn):Prop where
 pv:q.pv=p.pv
 fp:∀a,p.fp a->q.fp a
 pi:∀H,q.PI H->p.PI H
 go:∀H H',q.PI H->Kp p H H'->p.PI H'->q.PI H'
def CE(C:Pn->Prop)(q:Pn):Prop:=∃p,C p/\Ext p q
section
variable [Gr]
variable {X:Cx}{pos:Pos}{c:Expr}{a rest:List Stmt}{tc:DT}{t u:DR}
variable {k j i:Nat}{x y:Str}{ps:List Str}{es:List Expr}{ta:DA}{pp py:Pos}
end
end Dl
namespace L2
open PySem PySem.Spec PyProof.Rows Builtin
section
variable {X:Cx}
end
end L2
namespace Dl
open PySem L2 PyProof.Rows
section
variable [Gr]
variable {X:Cx}{pos:Pos}{a b e:Expr}{ta tb te:DE}{p1 p2 p3:Pos}
end
end Dl
namespace Wr
open PySem L2 PyProof.Rows Dl
section
variable [Gr] {X:Cx}{pos:Pos}{a b e:Expr}{ta tb te:DE}{p1 p2 p3:Pos}
end
end Wr
namespace L2
open PySem PySem.Spec PyProof.Rows Builtin
section
variable {X:Cx}
end
end L2
namespace Dl
open PySem L2 PyProof.Rows
section
variable [Gr] {X:Cx}{pos p2:Pos}{a b e:Expr}{t:DA}{ta tb te:DE}
end
end Dl
namespace Wr
open PySem L2 PyProof.Rows Dl
section
variable [Gr] {X:Cx}{pos p2:Pos}{a b e:Expr}{t:DA}{ta tb te:DE}
end
end Wr
namespace Dl
open PySem L2 PyProof.Rows
variable [Gr]
section
variable {X:Cx}{st st2:Stmt}{rest:List Stmt}{te1 te2:DE}{tt:DT}{tr:TS}{t:DS}
end
section
variable {X:Cx}{own:List Str}{scope:Scope}{tg iter elt:Expr}{ifs:List Expr}{pos:Pos}{g:DG}{tt:DT}{te:DE}
end
end Dl
namespace Wr
open PySem L2 PyProof.Rows Dl
variable [Gr]
section
variable {X:Cx}{te1 te2:DE}{tt:DT}{tr:TS}{t:DS}
end
end Wr
namespace PySem
open PySem.W PyProof.Rows PySem.Spec
section
variable {prog:Program}{w:World}{A:Around}{E:Value->Shared->Prop}{s:Shared}{it l:Addr}{items:Array Value}
end
end PySem
namespace L2
open PySem PySem.Spec PyProof.Rows
section
variable {X:Cx}
end
end L2
namespace Dl
open PySem L2 PyProof.Rows
section
variable [Gr] {X:Cx}{a:Expr}{t:DA}
end
end Dl
namespace Wr
open PySem L2 PyProof.Rows Dl
section
variable [Gr] {X:Cx}{a:Expr}{t:DA}
end
end Wr
namespace L2
open PySem PyProof.Rows
def Asc(xs:Array Nat):Prop:=xs.toList.Pairwise (·<·)
structure Good(w:World)(t:SetTable):Prop where
 asc:Asc t.place
 dum:t.dummies=#[]
 led:t.led=!w.params.followText "set-order"
section
variable {w:World}{t:SetTable}
end
section
variable {P:Program}{w:World}{A:Around}{E:Value->Shared->Prop}{s:Shared}
end
section
variable {P:Program}{w:World}{A:Around}{R:Result->Shared->Prop}{I:Addr}{fp wr:List Addr}{G:Array GenState->Array GenState->Prop}{n:Nat}{W:Nat->Value->Prop}{St:Nat->Shared->Prop}
end
section
variable {P:Program}{w:World}{A:Around}{E:Value->Shared->Prop}{s:Shared}
end
section
variable {P:Program}{w:World}{A:Around}{E:Value->Shared->Prop}{s:Shared}{I a:Addr}{f:Value}{i n ep:Nat}{o:Obj}{es:Array (Int×Value)}{t:SetTable}
end
section
variable {P:Program}{w:World}{A:Around}{E:Value->Shared->Prop}{s:Shared}
variable {a:Addr}{i ep:Nat}{o:Obj}{es:Array (Int×Value)}{t:SetTable}
end
section
variable {P:Program}{w:World}{A:Around}{E:Value->Shared->Prop}{s:Shared}{I a:Addr}{ep:Nat}{o:Obj}{es:Array (Int×Value)}{t:SetTable}
end
end L2
namespace L2
open PySem PySem.Spec PyProof.Rows
section
variable {P:Program}{w:World}{A:Around}{E:Value->Shared->Prop}{s:Shared}{a:Addr}{S:Int->Bool}{n:Nat}
end
end L2
namespace L2
open PySem PyProof.Rows
section
variable {X:Cx}{pins:List (Addr×Obj)}{σ:List (Option V)}{H:Hp}{s:Shared}
end
end L2
namespace Dl
open PySem L2 PyProof.Rows
variable [Gr]
section
variable {X:Cx}{pos pos':Pos}{a:Expr}{t:DA}
end
end Dl
namespace Wr
open PySem L2 PyProof.Rows Dl
section
variable [Gr] {X:Cx}{pos pos':Pos}{a:Expr}{t:DA}
end
end Wr
namespace L2
open PySem PySem.Spec PyProof.Rows
open PySem.AutoSeq1 (wpAny_loadPart')
open PySem.MeetsSeq PySem.MeetsSeq3
def Bg:List Int->List Int->Bool
 |[],[]=>false
 |[],_::_=>true
 |_::_,[]=>false
 |x::a,y::b=>if x=y then Bg a b else decide (x<y)
def lex_nil(b:List Int):Bg [] b=decide (0<b.length):=by cases b <;> rfl
def ints_get:∀{vs:List Value}{ns:List Int},IntsAre vs ns->∀{i:Nat}{x:Int},ns[i]?=some x->∃t,vs[i]?=some (.int x t)
 |_,_,.nil,i,x,e=>by simp at e
 |_,_,.cons y t r,0,x,e=>by
  have e:some y=some x:=e
  cases e
  exact⟨t,rfl⟩
 |_,_,.cons y t r,i+1,x,e=>by
  obtain⟨t',h⟩:=ints_get r (i:=i) (x:=x) (by simpa using e)
  exact⟨t',by simpa using h⟩
def DN{items:Array Value}{ns:List Int}(h:IntsAre items.toList ns){i:Nat}{x:Int}(hx:ns[i]?=some x):∃t,items[((i:Nat):Int).toNat]?=some (.int x t):=by
 obtain⟨t,e⟩:=ints_get h hx
 exact⟨t,by simpa using e⟩
def Nh(l b:Addr)(items items2:Array Value)(n n2:Nat)(dd dd2:Option Addr)(sl sl2:Array (Option Value))(ns ms:List Int)(h1:IntsAre items.toList ns)(h2:IntsAre items2.toList ms)(k:Nat) :
  ∀i:Nat,i<=ns.length->i<=ms.length->ns.length - i=k->Meets (Builtin.«list.__eq__.loop» ⟨[.ref l,.ref b,rawInt i,rawInt 0],[]⟩)
   (λ_ R s=>s.heap.get? l=some { cls:=.type "list",dict:=dd,data:=.seq items n,slots:=sl }/\s.heap.get? b=some { cls:=.type "list",dict:=dd2,data:=.seq items2 n2,slots:=sl2 } /\
    R (.ok (.ret (.bool (Bg (ns.drop i) (ms.drop i))))) s):=by
 have s1:items.size=ns.length:=by have:=h1.length;simpa using this
 have s2:items2.size=ms.length:=by have:=h2.length;simpa using this
 induction k with
 |zero =>
  intro i i1 i2 hk prog w A R s h
  obtain⟨hp,g,d,tk,os⟩:=s;obtain⟨hl,hb,h⟩:=h
  wp_walk using ĝ hl,ĝ hb
  have hi1:items[((i:Nat):Int).toNat]?=none:=by simp;omega
  rw[hi1]
  have hd:ns.drop i=[]:=List.drop_eq_nil_of_le (by omega)
  rw[hd,lex_nil] at h
  wp_walk using ĝ hl,ĝ hb
  show R (.ok (.ret (.bool (decide (items.size<items2.size))))) _
  have e:decide (items.size<items2.size)=decide (0<(ms.drop i).length):=by
   rw[û]
   exact decide_eq_decide.mpr (by omega)
  rw[e]
  exact h
 |succ k ih =>
  intro i i1 i2 hk prog w A R s h
  obtain⟨hp,g,d,tk,os⟩:=s;obtain⟨hl,hb,h⟩:=h
  wp_walk using ĝ hl,ĝ hb
  have hlt:i<ns.length:=by omega
  have hx:=Ì hlt
  have dx:ns.drop i=ns[i]::ns.drop (i+1):=Ŧ hlt
  rw[dx] at h
  generalize ns[i]=x at hx h
  obtain⟨t,ex⟩:=DN h1 hx
  rw[ex]
  by_cases hlt2:i<ms.length
  ·have hy:=Ì hlt2
   have dy:ms.drop i=ms[i]::ms.drop (i+1):=Ŧ hlt2
   rw[dy] at h
   generalize ms[i]=y at hy h
   obtain⟨u,ey⟩:=DN h2 hy
   rw[ey]
   have hc:((i:Int)+1)=((i+1:Nat):Int):=by push_cast;rfl
   have h:R (.ok (.ret (.bool (if x=y then Bg (ns.drop (i+1)) (ms.drop (i+1)) else decide (x<y))))) _:=h
   refine Å (wpAny_eqBool_int ?_)
   by_cases exy:x=y
   ·subst exy
    rw[if_pos rfl] at h
    rw[beq_self_eq_true]
    wp_walk
    rw[hc]
    exact⟨plainId_quiet plain_eq_loop _,ŷ entry_eq_loop (by
     rw[Around.under_plainId plain_eq_loop _]
     exact ih (i+1) (by omega) (by omega) (by omega) prog w A R _ ⟨hl,hb,h⟩)⟩
   ·rw[if_neg exy] at h
    rw[beq_eq_false_iff_ne.mpr exy]
    wp_walk using ĝ hl,ĝ hb
    rw[ex,ey]
    refine Å ?_
    show wpAny _ _ (compareOp .Lt (.int x t) (.int y u)) _ _ _
    exact PyProof.Rows.lt_int (Ô h)
  ·have hi2:items2[((i:Nat):Int).toNat]?=none:=by simp;omega
   rw[hi2]
   have hd:ms.drop i=[]:=List.drop_eq_nil_of_le (by omega)
   rw[hd] at h
   have h:R (.ok (.ret (.bool false))) _:=h
   wp_walk using ĝ hl,ĝ hb
   show R (.ok (.ret (.bool (decide (items.size<items2.size))))) _
   rw[decide_eq_false (by omega)]
   exact h
def Nm(l b:Addr)(items items2:Array Value)(n n2:Nat)(dd dd2:Option Addr)(sl sl2:Array (Option Value))(ns ms:List Int)(h1:IntsAre items.toList ns)(h2:IntsAre items2.toList ms) :
  Meets (Builtin.«list.__lt__» ⟨[.ref l,.ref b],[]⟩)
   (λ_ R s=>s.heap.get? l=some { cls:=.type "list",dict:=dd,data:=.seq items n,slots:=sl }/\s.heap.get? b=some { cls:=.type "list",dict:=dd2,data:=.seq items2 n2,slots:=sl2 } /\
    R (.ok (.ret (.bool (Bg ns ms)))) s):=by
 intro prog w A R s h
 obtain⟨hp,g,d,tk,os⟩:=s;obtain⟨hl,hb,h⟩:=h
 have f3:=AutoSeq1.sub_list_list
 wp_walk using ĝ hl,ĝ hb
 exact⟨plainId_quiet plain_eq_loop _,ŷ entry_eq_loop (by
  rw[Around.under_plainId plain_eq_loop _]
  exact Nh l b items items2 n n2 dd dd2 sl sl2 ns ms h1 h2 _ 0 (ô _) (ô _) rfl prog w A R _ ⟨hl,hb,h⟩)⟩
def bA:Nat->List Int->Int
 |0,_=>0
 |_+1,[]=>0
 |k+1,x::l=>(x+1) * 64 ^ k+bA k l
def nY(l:List Int):Prop:=l.length<=40/\∀x∈l,0<=x/\x<62
def gO(k:Nat):(0:Int)<64 ^ k:=Int.pow_pos (by decide)
def jH:∀(k:Nat) (l:List Int),(∀x∈l,0<=x/\x<62)->0<=bA k l/\bA k l<64 ^ k
 |0,l,_=>⟨ć _,by show(0:Int)<64 ^ 0;decide⟩
 |k+1,[],_=>⟨ć _,gO _⟩
 |k+1,x::l,h=>by
  obtain⟨h1,h2⟩:=jH k l λy hy=>h y (Ä _ hy)
  have hx:=h x À
  have p:=gO k
  have e:(64:Int) ^ (k+1)=64 ^ k * 64:=Int.pow_succ ..
  show 0<=(x+1) * 64 ^ k+bA k l/\(x+1) * 64 ^ k+bA k l<64 ^ (k+1)
  rw[e]
  generalize (64:Int) ^ k=M at *
  have a1:0<=(x+1) * M:=Int.mul_nonneg (by omega) (by omega)
  have a2:(x+1) * M<=62 * M:=Int.mul_le_mul_of_nonneg_right (by omega) (by omega)
  omega
def yN:∀(k:Nat) (a b:List Int),a.length<=k->b.length<=k->(∀x∈a,0<=x/\x<62)->(∀x∈b,0<=x/\x<62)->Bg a b=decide (bA k a<bA k b)
 |0,[],[],_,_,_,_=>rfl
 |k+1,[],[],_,_,_,_=>rfl
 |k+1,[],y::b,_,_,_,hb=>by
  have h1:=(jH k b λz hz=>hb z (Ä _ hz)).1
  have hy:=hb y À
  have p:=gO k
  have e:(0:Int)<(y+1) * 64 ^ k+bA k b:=by
   have:0<(y+1) * 64 ^ k:=Int.mul_pos (by omega) p
   omega
  exact(decide_eq_true e).symm
 |k+1,x::a,[],_,_,ha,_=>by
  have h1:=(jH k a λz hz=>ha z (Ä _ hz)).1
  have hx:=ha x À
  have p:=gO k
  have e:¬(x+1) * 64 ^ k+bA k a<0:=by
   have:0<(x+1) * 64 ^ k:=Int.mul_pos (by omega) p
   omega
  exact(decide_eq_false e).symm
 |k+1,x::a,y::b,la,lb,ha,hb=>by
  have ih:=yN k a b (by simpa using la) (by simpa using lb) (λz hz=>ha z (Ä _ hz)) λz hz=>hb z (Ä _ hz)
  have h1:=jH k a λz hz=>ha z (Ä _ hz)
  have h2:=jH k b λz hz=>hb z (Ä _ hz)
  have p:=gO k
  show(if x=y then Bg a b else decide (x<y))=decide ((x+1) * 64 ^ k+bA k a<(y+1) * 64 ^ k+bA k b)
  generalize (64:Int) ^ k=M at *
  by_cases e:x=y
  ·subst e
   rw[if_pos rfl,ih]
   exact decide_eq_decide.mpr (by omega)
  ·rw[if_neg e]
   refine decide_eq_decide.mpr ⟨λh=>?_,λh=>?_⟩
   ·have a2:(x+1+1) * M<=(y+1) * M:=Int.mul_le_mul_of_nonneg_right (by omega) (by omega)
    have a3:(x+1+1) * M=(x+1) * M+M:=by rw[Int.add_mul (x+1) 1 M,Int.one_mul]
    omega
   ·by_cases hlt:x<y
    ·exact hlt
    ·have a2:(y+1+1) * M<=(x+1) * M:=Int.mul_le_mul_of_nonneg_right (by omega) (by omega)
     have a3:(y+1+1) * M=(y+1) * M+M:=by rw[Int.add_mul (y+1) 1 M,Int.one_mul]
     omega
 |0,_::_,_,h,_,_,_=>absurd h (Nat.not_succ_le_zero _)
 |0,[],_::_,_,h,_,_=>absurd h (Nat.not_succ_le_zero _)
def je(h:Heap)(u:Value)(l:List Int):Prop:=∃a o its n,u=.ref a/\h.get? a=some o/\o.cls=.type "list"/\o.data=.seq its n/\IntsAre its.toList l
def je.keep{h h':Heap}{u:Value}{l:List Int}(x:je h u l)(k:∀a o,u=.ref a->h.get? a=some o->h'.get? a=some o):je h' u l:=by
 obtain⟨a,o,its,n,e,ho,hc,hd,hi⟩:=x
 exact⟨a,o,its,n,e,k a o e ho,hc,hd,hi⟩
def Ur{α β:Type}{F G:α->β->Prop}{l₁:List α}{l₂:List β}(h:Paired F l₁ l₂)(f:∀a b,a∈l₁->F a b->G a b):Paired G l₁ l₂:=by
 induction h with
 |nil=>exact .nil
 |cons r t ih=>exact .cons (f _ _ À r) (ih λa b ha x=>f a b (Ä _ ha) x)
def Uq{α β:Type}{F:α->β->Prop}{l₁:List α}{l₂:List β}(h:Paired F l₁ l₂):∀{a:α},a∈l₁->∃b,b∈l₂/\F a b:=by
 induction h with
 |nil=>intro a ha;cases ha
 |cons r t ih =>
  intro a ha
  rcases Ó.mp ha with rfl|ha
  ·exact⟨_,À,r⟩
  ·obtain⟨b,hb,x⟩:=ih ha
   exact⟨b,Ä _ hb,x⟩
section
variable {prog:Program}{w:World}{A:Around}{E:Value->Shared->Prop}{s:Shared}
def Bd{M:Model}{us:List Value}{ts:List (List Int)}(hp:Paired (je s.heap) us ts)(v:Value)(hv:v∈us):W.Looks M s.heap (typeOf v) (.type "list"):=by
 obtain⟨l,_,a,o,its,n,rfl,ho,hc,_⟩:=Uq hp hv
 exact W.kitAt_ty M _ ⟨o,ho,hc⟩
def Jy{us:List Value}{ts:List (List Int)}(hp:Paired (je s.heap) us ts){u:Value}(hv:u∈us):u≠.ref (s.heap.objs.size+1):=by
 obtain⟨l,_,a,o,its,n,rfl,ho,hc,_⟩:=Uq hp hv
 intro z
 have z:a=s.heap.objs.size+1:=by injection z
 rw[z] at ho
 exact absurd (Î ho) (Nat.not_lt.mpr (ĸ _))
def Jx{x y:Value}{a b:List Int}{Q:Bool->Shared->Prop}(hu:A.units<cLine)(hx:je s.heap x a)(hy:je s.heap y b)(na:nY a)(nb:nY b)(h:Q (decide (bA 40 a<bA 40 b)) s):wpAny (model prog w) A (keyLt' oneType' x y) Q E s:=by
 obtain⟨p,⟨c1,d1,e1,f1⟩,its,n,rfl,ho,hc,hd,hi⟩:=hx
 obtain⟨p',⟨c2,d2,e2,f2⟩,its',n',rfl,ho',hc',hd',hi'⟩:=hy
 simp only at hc hd hc' hd'
 subst hc hd hc' hd'
 rw[←yN 40 a b na.1 nb.1 na.2 nb.2] at h
 rw[keyLt'_oneType,oneLt'_eq]
 simp only[if_true]
 refine Å (wpAny_cRoomFor hu ?_)
 refine Å (wpAny_callSpecialIfBound?_slot ⟨_,ho,rfl⟩ PySem.F.slot_list_lt (call_meets PySem.F.slot_list_lt ⟨_,ho,rfl⟩ PySem.F.entry_list_lt (PySem.F.args_list_lt_2 _ _) (Nm p p' its its' n n' d1 d2 f1 f2 a b hi hi') ⟨ho,ho',?_⟩))
 exact Į h
def Ac{a:Addr}{us:List Value}{ts:List (List Int)}{n:Nat}{P:PySem.Fin->Shared->Prop}(ho:s.heap.get? a=some (seqObj "list" us.toArray n))(hp:Paired (je s.heap) us ts)(hna:∀u∈us,u≠.ref a)(hu:A.units<cLine)(hn:∀t∈ts,nY t)(h64:us.length<64)(h:∀p:List Nat,p.Perm (Û us.length)->(∀i j,i<=j->j<us.length->bA 40 (ts.getD (p.getD i 0) [])<=bA 40 (ts.getD (p.getD j 0) [])) ->
   P (.done (.ret .none)) { s with heap:=sortedHeap s.heap a us (p.map λi=>us.getD i đ).toArray }) :
  wpAny (model prog w) A (Builtin.«list.sort» ⟨[.ref a],[]⟩) P E s:=by
 have hlen:=hp.length
 have h24:=é
 rw[list_sort_plain]
 have ha:a<s.heap.objs.size:=Î ho
 refine Å (listItems_at ho rfl ?_)
 refine Å (ŵ ho rfl ?_ (by rw[Ñ,é];omega) (ô _))
 obtain⟨e1,ho1⟩:∃e1,(s.heap.update a (à λ_=>(#[]:Array Value))).get? a=some (seqObj "list" #[] e1):=⟨_,get?_update_seq ho (λ_=>#[])⟩
 refine Å (seqEpoch_at ho1 rfl ?_)
 refine Å (wpAny_newTuple ?_ (by show us.length<=_;rw[é];omega))
 refine Å (wpAny_newList ?_ (ô _))
 refine ņ ?_
 have ho6:(((s.heap.update a (à λ_=>(#[]:Array Value))).push (seqObj "tuple" us.toArray 0)).push (seqObj "list" #[] 0)).get? a=some (seqObj "list" #[] e1):=by
  rw[Đ _ _ _ (by rw[size_push',ď];exact á (Ă ha)),Đ _ _ _ (by rw[ď];exact á ha)]
  exact ho1
 have kept:∀b o,s.heap.get? b=some o->b≠a->(((s.heap.update a (à λ_=>(#[]:Array Value))).push (seqObj "tuple" us.toArray 0)).push (seqObj "list" #[] 0)).get? b=some o:=λb o q hne=>by
  have hlt:b<s.heap.objs.size:=Î q
  rw[Đ _ _ _ (by rw[size_push',ď];exact á (Ă hlt)),Đ _ _ _ (by rw[ď];exact á hlt),Heap.get?_update_ne _ _ _ _ hne]
  exact q
 show wpAny (model prog w) A _ P E { s with heap:=((s.heap.update a (à λ_=>(#[]:Array Value))).push (seqObj "tuple" us.toArray 0)).push (seqObj "list" #[] 0) }
 dsimp only
 have hsz:us.toArray.size=us.length:=by simp
 have hp6:Paired (je (((s.heap.update a (à λ_=>(#[]:Array Value))).push (seqObj "tuple" us.toArray 0)).push (seqObj "list" #[] 0))) us ts:=Ur hp λu t hm x=>x.keep λb o ub q=>kept b o q λz=>hna u hm (by rw[ub,z])
 by_cases h2:us.toArray.size<2
 ·rw[if_pos h2,if_pos h2]
  refine Å (Ô ?_)
  rw[StateT.run_pure]
  refine Å (Ô ?_)
  dsimp only
  have eout:(arrOf (SortSt.mk' general' (us.toArray.zip us.toArray) #[] 7 none)).map (·.2)=((Û us.length).map λi=>us.getD i đ).toArray:=by
   rw[dI]
   show(us.toArray.zip us.toArray).map (·.2)=us.toArray
   apply Array.toList_inj.mp
   simp
   exact Qw us
  rw[eout]
  refine Å (seqEpoch_at ho6 rfl ?_)
  refine Å (ŵ ho6 rfl ?_ (ô _) (by rw[Ñ,Á,Ō,é];omega))
  simp only[bne_self_eq_false,ģ,if_false]
  refine Ô (h _ (List.Perm.refl _) λi j hij hj=>?_)
  have:i=j:=by omega
  subst this
  exact ć _
 ·rw[if_neg h2,if_neg h2]
  have h2':2<=us.length:=by omega
  refine Å (W.kas_kind (T:=.type "list") h2' (λv hv=>Bd (s:={ s with heap:=((s.heap.update a (à λ_=>(#[]:Array Value))).push (seqObj "tuple" us.toArray 0)).push (seqObj "list" #[] 0) }) hp6 v hv) rfl rfl ?_)
  have hcmp:∀i j C,i<us.length->j<us.length->C (decide (bA 40 (ts.getD i [])<bA 40 (ts.getD j []))) { s with heap:=((s.heap.update a (à λ_=>(#[]:Array Value))).push (seqObj "tuple" us.toArray 0)).push (seqObj "list" #[] 0) } ->
    W.kas_cmp prog w A (oneType') (us.toArray.zip us.toArray) i j C { s with heap:=((s.heap.update a (à λ_=>(#[]:Array Value))).push (seqObj "tuple" us.toArray 0)).push (seqObj "list" #[] 0) }:=λi j C hi hj hC=>by
   unfold W.kas_cmp
   rw[W.kat_item rfl,W.kat_item rfl]
   have key:∀k,k<us.length->je (((s.heap.update a (à λ_=>(#[]:Array Value))).push (seqObj "tuple" us.toArray 0)).push (seqObj "list" #[] 0)) (us.getD k đ) (ts.getD k [])/\nY (ts.getD k []):=λk hk=>by
    have hk':k<ts.length:=by omega
    have ek:ts.getD k []=ts[k]:=by simp[hk']
    obtain⟨u,eu,pu⟩:=QM hp6 (i:=k) (b:=ts[k]) (by simp[hk'])
    have eu':us.getD k đ=u:=by rw[Ê,eu];rfl
    rw[ek,eu']
    exact⟨pu,hn _ (Ħ hk')⟩
   exact Jx hu (key i hi).1 (key j hj).1 (key i hi).2 (key j hj).2 hC
  have G:=W.kas_runs (prog:=prog) (w:=w) (A:=A) (E:=E) (κ:=oneType') (it:=us.toArray.zip us.toArray) (n:=us.length) (s:={ s with heap:=((s.heap.update a (à λ_=>(#[]:Array Value))).push (seqObj "tuple" us.toArray 0)).push (seqObj "list" #[] 0) })
   (Q:=λ_ st' s'=>∃p:Array Nat,s'={ s with heap:=((s.heap.update a (à λ_=>(#[]:Array Value))).push (seqObj "tuple" us.toArray 0)).push (seqObj "list" #[] 0) }/\arrOf st'=p.map (W.kas_item (us.toArray.zip us.toArray))/\failedOf st'=none/\NfSort.Pm us.length p/\NfSort.Up (λi=>bA 40 (ts.getD i [])) p us.length)
   (G:=λp s'=>s'={ s with heap:=((s.heap.update a (à λ_=>(#[]:Array Value))).push (seqObj "tuple" us.toArray 0)).push (seqObj "list" #[] 0) }/\NfSort.Pm us.length p/\NfSort.Up (λi=>bA 40 (ts.getD i [])) p us.length) h2' h64 (λp' st' s' a1 a2 a3 a4=>⟨p',a4.1,a2,a3,a4.2⟩)
   (NfSort.ql hcmp (NfSort.bH (λp hp=>⟨rfl,hp⟩) (NfSort.Cz (by omega))))
  have est:SortSt.mk' (oneType') (us.toArray.zip us.toArray) #[] 7 none=W.kas_st (oneType') (us.toArray.zip us.toArray) (ĵ (Û us.length)):=by
   have e:=W.kas_range (us.toArray.zip us.toArray)
   rw[show(us.toArray.zip us.toArray).size=us.length by simp] at e
   show SortSt.mk' (oneType') (us.toArray.zip us.toArray) #[] 7 none=SortSt.mk' (oneType') ((ĵ (Û us.length)).map (W.kas_item (us.toArray.zip us.toArray))) #[] 7 none
   rw[e]
  rw[est]
  refine Å (į G ?_ λ_ _ e=>e)
  rintro⟨⟨⟩,st'⟩ s' ⟨p,rfl,har,hf,hpm,hup⟩
  dsimp only
  have hout:=W.kat_snds (ks:=us) (vs:=us) rfl har
  rw[hout]
  have hsz2:p.size=us.length:=hpm.size
  refine Å (seqEpoch_at ho6 rfl ?_)
  refine Å (ŵ ho6 rfl ?_ (ô _) (by rw[Ñ,Á,Ī,hsz2,é];omega))
  rw[hf]
  simp only[bne_self_eq_false,ģ,if_false]
  refine Ô (h p.toList ?_ λi j hij hj=>?_)
  ·have:=Array.perm_iff_toList_perm.mp hpm
   simpa using this
  ·have q:=hup i j hij hj
   unfold NfSort.kk at q
   have eg:∀k,p.toList.getD k 0=p.getD k 0:=λk=>by
    rw[NfSort.getD_eq,Ê]
    simp
   rw[eg,eg]
   exact q
def uZ{l:Addr}{us:List Value}{ts:List (List Int)}{Q:Value->Shared->Prop}(hl:s.heap.IsList l us.toArray\/IsTup s.heap l us.toArray)(hu:A.units+8<cLine)(hp:Paired (je s.heap) us ts)(hn:∀t∈ts,nY t)(h64:us.length<64)(h:∀p:List Nat,p.Perm (Û us.length)->(∀i j,i<=j->j<us.length->bA 40 (ts.getD (p.getD i 0) [])<=bA 40 (ts.getD (p.getD j 0) [])) ->
   Q (.ref (s.heap.objs.size+1)) { s with heap:=sortedAll s.heap us (p.map λi=>us.getD i đ).toArray }) :
  wpAny (model prog w) A (call (.builtin "sorted") [.ref l]) Q E s:=by
 have h24:=é
 refine Calls.call_function_entry kind_sorted plain_sorted entry_sorted (args_sorted1 _) ?_
 unfold Builtin.«sorted»
 refine Å (m:=checkCount "sorted" 1 1 _) (Ô ?_)
 have hsz:((s.heap.push (seqObj "list" #[] 0)).update s.heap.objs.size (à (·++us.toArray))).objs.size=s.heap.objs.size+1:=by
  rw[ď,size_push']
 have hoL:(((s.heap.push (seqObj "list" #[] 0)).update s.heap.objs.size (à (·++us.toArray))).push (seqObj "list" us.toArray 0)).get? (s.heap.objs.size+1)=some (seqObj "list" us.toArray 0):=by
  rw[←hsz];exact ß _ rfl
 have keep:∀b o,s.heap.get? b=some o->(((s.heap.push (seqObj "list" #[] 0)).update s.heap.objs.size (à (·++us.toArray))).push (seqObj "list" us.toArray 0)).get? b=some o:=λb o q=>by
  have hlt:b<s.heap.objs.size:=Î q
  rw[Đ _ _ _ (by rw[hsz];exact á (Ă hlt)),Heap.get?_update_ne _ _ _ _ (á hlt),Đ _ _ _ (á hlt)]
  exact q
 have go:∀{Q':List Value->Shared->Prop},Q' us { s with heap:=(s.heap.push (seqObj "list" #[] 0)).update s.heap.objs.size (à (·++us.toArray)) }->wpAny (model prog w) A.in1 (collect (.ref l)) Q' (λe s'=>E e s') s:=λ{Q'} hq=>by
  rcases hl with hl|hl
  ·exact collect_list hl hq (by omega)
  ·exact jR hl hq (by omega)
 refine Å (go ?_)
 refine Å (wpAny_newList ?_ (by omega))
 show wpAny _ _ _ _ _ { s with heap:=((s.heap.push (seqObj "list" #[] 0)).update s.heap.objs.size (à (·++us.toArray))).push (seqObj "list" us.toArray 0) }
 rw[hsz]
 refine Å (ņ (wpAny_call_entry slot_list_sort ⟨_,hoL,rfl⟩ entry_list_sort (Ac hoL (Paired.Ba hp λu t x=>x.keep λa o _ e=>keep a o e) (λu hm=>Jy hp hm) (by simp only[Around.in1_units];omega) hn h64 λp a1 a2=>⟨_,rfl,?_⟩) (args_list_sort _)))
 exact Ô ⟨_,rfl,h p a1 a2⟩
end
section
variable {X:Cx}
def uX{ts:List (List Int)}{p:List Nat}(hp:p.Perm (Û ts.length))(h:∀i j,i<=j->j<ts.length->bA 40 (ts.getD (p.getD i 0) [])<=bA 40 (ts.getD (p.getD j 0) [])) :
  (p.map λi=>ts.getD i []).Perm ts/\(p.map λi=>ts.getD i []).Pairwise (λa b=>bA 40 a<=bA 40 b):=by
 refine⟨?_,?_⟩
 ·have q:=hp.map λi=>ts.getD i []
  rw[dI] at q
  exact q
 ·have hl:p.length=ts.length:=by simpa using hp.length_eq
  rw[List.pairwise_iff_getElem]
  intro i j hi hj hij
  rw[Á] at hi hj
  have q:=h i j (by omega) (by omega)
  have ei:p.getD i 0=p[i]:=by simp[hi]
  have ej:p.getD j 0=p[j]:=by simp[hj]
  rw[ei,ej] at q
  simpa using q
def w5(hu:X.A.units+64<cLine):bJ X (.builtin "sorted") (λxs H Q=>∃(p:Addr) (vs:List V) (ts:List (List Int)) (F:V->List Int->Prop),xs=[.ref p]/\SqL X.K H p vs/\Paired F vs ts/\(∀v l,F v l->∃a,v=.ref a/\H a=some (.lst (l.map V.int)))/\(∀t∈ts,nY t)/\ts.length<64 /\
  ∀l ws us,H l=none->Paired F ws us->us.Perm ts->us.Pairwise (λa b=>bA 40 a<=bA 40 b)->Q (.ref l) (upd H l (.lst ws))):=by
 intro pins s σ H xs us Q I r h
 obtain⟨p,vs,ts,F,rfl,hp,hpr,hF,hn,h64,q⟩:=h
 obtain⟨u,rfl,rx⟩:=vals1 r
 cases rx
 have h24:=é
 have lists:∀{vs:List V}{ts:List (List Int)}{us:List Value},Paired F vs ts->Vals vs us->Paired (je s.heap) us ts:=by
  intro vs ts us h
  induction h generalizing us with
  |nil=>intro r;cases r;exact .nil
  |cons x t ih =>
   intro r
   cases r with
   |cons r1 r2 =>
    refine .cons ?_ (ih r2)
    obtain⟨a,rfl,ha⟩:=hF _ _ x
    cases r1
    obtain⟨its,rv,pl,hz⟩:=I.list (SqL.of ha)
    obtain⟨o,ho,hc,n,hd⟩:=pl.isList
    exact⟨a,o,its.toArray,n,rfl,ho,hc,hd,intsAre_of rv⟩
 obtain⟨its,rv,pl,hz⟩:=I.list hp
 have hpv:=lists hpr rv
 have hlen:=hpr.length
 have hlen2:=rv.length
 refine uZ (.inl pl.isList) (by omega) hpv hn (by omega) λpp hpp hord=>?_
 have eits:its.length=ts.length:=by omega
 rw[eits] at hpp hord
 obtain⟨hperm,hpw⟩:=uX hpp hord
 have hlt:∀i∈pp,i<ts.length:=λi hi=>ċ.mp (hpp.mem_iff.mp hi)
 have hw:=yj hpr V.non [] pp hlt
 have hvv:Vals (pp.map λi=>vs.getD i V.non) (pp.map λi=>its.getD i đ):=yj rv V.non đ pp λi hi=>by have:=hlt i hi;omega
 obtain⟨e,he⟩:=sortedAll_at s.heap its (pp.map λi=>its.getD i đ).toArray
 refine⟨.ref (s.heap.objs.size+1),upd H (s.heap.objs.size+1) (.lst (pp.map λi=>vs.getD i V.non)),I.laid (t':=s.toks) (λb o eb=>sortedAll_old eb) (ĸ _) ?_,rfl,q _ _ _ (I.hok.fresh (ĸ _)) hw hperm hpw⟩
 refine⟨?_,_,e,hvv,he⟩
 have hl3:pp.length=ts.length:=by simpa using hpp.length_eq
 rw[Á]
 omega
end
end L2
namespace Dl
open PySem L2 PyProof.Rows
section
variable {X:Cx}{pos:Pos}{a:Expr}{t:DA} [Gr]
def wL:GC:=λks P=>match ks with
 |[(k,.list ds)]=>∃ls:List (List Int),ds=ls.map iD/\ls.length<64/\(∀l∈ls,nY l)/\∀out:List (List Int),out.Perm ls->out.Pairwise (λa b=>bA 40 a<=bA 40 b)->P (k.join .new) (.list (out.map iD))
 |_=>False
def xX{ok:Addr->Prop}{H:Hp}:∀{vs:List V}{ls:List (List Int)},Rps ok H vs (ls.map iD)->Paired (λv l=>Rp ok H v (iD l)) vs ls
 |[],[],_=>.nil
 |_,l::ls,.cons h r=>.cons h (xX r)
def yr{ok:Addr->Prop}{H:Hp}:∀{vs:List V}{ls:List (List Int)},Paired (λv l=>Rp ok H v (iD l)) vs ls->Rps ok H vs (ls.map iD)
 |_,_,.nil=>.nil
 |_,_,.cons h r=>.cons h (yr r)
def qT{ps:Pos}(hu:X.A.units+64<cLine)(hm:X.mg "sorted"=none)(ha:PDA X [a] t)(hg:Gl X "sorted":=by rfl)(he:zS X a []:=by rfl)(hpl:zP X pos []:=by rfl):PD X (.Call (.Name "sorted" ps) [a] [] pos) (tCl wL t) :=
 cj (w5 hu) (by
  intro p H0 own Hb H vs ks P Q A r t q
  unfold wL at t
  split at t
  ·rename_i k ds
   obtain⟨ls,rfl,hl,hn,t⟩:=t
   obtain⟨v,rfl,r'⟩:=fJ r
   obtain⟨x,xs,e1,o1,h1,rs1⟩:=Rp.cN r'
   subst e1
   refine⟨x,xs,ls,λv l=>Rp (okK p H0 own Hb k) H v (iD l),rfl,SqL.of h1,xX rs1,λv l h=>?_,hn,hl,λl ws us hl' hw hp hs=>?_⟩
   ·obtain⟨b,zs,rfl,_,hb,rz⟩:=Rp.cN h
    have e:=Rps.ints rz
    subst e
    exact⟨b,rfl,hb⟩
   ·obtain⟨k2,i2,nw⟩:=A.new hl' (.lst ws)
    have j:=eX k .new
    exact q _ _ _ _ (t us hp hs) k2 i2 (.lst (bW A j.2 nw) au ((cL A k2 (yr hw)).mono (λa o=>bW A j.1 o) (λ_ _ _ e=>e) λ_ _ e=>e))
  ·exact t.elim) hg hm boot_sorted ha (by decide) (by decide) he hpl
end
end Dl
namespace L2
open PySem PySem.Spec PyProof.Rows
section
variable {prog:Program}{w:World}{A:Around}{E:Value->Shared->Prop}{s:Shared}
end
section
variable {X:Cx}
end
end L2
namespace Dl
open PySem L2 PyProof.Rows
section
variable {X:Cx}{pos:Pos}{a e:Expr}{t:DA} [Gr]
end
end Dl
namespace L2
open PySem PySem.Spec PyProof.Rows
open AutoSeq1 in
section
variable {X:Cx}
end
end L2
namespace Dl
open PySem L2 PyProof.Rows
variable [Gr]
section
variable {X:Cx}{st:Stmt}{te:DE}{pos:Pos}{ta:DA}
end
end Dl
namespace Wr
open PySem L2 PyProof.Rows Dl
section
variable [Gr] {X:Cx}{pos:Pos}{a:Expr}{ta t:DA}{te:DE}
def qT{ps:Pos}(hu:X.A.units+64<cLine)(hm:X.mg "sorted"=none)(ha:WDA X [a] t)(hg:Gl X "sorted":=by rfl)(he:zS X a []:=by rfl)(hpl:zP X pos []:=by rfl):WD X (.Call (.Name "sorted" ps) [a] [] pos) (tCl wL t):=⟨Dl.qT hu hm ha.h hg he hpl⟩
end
end Wr
namespace Dl
open PySem L2 PyProof.Rows
variable [Gr]
section
variable {X:Cx}{st st2:Stmt}{rest:List Stmt}{tj te1 te2:DE}{tt:DT}{t:DS}{K:Ú}
end
end Dl
namespace Wr
open PySem L2 PyProof.Rows Dl
section
variable [Gr] {X:Cx}{tj te1 te2:DE}
end
end Wr
namespace Dl
open PySem L2 PyProof.Rows
variable [Gr]
section
variable {X:Cx}{st st2:Stmt}{rest:List Stmt}{te:DE}{t:DS}
end
end Dl
namespace Wr
open PySem L2 PyProof.Rows Dl
section
variable [Gr] {X:Cx}{te:DE}
end
end Wr
set_option autoImplicit true
namespace Dl
open PySem L2 PyProof.Rows
def sV(a:Addr)(n:Nat):Pn where
 fp:=λb=>b=a
 PI:=λH=>∃x y c:Int,H a=some (.lst [.int x,.int y,.int c])/\0<=c/\c+(n:Int)<=1152921504606846976
 pv:=.ref a
 mono:=λH H' ⟨x,y,c,h,r⟩ k=>⟨x,y,c,k _ _ (.inl rfl) h,r⟩
 is:=λH b ⟨x,y,z,h,_⟩ hb=>by
  subst hb
  exact⟨_,h,(λxs z=>(nomatch z)),λ⟨_,_,z⟩=>(nomatch z)⟩
def TP:Pn->Prop:=λ_=>True
def Wg:Sl->Sl
 |.pen _=>.pen TP
 |s=>s
def stp(ρ:List Sl):List Sl:=ρ.map Wg
variable {X:Cx}{a:Addr}{n m m1 m2 m3:Nat}{H0 Hb H H1 H':Hp}{own:Addr->Option Nat}{σ:L2.St}{ρ:List Sl}
structure EnvB(a:Addr)(n m:Nat)(H0:Hp)(own:Addr->Option Nat)(σ:L2.St)(H:Hp)(ρ:List Sl):Prop where
 st:stp ρ=ρ
 pi:(sV a (n+m)).PI H
 env:EnvD (sV a n) H0 own σ H ρ
def RD(m:Nat)(t:DE):TE:=λσ H Q=>∃a n H0 own ρ P,EnvB a n m H0 own σ H ρ/\t ρ P/\∀k d v H',P k d->At (sV a n) H0 own H H'->Rp (okK (sV a n) H0 own H k) H' v d->Q v H'
def RG(m:Nat)(t:DA):TA:=λσ H Q=>∃a n H0 own ρ P,EnvB a n m H0 own σ H ρ/\t ρ P/\∀ks vs H',P ks->At (sV a n) H0 own H H'->RpK (sV a n) H0 own H H' vs ks->Q vs H'
def Bf(m:Nat)(t:DT):TT:=λσ H Q=>∃a n H0 own ρ P,EnvB a n m H0 own σ H ρ/\t ρ P/\∀b H',P b->At (sV a n) H0 own H H'->Q b H'
def RB(m:Nat)(t:DI):TI:=λσ H R=>∃a n H0 own ρ P,EnvB a n m H0 own σ H ρ/\t ρ P/\∀k ds J H1 Ok,P k ds->At (sV a n) H0 own H H1->Wlk Ok J ds (okA (sV a n) H0 own H k H1)->Ok H1->R J H1
def JH(m:Nat)(t:DS):TS:=λQ σ H=>∃a n H0 own ρ P,EnvB a n m H0 own σ H ρ/\t P ρ/\Wish (sV a n) H0 own H P Q
end Dl
namespace Wb
open PySem L2 PyProof.Rows Dl Wr
structure BE(X:Cx)(m:Nat)(e:Expr)(t:DE):Prop where
 h:PE X e (RD m t)
structure BA(X:Cx)(m:Nat)(e:List Expr)(t:DA):Prop where
 h:PA X e (RG m t)
structure BT(X:Cx)(m:Nat)(e:Expr)(t:DT):Prop where
 h:PT X e (Bf m t)
structure BW(X:Cx)(m:Nat)(e:Expr)(t:DT):Prop where
 h:PW X e (Bf m t)
structure BTs(X:Cx)(m:Nat)(e:List Expr)(t:DT):Prop where
 h:PTs X e (Bf m t)
structure BI(X:Cx)(m:Nat)(tg e:Expr)(t:DI):Prop where
 h:PI X tg e (RB m t)
structure BS(X:Cx)(m:Nat)(s:Stmt)(t:DS):Prop where
 h:PS X s (JH m t)
structure BSs(X:Cx)(m:Nat)(s:List Stmt)(t:DS):Prop where
 h:PSs X s (JH m t)
variable {X:Cx}{n m m1 m2 m3:Nat}{H0 Hb H H1 H':Hp}{own:Addr->Option Nat}{σ:L2.St}{ρ:List Sl}{pos:Pos}{a b e:Expr}{es:List Expr}{ta tb te:DE}{t:DA}
section
variable {rest:List Expr}{t u:DT}
end
end Wb
namespace Dl
open PySem L2 PyProof.Rows
end Dl
namespace Wb
open PySem L2 PyProof.Rows Dl Wr
variable {X:Cx}{n m m1 m2 m3:Nat}{H0 Hb H H1 H':Hp}{own:Addr->Option Nat}{σ:L2.St}{ρ:List Sl}{pos:Pos}{a b e:Expr}{es:List Expr}{ta tb te:DE}
def sEn(P:DEnds):DEnds:={ nx:=λr=>P.nx (stp r),rt:=P.rt,bk:=λr=>P.bk (stp r),ct:=λr=>P.ct (stp r) }
def sS(t:DS):DS:=λP ρ=>t (sEn P) (stp ρ)
def rY(t u:DS):DS:=λP ρ=>t { nx:=λr=>u P (stp r),rt:=P.rt,bk:=λr=>P.bk (stp r),ct:=λr=>P.ct (stp r) } ρ
section
variable {st:Stmt}{rest:List Stmt}{t u:DS}
end
variable {X:Cx}{K:Ú}{sc:Addr}{ns:List Int}{pre:List D->Prop}
end Wb
namespace Wr
open PySem L2 PyProof.Rows Dl
variable [Gr] {X:Cx}{pos:Pos}{a b:Expr}{ta tb:DE}
def Ms(ha:WD X a ta)(hb:WD X b tb):WD X (.BinOp a .BitAnd b pos) (t2 (gI0 λi j=>.int (ů i j)) ta tb):=⟨Dl.kJ Ri (vU λi j _=>.int _) ha.h hb.h⟩
end Wr
namespace L2
open PySem PySem.Spec PyProof.Rows
def Uj:V->List V->Hp->VK->Prop:=λx vs H Q=>∃(l:Addr) (ns:List Int) (k:Int) (j:Nat),x=.ref l/\vs=[.int k]/\H l=some (.lst (ns.map V.int))/\ns[j]?=some k/\(∀m,m<j->ns[m]?≠some k)/\Q .non (upd H l (.lst ((ns.eraseIdx j).map V.int)))
def isK(k:Int):Value->Bool
 |.int a _=>a == k
 |_=>false
def yJ{α β:Type}(g:α->β):∀(l:List α) (i:Nat),(l.map g).eraseIdx i=(l.eraseIdx i).map g
 |[],_=>rfl
 |_::_,0=>rfl
 |x::l,i+1=>congrArg (g x::·) (yJ g l i)
def FN{X:Cx}:MtM X "list.remove" Uj:=by
 intro pins s σ H x vs v us Q I rx rv h
 obtain⟨l,ns,k,j,rfl,rfl,hH,hj,hno,q⟩:=h
 cases rx
 obtain⟨u,rfl,ru⟩:=rv.one
 obtain⟨t,rfl⟩:=ru
 obtain⟨z,its,n,r,hl,e⟩:=I.yK hH
 have at':∀(m:Nat) (a:Int),ns[m]?=some a->∃t',its[m]?=some (Ĝ a t'):=λm a hm=>by
  obtain⟨u,hu,ru⟩:=r.get (i:=m) (x:=V.int a) (by rw[è,hm];rfl)
  obtain⟨t',rfl⟩:=ru
  exact⟨t',hu⟩
 have hlen:its.length=ns.length:=by rw[←hl,Á]
 obtain⟨t',ht'⟩:=at' j k hj
 have hjl:j<its.length:=(Ö.mp ht').1
 refine call_meets F.slot_list_remove ⟨_,e,rfl⟩ F.entry_list_remove (F.args_list_remove_2 _ _)
  (MeetsSeq.list_remove l its.toArray n (.int k t) (isK k) (λy hy=>?_) j (by rw[Ñ];exact hjl) ?_ (λm hm hmj=>?_) (by rw[Ñ];omega)) ⟨e,?_⟩
 ·have hy:y∈its:=by simpa using hy
  obtain⟨m,hm⟩:=š hy
  have hml:m<ns.length:=by rw[←hlen];exact(Ö.mp hm).1
  obtain⟨t2,h2⟩:=at' m _ (Ì hml)
  rw[hm] at h2
  cases h2
  exact MeetsSeq.EqGives.int _ _ _ _
 ·show isK k its.toArray[j]=true
  have:its.toArray[j]=Ĝ k t':=by
   rw[List.getElem_toArray]
   exact(Ö.mp ht').2
  rw[this]
  exact beq_self_eq_true k
 ·have hml:m<its.length:=by rw[Ñ] at hm;exact hm
  obtain⟨t2,h2⟩:=at' m _ (Ì (by rw[←hlen];exact hml))
  have e2:its.toArray[m]=Ĝ ns[m] t2:=by
   rw[List.getElem_toArray]
   exact(Ö.mp h2).2
  rw[e2]
  have:=hno m hmj
  rw[Ì (by rw[←hlen];exact hml)] at this
  exact beq_false_of_ne λz=>this (by rw[z])
 refine⟨.non,_,I.Nj (its':=its.eraseIdx j) hH e ?_ (ys:=(ns.eraseIdx j).map V.int) ?_ ?_,rfl,q⟩
 ·show its.toArray.eraseIdxIfInBounds j=(its.eraseIdx j).toArray
  rw[List.eraseIdxIfInBounds_toArray]
 ·have:=r.eraseIdx j
  rw[yJ] at this
  exact this
 ·have:=ug ns j
  rw[Á]
  omega
end L2
namespace Dl
open PySem L2 PyProof.Rows
def yW{k:Int}:∀{ns:List Int},k∈ns->∃j:Nat,ns[j]?=some k/\(∀m,m<j->ns[m]?≠some k)/\ns.eraseIdx j=ns.erase k
 |x::ns,h=>by
  by_cases e:x=k
  ·subst e
   exact⟨0,rfl,λm hm=>absurd hm (Nat.not_lt_zero _),by rw[List.erase_cons_head];rfl⟩
  ·have h':k∈ns:=(Ó.mp h).resolve_left λz=>e z.symm
   obtain⟨j,a,b,c⟩:=yW h'
   refine⟨j+1,a,λm hm=>?_,by rw[List.eraseIdx_cons_succ,c,List.erase_cons_tail (by simpa using e)]⟩
   cases m with
   |zero=>exact λz=>e (ç z)
   |succ m=>exact b m (by omega)
variable [Gr] {X:Cx}{st:Stmt}{tj:DE}
def Vy(i:Nat)(tj:DE):DS:=λP ρ=>∃(r:Nat) (ns:List Int),ρ[i]?=some (.dw r (.list (ns.map Ã)))/\tj ρ λ_ dj=>match dj with
 |.int k=>k∈ns/\P.nx ((forget r ρ).set i (.dw r (.list ((ns.erase k).map Ã))))
 |_=>False
def o7{i:Nat}(h:PS X st (tL (tBM X.K "list" Uj (jf i) (jd (bM tj iy))))):PDS X st (Vy i tj):=PS.wk' h (by
 rintro Q σ H ⟨p,H0,own,ρ,P,E,⟨r,ns,hr,t⟩,w⟩
 obtain⟨v,hv,x⟩:=E.slot i _ hr
 obtain⟨l,vs,rfl,hl,ho,rs⟩:=x.cN
 refine⟨.ref l,hv,.inl ⟨rfl,vs,SqL.of ho⟩,p,H0,own,ρ,_,E,Ds t,?_⟩
 rintro ks ws H1 ⟨k,dj,rfl,hh⟩ A rk
 obtain⟨y,rfl,ry⟩:=fJ rk
 cases dj with
 |int a =>
  obtain⟨hm,hn⟩:=hh
  have ej:=Rp.int' ry
  have h1:H1 l=some (.lst vs):=A.kp l _ ho (E.ow l r hl).2.1
  have ev:=Rps.ints rs
  subst ev
  obtain⟨j,hj,hno,he⟩:=yW hm
  refine⟨l,ns,a,j,rfl,by rw[ej],h1,hj,hno,?_⟩
  rw[he]
  obtain⟨E2,F2⟩:=E.vd (vs':=(ns.erase a).map V.int) (ds':=(ns.erase a).map Ã) A hv hl ho rs λH2 f g=>Rps.ofMap (λi=>.int i) _
  exact w.nx _ σ _ _ E2 F2 hn
 |_=>exact hh.elim)
end Dl
namespace Wr
open PySem L2 PyProof.Rows Dl
variable [Gr] {X:Cx}{pos:Pos}
def o7{i:Nat}{x:Str}{e:Expr}{es:List Expr}{tj:DE}{apos cpos np:Pos}(hv:WV X (.Name x np) i)(ha:WDA X (e::es) (bM tj iy))(hbase:attributeBase (.Name x np) "remove" X.env (eval (.Name x np) X.env)=eval (.Name x np) X.env:=by rfl)(hfew:zW X cpos (e::es):=by rfl)(hline:(apos.endLine == cpos.line)=true:=by rfl)(hst:zS X e es:=by rfl)(hplain:zP X cpos es:=by rfl)(hs:swapsWith (.Call (.Attribute (.Name x np) "remove" apos) (e::es) [] cpos) none pos.line X.env=pure false:=by rfl) :
  WDS X (.Expr (.Call (.Attribute (.Name x np) "remove" apos) (e::es) [] cpos) pos) (Vy i tj):=⟨Dl.o7 (cC (iZ þ PySem.F.slot_list_remove PySem.F.type_list_remove FN hv.h ha.h hbase hfew hline hst hplain) hs)⟩
end Wr
namespace L2
open PySem PySem.Spec PyProof.Rows
section
variable {X:Cx}{tg:Expr}
end
end L2
namespace Dl
open PySem L2 PyProof.Rows
variable [Gr]
section
variable {X:Cx}{tg:Expr}{pos:Pos}{ta:DA}
end
end Dl
namespace Wr
open PySem L2 PyProof.Rows Dl
variable [Gr] {X:Cx}{tg:Expr}{pos:Pos}{ta:DA}
end Wr
namespace L2
open PySem PySem.Spec PyProof.Rows
open PySem.AutoSeq1 (wpAny_loadPart')
open PySem.MeetsSeq PySem.MeetsSeq3
section
variable {X:Cx}
end
end L2
namespace Dl
open PySem L2 PyProof.Rows
variable [Gr] {X:Cx}{a b:Expr}{ta tb:DE}{pos:Pos}
end Dl
namespace Wr
open PySem L2 PyProof.Rows Dl
variable [Gr] {X:Cx}{a b:Expr}{ta tb:DE}{pos:Pos}
end Wr
namespace Cut
def dg(us:List (Int×Int))(X:Int->Bool):Nat:=us.countP λt=>X t.1 != X t.2
def mg(es:List Int)(X:Int->Bool):Nat:=es.countP X
def dD(us:List (Int×Int))(es:List Int)(X:Int->Bool):Nat:=dg us X+mg es X
structure Prp(n:Nat)(X:Int->Bool):Prop where
 ins:∃v:Int,(0<=v/\v<n)/\X v=true
 out:∃v:Int,(0<=v/\v<n)/\X v=false
def qz(t:Int×Int)(us:List (Int×Int))(X:Int->Bool):dg (t::us) X=dg us X+(X t.1 != X t.2).toNat:=by
 unfold dg
 rw[List.countP_cons]
 cases X t.1 != X t.2 <;> rfl
def eO(e:Int)(es:List Int)(X:Int->Bool):mg (e::es) X=mg es X+(X e).toNat:=by
 unfold mg
 rw[List.countP_cons]
 cases X e <;> rfl
def oU{es:List Int}{X:Int->Bool}{a:Int}(h:a∈es)(hX:X a=true):1<=mg es X:=List.countP_pos_iff.mpr ⟨a,h,hX⟩
def b3:∀x y z x' y' z':Bool,((x&&y&&z) != (x'&&y'&&z')).toNat+((x&&!y&&!z) != (x'&&!y'&&!z')).toNat+((y&&!x&&!z) != (y'&&!x'&&!z')).toNat+((z&&!x&&!y) != (z'&&!x'&&!y')).toNat<=(x != x').toNat+(y != y').toNat+(z != z').toNat:=by decide
def c3:∀x y z:Bool,3 * (x&&y&&z).toNat+(x&&!y&&!z).toNat+(y&&!x&&!z).toNat+(z&&!x&&!y).toNat<=x.toNat+y.toNat+z.toNat:=by decide
def three(us:List (Int×Int))(es:List Int)(X Y Z:Int->Bool)(hI:1<=mg es λv=>X v&&Y v&&Z v) :
  dD us es (λv=>X v&&Y v&&Z v)+dD us es (λv=>X v&&!Y v&&!Z v)+dD us es (λv=>Y v&&!X v&&!Z v)+dD us es (λv=>Z v&&!X v&&!Y v)+2<=dD us es X+dD us es Y+dD us es Z:=by
 have h1:dg us (λv=>X v&&Y v&&Z v)+dg us (λv=>X v&&!Y v&&!Z v)+dg us (λv=>Y v&&!X v&&!Z v)+dg us (λv=>Z v&&!X v&&!Y v)<=dg us X+dg us Y+dg us Z:=by
  clear hI
  induction us with
  |nil=>exact É _
  |cons t us ih =>
   simp only[qz]
   have:=b3 (X t.1) (Y t.1) (Z t.1) (X t.2) (Y t.2) (Z t.2)
   omega
 have h2:3 * mg es (λv=>X v&&Y v&&Z v)+mg es (λv=>X v&&!Y v&&!Z v)+mg es (λv=>Y v&&!X v&&!Z v)+mg es (λv=>Z v&&!X v&&!Y v)<=mg es X+mg es Y+mg es Z:=by
  clear hI
  induction es with
  |nil=>exact É _
  |cons e es ih =>
   simp only[eO]
   have:=c3 (X e) (Y e) (Z e)
   omega
 unfold dD
 omega
def b2:∀x y x' y':Bool,((x&&!y) != (x'&&!y')).toNat+((y&&!x) != (y'&&!x')).toNat<=(x != x').toNat+(y != y').toNat:=by decide
def c2:∀x y:Bool,2 * (x&&y).toNat+(x&&!y).toNat+(y&&!x).toNat=x.toNat+y.toNat:=by decide
def Ti(us:List (Int×Int))(X Y:Int->Bool):dg us (λv=>X v&&!Y v)+dg us (λv=>Y v&&!X v)<=dg us X+dg us Y:=by
 induction us with
 |nil=>exact É _
 |cons t us ih =>
  simp only[qz]
  have:=b2 (X t.1) (Y t.1) (X t.2) (Y t.2)
  omega
def Ov(es:List Int)(X Y:Int->Bool):2 * mg es (λv=>X v&&Y v)+mg es (λv=>X v&&!Y v)+mg es (λv=>Y v&&!X v)=mg es X+mg es Y:=by
 induction es with
 |nil=>rfl
 |cons e es ih =>
  simp only[eO]
  have:=c2 (X e) (Y e)
  omega
def Ww(es:List Int)(X Y:Int->Bool):mg es (λv=>X v || Y v)+mg es (λv=>X v&&Y v)=mg es X+mg es Y:=by
 induction es with
 |nil=>rfl
 |cons e es ih =>
  simp only[eO]
  cases X e <;> cases Y e <;> simp_all <;> omega
def U6(us:List (Int×Int))(X:Int->Bool):dg us (λv=>!X v)=dg us X:=by
 induction us with
 |nil=>rfl
 |cons t us ih =>
  simp only[qz,ih]
  cases X t.1 <;> cases X t.2 <;> rfl
def U5(es:List Int)(X:Int->Bool):mg es X+mg es (λv=>!X v)=es.length:=by
 induction es with
 |nil=>rfl
 |cons e es ih =>
  simp only[eO,Ù]
  cases X e <;> simp <;> omega
def Ry{α:Type}(p:α->Prop)(f:α->Nat)(B:Nat)(hB:∀x,p x->f x<=B)(h:∃x,p x):∃x,p x/\∀y,p y->f y<=f x:=by
 obtain⟨x0,h0⟩:=h
 have key:∀d x,p x->B - f x<=d->∃x,p x/\∀y,p y->f y<=f x:=by
  intro d
  induction d with
  |zero =>
   intro x hx hd
   exact⟨x,hx,λy hy=>by have:=hB y hy;omega⟩
  |succ d ih =>
   intro x hx hd
   by_cases c:∀y,p y->f y<=f x
   ·exact⟨x,hx,c⟩
   ·have ⟨y,hy⟩:=Classical.not_forall.mp c
    have ⟨py,hlt⟩:=Classical.not_imp.mp hy
    refine ih y py ?_
    have:=hB y py
    omega
 exact key _ x0 h0 (É _)
section
variable {n k:Nat}{us:List (Int×Int)}{es:List Int}
def Prp.not{X:Int->Bool}(h:Prp n X):Prp n λv=>!X v :=
 ⟨let ⟨v,a,b⟩:=h.out;⟨v,a,by rw[b];rfl⟩,let ⟨v,a,b⟩:=h.ins;⟨v,a,by rw[b];rfl⟩⟩
def Prp.sub{X Y:Int->Bool}(h:Prp n X){v:Int}(hr:0<=v/\v<n)(hv:Y v=true)(hs:∀v,Y v=true->X v=true):Prp n Y :=
 ⟨⟨v,hr,hv⟩,let ⟨u,a,b⟩:=h.out;⟨u,a,by
  cases c:Y u with
  |false=>rfl
  |true=>rw[hs u c] at b;cases b⟩⟩
def half{X:Int->Bool}(hC:∀X,Prp n X->k<=dD us es X)(ev:es.length % 2=0)(hp:Prp n X)(hd:dD us es X<=k+1):2 * mg es X<=es.length:=by
 have a:=hC _ hp.not
 unfold dD at a hd
 rw[U6] at a
 have b:=U5 es X
 omega
def split(k2:2<=k)(rng:∀e∈es,0<=e/\e<(n:Int))(hC:∀X,Prp n X->k<=dD us es X)(ev:es.length % 2=0){a:Int}{rest:List Int}(hes:es=a::rest)(two:a∈rest->∃X,Prp n X/\X a=true/\dD us es X<=k+1):∃b∈rest,b≠a/\∀X,Prp n X->X a=true->X b=true->k+2<=dD us es X:=by
 apply Ć
 intro hno
 have ma:a∈es:=by rw[hes];exact À
 have cov:∀b∈rest,∃X,Prp n X/\X a=true/\X b=true/\dD us es X<=k+1:=λb hb=>by
  by_cases z:b=a
  ·subst z
   obtain⟨X,h1,h2,h3⟩:=two hb
   exact⟨X,h1,h2,h2,h3⟩
  ·apply Ć
   intro hn
   refine hno ⟨b,hb,z,λX h1 h2 h3=>?_⟩
   rcases Ŏ (dD us es X) (k+2) with y|y
   ·exact absurd ⟨X,h1,h2,h3,by omega⟩ hn
   ·exact y
 have big:∀X:Int->Bool,mg es X<es.length->X a=true->∃b∈rest,X b=false:=λX hl hX=>by
  apply Ć
  intro hn
  have:mg es X=es.length:=List.countP_eq_length.mpr λe he=>by
   rw[hes] at he
   rcases Ó.mp he with rfl|he
   ·exact hX
   ·cases c:X e with
    |true=>rfl
    |false=>exact absurd ⟨e,he,c⟩ hn
  omega
 let p:(Int->Bool)×(Int->Bool)->Prop:=λq=>(Prp n q.1/\q.1 a=true/\dD us es q.1<=k+1)/\(Prp n q.2/\q.2 a=true/\dD us es q.2<=k+1)
 have le:es.length=rest.length+1:=by rw[hes];rfl
 obtain⟨b0,hb0⟩:∃b,b∈rest:=by
  cases rest with
  |nil=>rw[le] at ev;cases ev
  |cons b r=>exact⟨b,À⟩
 obtain⟨X0,h1,h2,_,h4⟩:=cov b0 hb0
 obtain⟨⟨X,Y⟩,⟨⟨x1,x2,x3⟩,y1,y2,y3⟩,mx⟩:=Ry p (λq=>mg es λv=>q.1 v || q.2 v) es.length (λq _=>List.countP_le_length) ⟨(X0,X0),⟨h1,h2,h4⟩,h1,h2,h4⟩
 have hx:=half hC ev x1 x3
 have hy:=half hC ev y1 y3
 have hor:=Ww es X Y
 have hand:1<=mg es λv=>X v&&Y v:=oU ma (by show(X a&&Y a)=true;rw[show X a=true from x2,show Y a=true from y2];rfl)
 have x2:X a=true:=x2
 have y2:Y a=true:=y2
 have x3:dD us es X<=k+1:=x3
 have y3:dD us es Y<=k+1:=y3
 have hx:2 * mg es X<=es.length:=hx
 have hy:2 * mg es Y<=es.length:=hy
 obtain⟨b3,hb3,f3⟩:=big (λv=>X v || Y v) (by omega) (by show(X a || Y a)=true;rw[x2];rfl)
 obtain⟨Z,z1,z2,z4,z3⟩:=cov b3 hb3
 have fX:X b3=false:=by
  have f3:(X b3 || Y b3)=false:=f3
  cases c:X b3 with
  |false=>rfl
  |true=>rw[c] at f3;cases f3
 have fY:Y b3=false:=by
  have f3:(X b3 || Y b3)=false:=f3
  rw[fX] at f3
  exact f3
 have mb3:b3∈es:=by rw[hes];exact Ä _ hb3
 -- a private end of A against B,C where the union of A,B is greatest
 have priv:∀A B:Int->Bool,(mg es λv=>A v || B v)=(mg es λv=>X v || Y v)->(∀C,Prp n C->C a=true->dD us es C<=k+1->(mg es λv=>B v || C v)<=mg es λv=>X v || Y v)->A b3=false->B b3=false->∃v∈es,A v=true/\B v=false/\Z v=false:=λA B e m fA fB=>by
  apply Ć
  intro hn
  have m1:=m Z z1 z2 z3
  have:(mg es λv=>A v || B v)+1<=mg es λv=>B v || Z v:=by
   have gen:∀l:List Int,(∀v∈l,v∈es)->(mg l λv=>A v || B v)+(if b3∈l then 1 else 0)<=mg l λv=>B v || Z v:=λl=>by
    induction l with
    |nil=>intro _;exact É _
    |cons v l ih =>
     intro hl
     have i1:=ih λu hu=>hl u (Ä _ hu)
     simp only[eO]
     have hv:A v=true->B v=false->Z v=true:=λh1 h2=>by
      cases c:Z v with
      |true=>rfl
      |false=>exact absurd ⟨v,hl v À,h1,h2,c⟩ hn
     by_cases c:v=b3
     ·subst c
      rw[if_pos À,fA,fB,z4]
      have:(if v∈l then 1 else 0)<=1:=by split <;> omega
      simp
      have i2:(mg l λv=>A v || B v)<=mg l λv=>B v || Z v:=by
       split at i1 <;> omega
      exact i2
     ·have e1:(if b3∈v::l then 1 else 0)=(if b3∈l then 1 else 0):=by
       by_cases d:b3∈l
       ·rw[if_pos d,if_pos (Ä _ d)]
       ·rw[if_neg d,if_neg λh=>(Ó.mp h).elim (λh=>c h.symm) d]
      rw[e1]
      have:(A v || B v).toNat<=(B v || Z v).toNat:=by
       cases cA:A v <;> cases cB:B v <;> simp
       rw[hv cA cB]
       simp
      omega
   have g:=gen es λ_ h=>h
   rw[if_pos mb3] at g
   exact g
  omega
 have mx1:∀A B:Int->Bool,Prp n A->A a=true->dD us es A<=k+1->Prp n B->B a=true->dD us es B<=k+1->(mg es λv=>A v || B v)<=mg es λv=>X v || Y v:=λA B a1 a2 a3 b1 b2 b3=>mx (A,B) ⟨⟨a1,a2,a3⟩,b1,b2,b3⟩
 obtain⟨v1,e1,p1,p2,p3⟩:=priv X Y rfl (λC c1 c2 c3=>mx1 Y C y1 y2 y3 c1 c2 c3) fX fY
 obtain⟨v2,e2,q1,q2,q3⟩:=priv Y X (by congr 1;funext v;exact Bool.or_comm _ _) (λC c1 c2 c3=>mx1 X C x1 x2 x3 c1 c2 c3) fY fX
 have t:=three us es X Y Z (oU ma (by show(X a&&Y a&&Z a)=true;rw[x2,y2,z2];rfl))
 have i0:=hC (λv=>X v&&Y v&&Z v) (x1.sub (rng a ma) (by show(X a&&Y a&&Z a)=true;rw[x2,y2,z2];rfl) λv h=>by
  cases c:X v with
  |true=>exact c
  |false=>rw[show(X v&&Y v&&Z v)=false by rw[c];rfl] at h;cases h)
 have i1:=hC (λv=>X v&&!Y v&&!Z v) (x1.sub (rng v1 e1) (by show(X v1&&!Y v1&&!Z v1)=true;rw[p1,p2,p3];rfl) λv h=>by
  cases c:X v with
  |true=>exact c
  |false=>rw[show(X v&&!Y v&&!Z v)=false by rw[c];rfl] at h;cases h)
 have i2:=hC (λv=>Y v&&!X v&&!Z v) (y1.sub (rng v2 e2) (by show(Y v2&&!X v2&&!Z v2)=true;rw[q1,q2,q3];rfl) λv h=>by
  cases c:Y v with
  |true=>exact c
  |false=>rw[show(Y v&&!X v&&!Z v)=false by rw[c];rfl] at h;cases h)
 have i3:=hC (λv=>Z v&&!X v&&!Y v) (z1.sub (rng b3 mb3) (by show(Z b3&&!X b3&&!Y b3)=true;rw[z4,fX,fY];rfl) λv h=>by
  cases c:Z v with
  |true=>rfl
  |false=>rw[show(Z v&&!X v&&!Y v)=false by rw[c];rfl] at h;cases h)
 omega
end
def rgN(n:Nat):List Int:=(Û n).map λi=>((i:Nat):Int)
def wg{n:Nat}{v:Int}:v∈rgN n↔0<=v/\v<n:=by
 unfold rgN
 rw[Ý]
 constructor
 ·rintro⟨i,hi,rfl⟩
  have:=ċ.mp hi
  omega
 ·rintro⟨h0,h1⟩
  exact⟨v.toNat,ċ.mpr (by omega),by omega⟩
abbrev Dj(n:Nat)(X Y:Int->Bool):Prop:=∀v:Int,0<=v/\v<n->X v=true->Y v=false
def Js{α:Type}{R:α->α->Prop}:∀{l:List α},¬l.Pairwise R->∃x y r,l.Perm (x::y::r)/\¬R x y
 |[],h=>absurd .nil h
 |x::l,h=>by
  by_cases c:∀y∈l,R x y
  ·have hl:¬l.Pairwise R:=λz=>h (.cons c z)
   obtain⟨a,b,r,p,q⟩:=Js hl
   exact⟨a,b,x::r,(p.cons x).trans ((List.Perm.swap a x (b::r)).trans ((List.Perm.swap b x r).cons a)),q⟩
  ·have ⟨y,hy⟩:=Classical.not_forall.mp c
   have ⟨hm,hR⟩:=Classical.not_imp.mp hy
   obtain⟨s,t,rfl⟩:=List.append_of_mem hm
   exact⟨x,y,s++t,List.perm_middle.cons x,hR⟩
section
variable {n k:Nat}{us:List (Int×Int)}{es:List Int}
def K6(rng:∀e∈es,0<=e/\e<(n:Int))(hC:∀X,Prp n X->k<=dD us es X):∀(N:Nat) (Fs:List (Int->Bool)),(Fs.map λX=>mg (rgN n) X).sum<=N->(∀X∈Fs,Prp n X/\dD us es X=k)->(∀e∈es,∃X∈Fs,X e=true) ->
  ∃Gs:List (Int->Bool),Gs.Pairwise (Dj n)/\(∀X∈Gs,Prp n X/\dD us es X=k)/\∀e∈es,∃X∈Gs,X e=true:=by
 intro N
 induction N using Nat.strongRecOn with
 |_ N ih =>
  intro Fs hN hT hc
  by_cases c:Fs.Pairwise (Dj n)
  ·exact⟨Fs,c,hT,hc⟩
  obtain⟨X,Y,r,pm,hXY⟩:=Js c
  have sm:=(pm.map λX=>mg (rgN n) X).sum_nat
  rw[ã,ã,ò,ò] at sm
  have tX:=hT X (pm.mem_iff.mpr À)
  have tY:=hT Y (pm.mem_iff.mpr (Ä _ À))
  have tr:∀Z∈r,Prp n Z/\dD us es Z=k:=λZ hZ=>hT Z (pm.mem_iff.mpr (Ä _ (Ä _ hZ)))
  have cv:∀e∈es,X e=true\/Y e=true\/∃Z∈r,Z e=true:=λe he=>by
   obtain⟨Z,hZ,q⟩:=hc e he
   rcases Ó.mp (pm.mem_iff.mp hZ) with rfl|hZ
   ·exact .inl q
   ·rcases Ó.mp hZ with rfl|hZ
    ·exact .inr (.inl q)
    ·exact .inr (.inr ⟨Z,hZ,q⟩)
  have ⟨v,hv⟩:=Classical.not_forall.mp hXY
  have ⟨vr,hv⟩:=Classical.not_imp.mp hv
  have ⟨vX,hv⟩:=Classical.not_imp.mp hv
  have vY:Y v=true:=by
   cases d:Y v with
   |true=>rfl
   |false=>exact absurd d hv
  have sX:1<=mg (rgN n) X:=oU (wg.mpr vr) vX
  have sY:1<=mg (rgN n) Y:=oU (wg.mpr vr) vY
  by_cases A:∃u:Int,(0<=u/\u<n)/\X u=true/\Y u=false
  ·by_cases B:∃u:Int,(0<=u/\u<n)/\Y u=true/\X u=false
   ·obtain⟨u,ur,u1,u2⟩:=A
    obtain⟨w,wr,w1,w2⟩:=B
    have pX:Prp n λv=>X v&&!Y v:=tX.1.sub ur (by show(X u&&!Y u)=true;rw[u1,u2];rfl) λv h=>by
     cases d:X v with
     |true=>rfl
     |false=>rw[show(X v&&!Y v)=false by rw[d];rfl] at h;cases h
    have pY:Prp n λv=>Y v&&!X v:=tY.1.sub wr (by show(Y w&&!X w)=true;rw[w1,w2];rfl) λv h=>by
     cases d:Y v with
     |true=>rfl
     |false=>rw[show(Y v&&!X v)=false by rw[d];rfl] at h;cases h
    have h1:=hC _ pX
    have h2:=hC _ pY
    have d2:=Ti us X Y
    have m2:=Ov es X Y
    have t1:=tX.2
    have t2:=tY.2
    unfold dD at h1 h2 t1 t2
    have z0:mg es (λv=>X v&&Y v)=0:=by omega
    have no:∀e∈es,¬(X e=true/\Y e=true):=λe he ⟨a,b⟩=>by
     have:=oU (X:=λv=>X v&&Y v) he (by show(X e&&Y e)=true;rw[a,b];rfl)
     omega
    have s2:=Ov (rgN n) X Y
    have sI:1<=mg (rgN n) λv=>X v&&Y v:=oU (wg.mpr vr) (by show(X v&&Y v)=true;rw[vX,vY];rfl)
    refine ih _ (show(((λv=>X v&&!Y v)::(λv=>Y v&&!X v)::r).map λX=>mg (rgN n) X).sum<N by rw[ã,ã,ò,ò];omega) _ (É _) (λZ hZ=>?_) λe he=>?_
    ·rcases Ó.mp hZ with rfl|hZ
     ·exact⟨pX,by unfold dD;omega⟩
     ·rcases Ó.mp hZ with rfl|hZ
      ·exact⟨pY,by unfold dD;omega⟩
      ·exact tr Z hZ
    ·rcases cv e he with q|q|⟨Z,hZ,q⟩
     ·refine⟨_,À,?_⟩
      cases d:Y e with
      |true=>exact absurd ⟨q,d⟩ (no e he)
      |false=>rw[q];rfl
     ·refine⟨_,Ä _ À,?_⟩
      cases d:X e with
      |true=>exact absurd ⟨d,q⟩ (no e he)
      |false=>rw[q];rfl
     ·exact⟨Z,Ä _ (Ä _ hZ),q⟩
   ·refine ih _ (show((X::r).map λX=>mg (rgN n) X).sum<N by rw[ã,ò];omega) _ (É _) (λZ hZ=>?_) λe he=>?_
    ·rcases Ó.mp hZ with rfl|hZ
     ·exact tX
     ·exact tr Z hZ
    ·rcases cv e he with q|q|⟨Z,hZ,q⟩
     ·exact⟨X,À,q⟩
     ·refine⟨X,À,?_⟩
      cases d:X e with
      |true=>rfl
      |false=>exact absurd ⟨e,rng e he,q,d⟩ B
     ·exact⟨Z,Ä _ hZ,q⟩
  ·refine ih _ (show((Y::r).map λX=>mg (rgN n) X).sum<N by rw[ã,ò];omega) _ (É _) (λZ hZ=>?_) λe he=>?_
   ·rcases Ó.mp hZ with rfl|hZ
    ·exact tY
    ·exact tr Z hZ
   ·rcases cv e he with q|q|⟨Z,hZ,q⟩
    ·refine⟨Y,À,?_⟩
     cases d:Y e with
     |true=>rfl
     |false=>exact absurd ⟨e,rng e he,q,d⟩ A
    ·exact⟨Y,À,q⟩
    ·exact⟨Z,Ä _ hZ,q⟩
def sum_add{α:Type}(l:List α)(f g:α->Nat):(l.map λx=>f x+g x).sum=(l.map f).sum+(l.map g).sum:=by
 induction l with
 |nil=>rfl
 |cons x l ih=>simp only[ã,ò,ih];omega
def Rk{Gs:List (Int->Bool)}(h:Gs.Pairwise (Dj n)){e:Int}(hr:0<=e/\e<(n:Int)):(Gs.map λX=>(X e).toNat).sum<=1/\((∃X∈Gs,X e=true)->(Gs.map λX=>(X e).toNat).sum=1):=by
 induction h with
 |nil=>exact⟨ô _,λ⟨_,h,_⟩=>(nomatch h)⟩
 |@cons X l hX hl ih =>
  rw[ã,ò]
  cases c:X e with
  |true =>
   have:(l.map λX=>(X e).toNat).sum=0:=by
    have:∀m:List (Int->Bool),(∀Y∈m,Y e=false)->(m.map λX=>(X e).toNat).sum=0:=λm=>by
     induction m with
     |nil=>intro _;rfl
     |cons Y m ih=>intro h;rw[ã,ò,h Y À,ih λZ hZ=>h Z (Ä _ hZ)];rfl
    exact this l λY hY=>hX Y hY e hr c
   rw[this]
   exact⟨É _,λ_=>rfl⟩
  |false =>
   refine⟨by have:=ih.1;simp;exact this,λ⟨Y,hY,q⟩=>?_⟩
   rcases Ó.mp hY with rfl|hY
   ·rw[q] at c;cases c
   ·have:=ih.2 ⟨Y,hY,q⟩
    simp
    exact this
def Hs(rng:∀e∈es,0<=e/\e<(n:Int)){Gs:List (Int->Bool)}(h:Gs.Pairwise (Dj n)):(Gs.map λX=>mg es X).sum<=es.length/\((∀e∈es,∃X∈Gs,X e=true)->(Gs.map λX=>mg es X).sum=es.length):=by
 induction es with
 |nil =>
  have:∀m:List (Int->Bool),(m.map λX=>mg [] X).sum=0:=λm=>by
   induction m with
   |nil=>rfl
   |cons Y m ih=>rw[ã,ò,ih];rfl
  rw[this]
  exact⟨É _,λ_=>rfl⟩
 |cons e es ih =>
  obtain⟨i1,i2⟩:=ih λx hx=>rng x (Ä _ hx)
  obtain⟨o1,o2⟩:=Rk h (rng e À)
  have:(Gs.map λX=>mg (e::es) X).sum=(Gs.map λX=>mg es X).sum+(Gs.map λX=>(X e).toNat).sum:=by
   rw[←sum_add]
   congr 1
   exact Ĭ λX _=>eO e es X
  rw[this,Ù]
  refine⟨by omega,λhc=>?_⟩
  rw[i2 λx hx=>hc x (Ä _ hx),o2 (hc e À)]
def Gp(rng:∀e∈es,0<=e/\e<(n:Int))(hC:∀X,Prp n X->k<=dD us es X)(tgt:∀e∈es,∃X,Prp n X/\X e=true/\dD us es X=k) :
  ∃Gs:List (Int->Bool),Gs.Pairwise (Dj n)/\(∀X∈Gs,Prp n X)/\(Gs.map λX=>k - dg us X).sum=es.length:=by
 have:∃Fs:List (Int->Bool),(∀X∈Fs,Prp n X/\dD us es X=k)/\∀e∈es,∃X∈Fs,X e=true:=by
  clear rng hC
  have gen:∀l:List Int,(∀e∈l,∃X,Prp n X/\X e=true/\dD us es X=k)->∃Fs:List (Int->Bool),(∀X∈Fs,Prp n X/\dD us es X=k)/\∀e∈l,∃X∈Fs,X e=true:=λl=>by
   induction l with
   |nil=>intro _;exact⟨[],λX h=>(nomatch h),λe h=>(nomatch h)⟩
   |cons e l ih =>
    intro h
    obtain⟨Fs,f1,f2⟩:=ih λx hx=>h x (Ä _ hx)
    obtain⟨X,x1,x2,x3⟩:=h e À
    refine⟨X::Fs,λY hY=>?_,λx hx=>?_⟩
    ·rcases Ó.mp hY with rfl|hY
     ·exact⟨x1,x3⟩
     ·exact f1 Y hY
    ·rcases Ó.mp hx with rfl|hx
     ·exact⟨X,À,x2⟩
     ·obtain⟨Y,y1,y2⟩:=f2 x hx
      exact⟨Y,Ä _ y1,y2⟩
  exact gen es tgt
 obtain⟨Fs,f1,f2⟩:=this
 obtain⟨Gs,g1,g2,g3⟩:=K6 rng hC _ Fs (É _) f1 f2
 refine⟨Gs,g1,λX hX=>(g2 X hX).1,?_⟩
 rw[←(Hs rng g1).2 g3]
 congr 1
 refine Ĭ λX hX=>?_
 have:=(g2 X hX).2
 unfold dD at this
 omega
def Gn(rng:∀e∈es,0<=e/\e<(n:Int))(hC:∀X,Prp n X->k<=dD us es X){Gs:List (Int->Bool)}(h:Gs.Pairwise (Dj n))(hp:∀X∈Gs,Prp n X):(Gs.map λX=>k - dg us X).sum<=es.length:=by
 refine î ?_ (Hs rng h).1
 clear h
 induction Gs with
 |nil=>exact É _
 |cons X Gs ih =>
  rw[ã,ã,ò,ò]
  have:=ih λY hY=>hp Y (Ä _ hY)
  have:=hC X (hp X À)
  unfold dD at this
  omega
end
end Cut
namespace L2
open PySem PySem.Spec PyProof.Rows
structure LamScope(ps ys:List Str)(sc:Scope)(cl:List (Str×Addr)):Prop where
 kind:sc.kind=.function
 co:sc.isCoroutine=false
 gen:sc.isGenerator=false
 nd:(ps++ys).Nodup
 par:∀x∈ps,sc.names.lookup x=some .local
 fre:∀y∈ys,sc.names.lookup y=some .free
 nocell:∀x∈sc.names,x.2≠.cell
 all:∀x,sc.names.lookup x=some .free->∃c,cl.lookup x=some c
 inj:∀x y c,cl.lookup x=some c->cl.lookup y=some c->x=y
def cxL(CX:CXT)(P:Program)(w:World)(K:Ú)(mg:Str->Option Value)(base:Heap)(N:List Str)(qual:Str)(scope:Scope)(f:Addr)(cd:Value)(cl:List (Str×Addr))(A:Around)(outer:List Env)(s:Shared)(H:Hp)(E:XK):Cx where
 prog:=P
 w:=w
 K:=K
 mg:=mg
 base:=base
 A:=A.deeper (W.envX qual scope s.heap.objs.size f cd cl)
 N:=N
 s₀:=s
 H₀:=H
 env:=W.envX qual scope s.heap.objs.size f cd cl
 outer:=outer
 stack:=W.envX qual scope s.heap.objs.size f cd cl::outer
 ex:=[]
 calm:=true
 fn:=λ_=>false
 pn:=[]
 xe:=λe s'=>wpAny (model P w) (A.deeper (W.envX qual scope s.heap.objs.size f cd cl)) (leaving (W.envX qual scope s.heap.objs.size f cd cl) e) (λ_ s''=>CX outer H s E e s'') (λe' s''=>CX outer H s E e' s'') s'
structure Caps(base:Heap)(cl:List (Str×Addr))(ys:List Str)(cvs:List V):Prop where
 len:cvs.length=ys.length
 cells:∀x c,cl.lookup x=some c->∃v,base.IsCell c v
 val:∀(j:Nat) (y:Str) (v:V),ys[j]?=some y->cvs[j]?=some v->∃c u,cl.lookup y=some c/\base.IsCell c (some u)/\RelV v u
def Bj{CX:CXT}{P:Program}{w:World}{K:Ú}{mg:Str->Option Value}{base:Heap}{ps ys:List Str}{qual:Str}{scope:Scope}{f:Addr}{cd:Value}{cl:List (Str×Addr)}{A:Around}{outer:List Env}{s:Shared}{h1:Heap}{tk:Nat}{H:Hp}{E:XK}{us:List Value}{vs cvs:List V}(S:LamScope ps ys scope cl)(hd:A.handled=none)(e0:Env0 P w K mg base A outer s H)(hl:vs.length=ps.length)(r:Vals vs us)(C:Caps base cl ys cvs)(hn:h1.Ns s.heap.objs.size (λx=>(ps.zip us).reverse.lookup x))(hk:∀b o,s.heap.get? b=some o->h1.get? b=some o) :
  Inv (cxL CX P w K mg base (ps++ys) qual scope f cd cl A outer s H E) [] (start (ps++ys) (vs++cvs)) H { s with heap:=h1,toks:=tk }:=by
 have noA:∀b:Addr,b∉(cxL CX P w K mg base (ps++ys) qual scope f cd cl A outer s H E).ex:=λb z=>absurd (show b∈([]:List Addr) from z) (by simp)
 have bk:∀b o,base.get? b=some o->h1.get? b=some o:=λb o e=>hk b o (e0.bs b o e).1
 have cne:∀x c,cl.lookup x=some c->H c=none:=λx c e=>by
  obtain⟨v,o,ho,_⟩:=C.cells x c e
  exact(e0.bs c o ho).2
 refine⟨⟨e0.mod,S.kind,rfl,rfl,É _,S.inj,λy hy=>?_,(λy c z _=>(nomatch z)),λ_=>hd,Around.frames_deeper e0.frames,.inr ⟨rfl,rfl⟩,λb z=>absurd z (noA b),e0.bs,e0.bsz,λb _ _=>noA b,λb z=>absurd z (noA b),e0.nG,e0.frf,λq z=>nomatch (show q∈([]:List (Addr×Obj×HO)) from z)⟩,
  rfl,e0.bare,Un.kept hk,⟨_,hn,λi y v h1 h2 h3=>?_⟩,λy c h=>?_,e0.hok.fresh (É _),λy c h=>cne y c h,λp hp=>absurd (show p∈([]:List (Addr×Obj)) from hp) (by simp),e0.hok.kept hk,?_⟩
 ·have hy:scope.names.lookup y=some .cell\/scope.names.lookup y=some .free:=hy
  rcases hy with hy|hy
  ·exact absurd rfl (S.nocell _ (ĕ hy))
  ·exact S.all y hy
 ·have ha:(vs++cvs)[i]?=some v:=by
   unfold start at h2
   by_cases hi:i<(vs++cvs).length
   ·rw[ñ (by simpa using hi),è] at h2
    cases e:(vs++cvs)[i]? with
    |none=>rw[e] at h2;cases h2
    |some a=>rw[e] at h2;cases h2;rfl
   ·rw[ê (by simpa using hi)] at h2
    rw[Ļ] at h2
    split at h2 <;> cases h2
  have h1:(ps++ys)[i]?=some y:=h1
  by_cases hi:i<ps.length
  ·rw[ñ (by omega)] at h1 ha
   obtain⟨u,hu,rv⟩:=r.get ha
   have ndP:ps.Nodup:=(List.nodup_append.mp S.nd).1
   refine⟨u,rv,.inl ⟨S.par y (Ò h1),?_⟩⟩
   have rl:∀(l:List (Str×Value)) (x:Str) (u:Value),(l.map (·.1)).Nodup->(x,u)∈l->l.lookup x=some u:=λl x u=>by
    induction l with
    |nil=>intro _ z;cases z
    |cons p l ih =>
     intro nd z
     obtain⟨a,b⟩:=p
     rw[ã,ŭ] at nd
     rcases Ó.mp z with z|z
     ·cases z;rw[ó];simp
     ·have:x≠a:=λe=>nd.1 (by rw[←e];exact Ý.mpr ⟨(x,u),z,rfl⟩)
      rw[ó,show(x == a)=false by simpa using this]
      exact ih nd.2 z
   refine rl _ _ _ ?_ (List.mem_reverse.mpr ?_)
   ·rw[List.map_reverse,List.map_fst_zip (by rw[←r.length,hl];exact É _)]
    exact List.pairwise_reverse.mpr (ndP.imp λh e=>h e.symm)
   ·exact Ò (i:=i) (by rw[List.getElem?_zip_eq_some];exact⟨h1,hu⟩)
  ·rw[ê (by omega)] at h1 ha
   rw[hl] at ha
   obtain⟨c,u,e,hc,rv⟩:=C.val _ _ _ h1 ha
   exact⟨u,rv,.inr ⟨.inr (S.fre y (Ò h1)),c,e,hc.keeps bk⟩⟩
 ·obtain⟨v,hc⟩:=C.cells y c h
  exact⟨v,hc.keeps bk⟩
 ·unfold start
  show _=(ps++ys).length
  rw[Æ,Á,Ģ,Æ,Æ,C.len,hl]
  omega
def VH(x:Obj)(qual:Str):Prop:=∃vs t,x.data=.fields vs/\vs[1]?=some (.str qual t)
def uN(H:Hp)(c':Addr)(qual:Str):Prop:=∃x φ,H c'=some (.frz x (.ext φ))/\VH x qual
def R5{CX:CXT}{P:Program}{w:World}{K:Ú}{mg:Str->Option Value}{base:Heap}{k:Nat}{f c':Addr}{name qual:Str}{params:Arguments}{body:Expr}{scope:Scope}{pm ctv:Value}{cl:List (Str×Addr)}{ps ys:List Str}{cvs:List V}{sp:Sp}(lk:base.get? f=some (W.kla_obj name qual params body scope cl pm c' ctv))(hcd:∀vs H Q E,sp vs H Q E->uN H c' qual)(S:LamScope ps ys scope cl)(C:Caps base cl ys cvs)(len:∀vs H Q E,sp vs H Q E->vs.length=ps.length)(hbody:∀(A:Around) (outer:List Env) (s:Shared) (H:Hp) (vs:List V) (Q:VK) (E:XK),Room k (A.deeper (W.envX qual scope s.heap.objs.size f (.ref c') cl))->sp vs H Q E ->
   ∃t,PE (cxL CX P w K mg base (ps++ys) qual scope f (.ref c') cl A outer s H E) body t/\t (start (ps++ys) (vs++cvs)) H Q) :
  FnOk P w K mg base CX (k+1) f (W.kla_fn name qual params body scope cl pm (.ref c') ctv) ps sp:=by
 refine⟨len,λA outer s H args us vs Q E hr e0 hb r hsp=>?_⟩
 have hl:=len _ _ _ _ hsp
 have bk:∀b o,base.get? b=some o->s.heap.get? b=some o:=λb o e=>(e0.bs b o e).1
 have lim:s.heap.NoLimit:=e0.mod.nolimit.keeps bk
 have hcd':s.heap.CodeRec (.ref c') qual:=by
  obtain⟨x,φ,e,vs,t,h1,h2⟩:=hcd _ _ _ _ hsp
  exact⟨c',x,vs,t,rfl,(e0.hok _ _ e).1,h1,h2⟩
 refine W.kla_callFunE hr.depth (bk _ _ lk) rfl S.co S.gen rfl hcd' (hb _ _ _ _ ?_)
 have hloc:∀y∈ps.zip us,scope.names.lookup y.1=some .local:=λ⟨n,v⟩ hy=>S.par n (List.of_mem_zip hy).1
 refine wpAny_newFunctionEnv S.nocell hloc (λh₁ hns hsb=>?_) S.kind
 have hk₁:∀b o,s.heap.get? b=some o->h₁.get? b=some o:=λb o e=>hsb.extBut b o (á (Î e)) (Ï _ e)
 refine⟨lim.keeps hk₁,?_⟩
 show codeAny _ _ (.expr body (W.envX qual scope s.heap.objs.size f (.ref c') cl)) _ _
 obtain⟨t,ht,hq⟩:=hbody A outer s H vs Q E (hr.deeper _) hsp
 have I:Inv (cxL CX P w K mg base (ps++ys) qual scope f (.ref c') cl A outer s H E) [] (start (ps++ys) (vs++cvs)) H { s with heap:=h₁,toks:=s.toks+(ps.zip us).length }:=Bj S hr.hd e0 hl r C hns hk₁
 refine W.kla_codeExpr (į (ht [] _ _ H _ I hq) (λu s' hs=>?_) λe s' hs=>hs)
 obtain⟨v,H',J,rv,q⟩:=hs
 exact⟨v,H',J.os,J.bare,J.base,J.hok,rv,q⟩
def reb(base h:Heap)(L:List Addr):Heap:=W.hideAll h ((Û h.objs.size).filter λb=>(base.get? b).isNone&&!decide (b∈L))
def vf{base h:Heap}{L:List Addr}{b:Addr}:b∉((Û h.objs.size).filter λb=>(base.get? b).isNone&&!decide (b∈L))↔(h.objs.size<=b\/(∃o,base.get? b=some o)\/b∈L):=by
 rw[Ċ,ċ,Ë,Option.isNone_iff_eq_none,Ž,decide_eq_false_iff_not]
 constructor
 ·intro z
  by_cases h1:b<h.objs.size
  ·cases e:base.get? b with
   |some o=>exact .inr (.inl ⟨o,rfl⟩)
   |none =>
    by_cases h2:b∈L
    ·exact .inr (.inr h2)
    ·exact absurd ⟨h1,e,h2⟩ z
  ·exact .inl (Nat.le_of_not_lt h1)
 ·rintro(z|⟨o,z⟩|z) ⟨a,b,c⟩
  ·exact absurd a (Nat.not_lt.mpr z)
  ·rw[z] at b;cases b
  ·exact c z
def HX{base h:Heap}{L:List Addr}{b:Addr}{o:Obj}(e:h.get? b=some o)(m:b∈L):(reb base h L).get? b=some o:=W.hideAll_get _ e (vf.mpr (.inr (.inr m)))
def HY{base h:Heap}{L:List Addr}(bk:∀b o,base.get? b=some o->h.get? b=some o):∀b o,base.get? b=some o->(reb base h L).get? b=some o:=λb o e=>W.hideAll_get _ (bk b o e) (vf.mpr (.inr (.inl ⟨o,e⟩)))
def Jr{base h:Heap}{L:List Addr}{b:Addr}{o:Obj}(e:(reb base h L).get? b=some o):h.get? b=some o/\((∃o,base.get? b=some o)\/b∈L):=by
 have e1:=W.of_hideAll _ e
 refine⟨e1,?_⟩
 have n:b∉((Û h.objs.size).filter λb=>(base.get? b).isNone&&!decide (b∈L)):=λz=>by
  have:=W.hideAll_none (h:=h) _ z
  rw[show(W.hideAll h ((Û h.objs.size).filter λb=>(base.get? b).isNone&&!decide (b∈L))).get? b=some o from e] at this
  cases this
 exact(vf.mp n).resolve_left (λz=>absurd (Î e1) (Nat.not_lt.mpr z))
def Mod.reb{K:Ú}{mg:Str->Option Value}{base h:Heap}{L:List Addr}(m:Mod K mg base)(bk:∀b o,base.get? b=some o->h.get? b=some o):Mod K mg (reb base h L):=by
 have k:=HY (L:=L) bk
 obtain⟨mb,hb,hx⟩:=m.blt
 exact⟨m.kin.keeps k,m.glob.keeps k,⟨mb,hb.keeps k,hx⟩,m.nolimit.keeps k⟩
def Env0.reb{P:Program}{w:World}{K:Ú}{mg:Str->Option Value}{base:Heap}{A:Around}{outer:List Env}{s:Shared}{H:Hp}{L:List Addr}(e:Env0 P w K mg base A outer s H)(hL:∀b∈L,H b=none)(hf:∀b∈L,b∉frs outer):Env0 P w K mg (reb base s.heap L) A outer s H:=by
 have bk:∀b o,base.get? b=some o->s.heap.get? b=some o:=λb o z=>(e.bs b o z).1
 refine⟨e.frames,e.mod.reb bk,λb o z=>?_,?_,?_,e.frf,e.hok,e.bare⟩
 ·obtain⟨h1,h2⟩:=Jr z
  refine⟨h1,?_⟩
  rcases h2 with ⟨o',h2⟩|h2
  ·exact(e.bs b o' h2).2
  ·exact hL b h2
 ·unfold L2.reb
  rw[W.hideAll_size]
  exact É _
 ·have all:∀l:List Env,(∀b∈L,b∉frs l)->s.heap.FunFrames base l->s.heap.FunFrames (L2.reb base s.heap L) l:=by
   intro l
   induction l with
   |nil=>intro _ _;trivial
   |cons env r ih =>
    intro hs hl
    obtain⟨hk,⟨F,o,hf,hn,ho,hd⟩,hr⟩:=hl
    refine⟨hk,⟨F,o,hf,?_,ho,hd⟩,ih (λb hb z=>hs b hb ?_) hr⟩
    ·cases q:(L2.reb base s.heap L).get? F with
     |none=>rfl
     |some u =>
      obtain⟨_,h2⟩:=Jr q
      rcases h2 with ⟨o',h2⟩|h2
      ·rw[hn] at h2;cases h2
      ·exact absurd (by unfold frs;rw[Ũ,hf];exact À) (hs F h2)
    ·unfold frs at z ⊢
     rw[Ũ,hf]
     exact Ä _ z
  exact all outer hf e.nG
def Hr(i:Nat)(f:Addr)(sp:Sp)(E:XK)(t:TA):TE:=λσ H Q=>σ[i]?=some (some (.ref f))/\t σ H λvs H1=>sp vs H1 Q E
section
variable {X:Cx}{CX:CXT}{k i:Nat}{f:Addr}{fd:FuncData}{ps:List Str}{sp:Sp}{E:XK}{x:Str}{p pos:Pos}{e:Expr}{es:List Expr}{t:TA}
def Iw(F:FnOk X.prog X.w X.K X.mg X.base CX k f fd ps sp)(hf:W.FnAt f X.base)(hr:Room k X.A)(hb:Binds X.K fd ps [])(hx:Passes CX X E)(hv:PE X (.Name x p) (jf i))(ha:PA X (e::es) t)(he:zS X e es:=by rfl)(hpl:zP X pos es:=by rfl) :
  PE X (.Call (.Name x p) (e::es) [] pos) (Hr i f sp E t):=by
 intro pins s σ H Q I ⟨hi,h⟩
 have fk:∀{σ':St}{H':Hp}{s':Shared},Inv X pins σ' H' s'->W.FnAt f s'.heap:=λ{σ' H' s'} I'=>by
  obtain⟨oc,od,fd,sl,e⟩:=hf
  exact⟨oc,od,fd,sl,I'.bk _ _ e⟩
 refine ň (thn (hv pins s σ H (λv H'=>v=.ref f/\H'=H) I ⟨_,hi,rfl,rfl⟩) λu s1 ⟨v,H1,I1,rv,ev,eH⟩=>?_)
 subst ev
 subst eH
 obtain rfl:u=ğ f:=rv
 refine W.callWith_F (fk I1) (thn (ha pos pins s1 σ H1 _ I1 h) λus s2 ⟨vs,H2,I2,r,q⟩=>⟨fk I2,?_⟩) he hpl
 exact HN (dvs:=[]) (ds:=[]) F hr hb .nil hx I2 r (by rw[ø];exact q)
end
def zN(P:Addr)(pos:Pos)(qual:Str)(H:Hp):Prop:=∃ps,H P=some (.tbl ps)/\(ps=#[]\/∃c',ps=#[rawInt pos.line,rawInt pos.col,.ref c']/\uN H c' qual)
def VL{h h':Heap}{L:Addr}{m:Str->Option Value}(x:h.Ns L m)(k:∀o,h.get? L=some o->h'.get? L=some o):h'.Ns L m:=by
 obtain⟨o,es,ep,ho,r⟩:=x
 exact⟨o,es,ep,k o ho,r⟩
section
variable {X:Cx}{pins:List (Addr×Obj)}{σ:St}{H:Hp}{s:Shared}{c P:Addr}{pos:Pos}{qual:Str}{params:Arguments}{body:Expr}{scope:Scope}{cl:List (Str×Addr)}{Q:Value->Shared->Prop}{E:Value->Shared->Prop}
def FT(I:Inv X pins σ H s)(hq:X.env.qual++"<lambda>"=qual)(hdef:defaultsOf params X.env=([],[]))(hcl:closureFor scope X.env=pure cl)(hcode:X.env.code=.ref c)(hC:X.K.In X.base->W.CodeHd X.base c P)(hB:X.K.In X.base->X.base.BuiltinsAt X.mg P)(T:zN P pos qual H)(h:∀f c' ctv pm s' H',Inv X pins σ H' s'->zN P pos qual H'->uN H' c' qual->H' f=none->s'.heap.get? f=some (W.kla_obj "<lambda>" qual params body scope cl pm c' ctv)->f∉frs X.stack->(∀b o,H b=some o->b≠P->H' b=some o) ->
   (∀b o,s.heap.get? b=some o->H b=none->s'.heap.get? b=some o/\H' b=none)->Q (.ref f) s') :
  wpAny (model X.prog X.w) X.A (eval (.Lambda params body scope pos) X.env) Q E s:=by
 have hC:=hC I.ok.mod.kin
 have hB:=hB I.ok.mod.kin
 obtain⟨ps,hP,hps⟩:=T
 have hPh:s.heap.get? P=some (W.tabObj ps):=I.hok P _ hP
 have neP:∀b,H b=none->b≠P:=λb e z=>by rw[z,hP] at e;cases e
 have hgs:s.heap.Ns mainGlobals X.mg:=I.mod.glob.keeps I.bk
 have hgP:mainGlobals≠P:=by
  obtain⟨o,_,_,ho,_⟩:=I.mod.glob
  exact neP _ (I.bs _ _ ho).2
 have hB':s.heap.BuiltinsAt X.mg P:=by
  obtain⟨bm,o,h1,h2,h3,h4,h5,r⟩:=hB
  exact⟨bm,o,h1,h2,h3,h4,I.bk _ _ h5,r⟩
 have fsz:∀b,s.heap.objs.size<=b->b∉frs X.stack:=λb hb z=>by
  obtain⟨_,o,ho,_⟩:=I.stack.mem z
  exact absurd (Î ho) (Nat.not_lt.mpr hb)
 refine W.kla_eval hdef ?_
 rw[hq]
 rcases hps with rfl|⟨c',rfl,kn⟩
 ·refine W.kla_makeFunction (mg:=X.mg) hcl I.ok.glob hgs hcode (hC.keeps I.bk) hPh (by trivial) (by rfl) hgP hB' λc' ctv h' tk hx hge hlt hrec htb=>?_
  obtain⟨c₂,oc,vs,t,e2,hoc,hd,hv⟩:=hrec
  cases e2
  have keep:∀b o,b≠P->s.heap.get? b=some o->(h'.push (W.kla_obj "<lambda>" qual params body scope cl ((X.mg "__name__").getD .none) c' ctv)).get? b=some o:=λb o n e=>Ï _ (hx b o n e)
  have hc0:H c'=none:=I.hok.fresh hge
  have cP:c'≠P:=neP c' hc0
  have cS:∀b o,s.heap.get? b=some o->b≠c':=λb o e z=>by subst z;exact absurd (Î e) (Nat.not_lt.mpr hge)
  have htb':(h'.push (W.kla_obj "<lambda>" qual params body scope cl ((X.mg "__name__").getD .none) c' ctv)).get? P=some (W.tabObj (#[]++#[rawInt pos.line,rawInt pos.col,.ref c'])):=Ï _ htb
  have hoc':=Ï (W.kla_obj "<lambda>" qual params body scope cl ((X.mg "__name__").getD .none) c' ctv) hoc
  let H':Hp:=upd (upd H P (.tbl #[rawInt pos.line,rawInt pos.col,.ref c'])) c' (.frz oc (.ext λ_=>True))
  have u0:∀b,b≠P->b≠c'->H' b=H b:=λb h1 h2=>by show upd _ _ _ b=_;rw[aq h2,aq h1]
  have uP:H' P=some (.tbl #[rawInt pos.line,rawInt pos.col,.ref c']):=by show upd _ _ _ P=_;rw[aq (ġ cP),au]
  have uc:H' c'=some (.frz oc (.ext λ_=>True)):=au
  have nc:∀b o,H b=some o->b≠c':=λb o e z=>by rw[z,hc0] at e;cases e
  have kn:uN H' c' qual:=⟨oc,_,uc,vs,t,hd,hv⟩
  have J:Inv X pins σ H' { s with heap:=h'.push (W.kla_obj "<lambda>" qual params body scope cl ((X.mg "__name__").getD .none) c' ctv),toks:=tk }:=by
   refine I.step (g':=s.gens) (d':=s.drawn) (ch:=[]) (λ_ z=>nomatch z) (λb o _ _ _ e n=>keep b o (neP b n) e) (λb o _ _ _ e n=>⟨o.slots,keep b o (neP b n) e⟩) (λb o _ e n=>by rw[u0 b (neP b n) (cS b o e)];exact n) (λb o _ e=>?_) (λb xs e=>?_) (λb o u e=>?_) (λb ps e=>?_) (λm hm=>VL hm λo e=>keep _ o (neP _ I.free) e) (λa o e=>?_) I.bare
   ·by_cases z:b=P
    ·subst z;exact⟨_,htb'⟩
    ·exact⟨o,keep b o z e⟩
   ·rw[u0 b (λz=>by rw[z,hP] at e;cases e) (nc b _ e)];exact e
   ·rw[u0 b (λz=>by rw[z,hP] at e;cases e) (nc b _ e)];exact e
   ·by_cases z:b=P
    ·subst z
     rw[hP] at e
     cases e
     exact⟨#[rawInt pos.line,rawInt pos.col,.ref c'],by rw[uP];simp⟩
    ·exact⟨#[],by rw[u0 b z (nc b _ e),e];simp⟩
   ·by_cases z:a=c'
    ·subst z
     rw[uc] at e
     cases e
     exact⟨hoc',trivial,⟨_,hoc'⟩,λ_ _ _ _=>trivial⟩
    ·by_cases z2:a=P
     ·subst z2
      rw[uP] at e
      cases e
      exact htb'
     ·rw[u0 a z2 z] at e
      have ow:∀b,H b=some (.own a)->b≠P:=λb q y=>by rw[y,hP] at q;cases q
      exact(I.hok a o e).stay (λb u hb q=>keep b u (hb.elim (λy=>y ▸ z2) (ow b)) q) (λb q=>by rw[u0 b (ow b q) (nc b _ q)];exact q) λb xs q=>by rw[u0 b (λy=>by rw[y,hP] at q;cases q) (nc b _ q)];exact q
  have hsz:s.heap.objs.size<=h'.objs.size:=Nat.le_of_lt (Nat.lt_of_le_of_lt hge hlt)
  have fP:h'.objs.size≠P:=λz=>absurd (Î hPh) (Nat.not_lt.mpr (z ▸ hsz))
  refine h h'.objs.size c' ctv _ _ H' J ⟨_,uP,.inr ⟨c',rfl,kn⟩⟩ kn (by rw[u0 _ fP (ž hlt)];exact I.hok.fresh hsz) (ß _ rfl) (fsz _ hsz) (λb o e n=>by rw[u0 b n (nc b _ e)];exact e) λb o e n=>⟨keep b o (neP b n) e,by rw[u0 b (neP b n) (cS b o e)];exact n⟩
 ·refine W.kla_makeFunctionHit (mg:=X.mg) (cv:=.ref c') hcl I.ok.glob hgs hcode (hC.keeps I.bk) hPh (by trivial) (codeAmong_snoc (pos:=pos) (c:=.ref c') [] trivial rfl) hB' λctv h' tk hk hsz=>?_
  have keep:∀b o,s.heap.get? b=some o->(h'.push { cls:=.type "function",data:=.func (W.kla_fn "<lambda>" qual params body scope cl ((X.mg "__name__").getD .none) (.ref c') ctv) }).get? b=some o:=λb o e=>Ï _ (hk b o e)
  exact h h'.objs.size c' ctv _ _ H (I.kept (t':=tk) keep) ⟨_,hP,.inr ⟨c',rfl,kn⟩⟩ kn (I.hok.fresh hsz) (ß _ rfl) (fsz _ hsz) (λb o e _=>e) λb o e n=>⟨keep b o e,n⟩
end
structure LamAt(base:Heap)(f c':Addr)(qual:Str)(params:Arguments)(body:Expr)(scope:Scope)(cl:List (Str×Addr))(ys:List Str)(cvs:List V)(H:Hp):Prop where
 fn:∃pm ctv,base.get? f=some (W.kla_obj "<lambda>" qual params body scope cl pm c' ctv)
 caps:Caps base cl ys cvs
 kn:uN H c' qual
def Wc(N:List Str)(P:Addr)(lpos:Pos)(qual:Str)(params:Arguments)(body:Expr)(scope:Scope)(cl:List (Str×Addr))(ys:List Str)(sp:Heap->Sp)(te:TE):TE:=λσ H Q=>te σ H λv H1=>zN P lpos qual H1 /\
 ∃cvs:List V,cvs.length=ys.length/\(∀(j:Nat) (y:Str) (v:V),ys[j]?=some y->cvs[j]?=some v->∃i:Nat,N[i]?=some y/\σ[i]?=some (some v)) /\
  ∀base' f c' H',LamAt base' f c' qual params body scope cl ys cvs H'->zN P lpos qual H'->(∀b o,H1 b=some o->b≠P->H' b=some o)->sp base' [v,.ref f] H' Q E0
section
variable {X:Cx}{k:Nat}{fh c P:Addr}{fdh:FuncData}{ps ys:List Str}{sp:Heap->Sp}{x:Str}{p pos lpos:Pos}{e:Expr}{te:TE}{qual:Str}{params:Arguments}{body:Expr}{scope:Scope}{cl:List (Str×Addr)}
def Ak(F:∀base,FnOk X.prog X.w X.K X.mg base CX0 k fh fdh ps (sp base))(hr:Room k X.A)(hg:Gl X x)(hm:X.mg x=some (.ref fh))(hk:W.keepIn X.K (.ref fh)=true)(hb:Binds X.K fdh ps [])(ha:PE X e te)(hq:X.env.qual++"<lambda>"=qual)(hdef:defaultsOf params X.env=([],[]))(hcl:closureFor scope X.env=pure cl)(hcode:X.env.code=.ref c)(hC:X.K.In X.base->W.CodeHd X.base c P)(hB:X.K.In X.base->X.base.BuiltinsAt X.mg P)(hfn:∀x,X.fn x=true)(hsub:∀x c,cl.lookup x=some c->X.env.cells.lookup x=some c)(hys:∀y∈ys,X.env.scope.names.lookup y=some .cell/\∃c,cl.lookup y=some c)(hdb:zB x:=by decide)(he:starEach [e,.Lambda params body scope lpos] X.env=(false,eval e X.env)::(false,eval (.Lambda params body scope lpos) X.env)::[]:=by rfl)(hpl:(backTo pos (starEach [.Lambda params body scope lpos] X.env)).any (·.1)=false:=by rfl)(he1:starEach [e,.Lambda params body scope lpos] X.env=(false,eval e X.env)::starEach [.Lambda params body scope lpos] X.env:=by rfl) :
  PE X (.Call (.Name x p) [e,.Lambda params body scope lpos] [] pos) (Wc X.N P lpos qual params body scope cl ys sp te):=by
 intro pins s σ H Q I h
 refine ň (Dw I hg hm ?_ hdb)
 refine W.callWith_K (h₀:=X.base) I.ok.mod.kin hk ?_ he1 hpl
 rw[he]
 show wpAny _ _ (spliced ((false,eval e X.env)::(false,eval (.Lambda params body scope lpos) X.env)::[])) _ _ s
 refine Calls.spliced_cons (thn (ha pins s σ H _ I h) λu s1 ⟨v,H1,I1,r1,T1,cvs,cl1,hcv,q1⟩=>?_)
 refine Calls.spliced_cons ?_
 refine FT I1 hq hdef hcl hcode hC hB T1 λf c' ctv pm s2 H2 J T2 kn fn hfo nfs kp kb=>?_
 refine Calls.spliced_nil ⟨J.kIn,?_⟩
 have ncell:∀y c,X.env.cells.lookup y=some c->c∉frs X.stack:=λy c e z=>by
  rcases Ó.mp (J.uU c z) with z|z
  ·exact J.cne y c e z
  ·obtain⟨_,o,ho,_⟩:=J.ok.nG.mem z
   exact absurd (Î ho) (Nat.not_lt.mpr (J.ok.cab y c (hfn y) e))
 have inL:∀y c,cl.lookup y=some c->c∈f::cl.filterMap λq=>cl.lookup q.1:=λy c e=>Ä _ (Ů.mpr ⟨(y,c),ĕ e,e⟩)
 have hL:∀b∈f::cl.filterMap (λq=>cl.lookup q.1),(H2 b=none/\b∉frs X.stack):=λb hb=>by
  rcases Ó.mp hb with rfl|hb
  ·exact⟨fn,nfs⟩
  ·obtain⟨⟨y,c1⟩,_,e1⟩:=Ů.mp hb
   have e2:=hsub y b e1
   exact⟨J.freeC y b e2,ncell y b e2⟩
 have e0:=J.env0.reb (L:=f::cl.filterMap λq=>cl.lookup q.1) (λb hb=>(hL b hb).1) λb hb=>(hL b hb).2
 have cellB:∀y c w,cl.lookup y=some c->s2.heap.IsCell c w->(reb X.base s2.heap (f::cl.filterMap λq=>cl.lookup q.1)).IsCell c w:=λy c w e ⟨o,ho,hd⟩=>⟨o,HX ho (inL y c e),hd⟩
 have lam:LamAt (reb X.base s2.heap (f::cl.filterMap λq=>cl.lookup q.1)) f c' qual params body scope cl ys cvs H2:=by
  refine⟨⟨pm,ctv,HX hfo À⟩,⟨cl1,λy c e=>?_,λj y w h1 h2=>?_⟩,kn⟩
  ·obtain⟨w,hw⟩:=J.cell y c (hsub y c e)
   exact⟨w,cellB y c w e hw⟩
  ·obtain⟨i,n1,n2⟩:=hcv j y w h1 h2
   obtain⟨k1,c,e⟩:=hys y (Ò h1)
   obtain⟨m,_,hl⟩:=J.loc
   obtain⟨u',rv,l⟩:=hl i y w n1 n2 (.inr (.inl k1))
   rcases l with ⟨k2,_⟩|⟨_,c2,e2,hc⟩
   ·have k2:X.env.scope.names.lookup y=some .local:=k2
    rw[k1] at k2;cases k2
   ·rw[hsub y c e] at e2
    cases e2
    exact⟨c,u',e,cellB y c _ e hc,rv⟩
 have hsp:=q1 _ f c' H2 lam T2 kp
 have FF:=F (reb X.base s2.heap (f::cl.filterMap λq=>cl.lookup q.1))
 have hl:[u,ğ f].length=ps.length:=FF.len _ _ _ _ hsp
 refine wpAny_call (codeAny_mono (FF.run X.A X.stack s2 H2 ⟨[u,.ref f],[]⟩ [u,.ref f] [v,.ref f] Q E0 hr e0 ?_ (.cons r1 (.cons rfl .nil)) hsp) λr s' hq=>?_)
 ·have:=hb s2 [u,.ref f] J.kIn (by rw[ø];exact hl)
  rw[ø] at this
  exact this
 ·cases r with
  |error e=>exact hq.elim
  |ok fl =>
   cases fl with
   |ret u=>exact J.after hq
   |next=>exact Ľ hq
   |brk=>exact Ľ hq
   |cont=>exact Ľ hq
end
end L2
namespace Dl
open PySem L2 PyProof.Rows
def Mg(P:Addr)(pos:Pos)(qual:Str):Pn where
 fp:=λb=>b=P
 PI:=zN P pos qual
 pv:=.non
 mono:=λH H' ⟨ps,h,r⟩ k=>⟨ps,k _ _ (.inl rfl) h,r.imp id λ⟨c',e,x,φ,hc,cx⟩=>⟨c',e,x,φ,k _ _ (.inr ⟨x,φ,rfl⟩) hc,cx⟩⟩
 is:=λH b ⟨ps,h,_⟩ hb=>by
  subst hb
  exact⟨_,h,(λxs z=>(nomatch z)),λ⟨_,_,z⟩=>(nomatch z)⟩
def spT(T:Pn)(f:List D->(D->Prop)->Prop):Sp:=λvs H Q _=>∃ds P,T.PI H/\Rps (λa=>¬T.fp a) H vs ds/\f ds P/\∀d v H',P d->Kp T H H'->T.PI H'->Rp (λa=>H a=none) H' v d->Q v H'
def Dv{T:Pn}{f:List D->(D->Prop)->Prop}{n:Nat}(hn:∀ds P,f ds P->ds.length=n:=by intro _ _ h;repeat (first|(obtain⟨rfl,_⟩:=h;rfl)|obtain⟨_,h⟩:=h)):∀vs H Q E,spT T f vs H Q E->vs.length=n:=λvs H Q E ⟨ds,P,_,r,t,_⟩=>by
 rw[r.length]
 exact hn ds P t
def Pn.plus(p T:Pn):Pn where
 fp:=λb=>p.fp b\/T.fp b
 PI:=λH=>p.PI H/\T.PI H
 pv:=p.pv
 mono:=λH H' h k=>⟨p.mono H H' h.1 λb o z e=>k b o (z.imp .inl id) e,T.mono H H' h.2 λb o z e=>k b o (z.imp .inr id) e⟩
 is:=λH b h z=>z.elim (p.is H b h.1) (T.is H b h.2)
def Apart(p T:Pn):Prop:=∀H,p.PI H->T.PI H->∀b,p.fp b->¬T.fp b
def CT(C:Pn->Prop)(T:Pn):Pn->Prop:=λq=>∃p,C p/\Apart p T/\q=p.plus T
def Jt{p:Pn}{H:Hp}{b:Addr}{o:HO}(h:p.PI H)(e:H b=some o)(c:Fxd o):¬p.fp b:=λz=>by
 obtain⟨o',e',n⟩:=p.is H b h z
 rw[e] at e'
 cases e'
 exact n.2 c
def Hu{C:Pn->Prop}{T:Pn}{f:List D->(D->Prop)->Prop}:∀vs H Q E,spP (CT C T) f vs H Q E->spP C f vs H Q E:=by
 rintro vs H Q E ⟨q,vs',ds,P,⟨p,c,ap,rfl⟩,rfl,pi,r,t,k⟩
 refine⟨p,vs',ds,P,c,rfl,pi.1,r.mono (λa o z=>o (.inl z)) (λ_ _ _ e=>e) (λ_ _ e=>e),t,λd v H' hP kp pi' rp=>k d v H' hP (λb o e n=>kp b o e λz=>n (.inl z)) ⟨pi',T.mono H H' pi.2 λb o z e=>kp b o e λy=>?_⟩ rp⟩
 rcases z with z|z
 ·exact ap H pi.1 pi.2 b y z
 ·exact Jt pi.1 e z y
def Cal.plus{P:Program}{w:World}{K:Ú}{mg:Str->Option Value}{base:Heap}{k:Nat}{x:Str}{ps:List Str}{C:Pn->Prop}{T:Pn}{f:List D->(D->Prop)->Prop}(c:Cal P w K mg base k x ps (spP C f)):Cal P w K mg base k x ps (spP (CT C T) f):=by
 obtain⟨g,fd,F,r⟩:=c.ex
 exact⟨g,fd,F.imp Hu,r⟩
section
variable [Gr] {X:Cx}{k j:Nat}{x:Str}{ps:List Str}{e:Expr}{es:List Expr}{t:DA}{p pos:Pos}{C:Pn->Prop}{T:Pn}{i:Nat}{f:List D->(D->Prop)->Prop}
def Qs(C:Pn->Prop)(T:Pn)(i:Nat)(f:List D->(D->Prop)->Prop)(t:DA):DE:=λρ P=>ρ[i]?=some (.pen (CT C T))/\t ρ λks=>f (ks.map (·.2)) λd=>P (norm .new d) d
def JD:∀σ H Q,dB (Qs C T i f t) σ H Q->pG (spT T f) [] E0 (jd t) σ H Q:=by
 rintro σ H Q ⟨q,H0,own,ρ,P,E,⟨hi,t⟩,k⟩
 obtain⟨_,p,c,ap,rfl⟩:=E.slot i _ hi
 refine⟨_,H0,own,ρ,_,E,t,λks vs H1 h A r=>?_⟩
 show spT T f (vs++[]) H1 Q E0
 rw[ø]
 refine⟨ks.map (·.2),_,A.pen.2,(RpK.rps A r).mono (λ_ o z=>o (.inr z)) (λ_ _ _ e=>e) (λ_ _ e=>e),h,λd v H' h2 kp pi' r2=>?_⟩
 have k2:Kp (p.plus T) H1 H':=λb o e n=>kp b o e λz=>n (.inr z)
 refine k _ d v H' h2 (A.go k2 ⟨p.mono H1 H' A.pen.1 λb o z e=>kp b o e λy=>?_,pi'⟩) (aR ?_)
 ·rcases z with z|z
  ·exact ap H1 A.pen.1 A.pen.2 b z y
  ·exact Jt A.pen.2 e z y
 ·exact r2.mono (λa o=>A.free o) (λ_ _ _ e=>e) λ_ _ e=>e
def dcT(CC:Cal X.prog X.w X.K X.mg X.base k x ps (spT T f))(hr:Room j X.A)(ha:PDA X (e::es) t)(hk:k<=j:=by decide)(hg:Gl X x:=by rfl)(hdb:zB x:=by decide)(he:zS X e es:=by rfl)(hpl:zP X pos es:=by rfl) :
  PD X (.Call (.Name x p) (e::es) [] pos) (Qs C T i f t):=PE.wk (pcS CC hr ha hk hg hdb he hpl) JD
end
def grZ(Z:Hp->Prop):Gr:=⟨λp H0=>p=fM/\Z H0⟩
def spZ(Z:Hp->Prop)(g:List D->(D->Prop)->Prop):Sp:=λvs H Q E=>Z H/\spD g vs H Q E
def Qq(i:Nat)(f:Addr)(g:List D->(D->Prop)->Prop)(t:DA):DE:=λρ P=>(∃b,ρ[i]?=some (.scr (.ref f) b))/\t ρ λks=>g (ks.map (·.2)) λd=>P (norm .new d) d
section
variable {X:Cx}{k j:Nat}{x:Str}{ps:List Str}{e:Expr}{es:List Expr}{t:DA}{p pos:Pos}{Z:Hp->Prop}{i:Nat}{f:Addr}{fd:FuncData}{g:List D->(D->Prop)->Prop}
def JB(hZ:∀H H',Z H->Same H H'->Z H'):∀σ H Q,@dB (grZ Z) (Qq i f g t) σ H Q->Hr i f (spZ Z g) E0 (@jd (grZ Z) t) σ H Q:=by
 letI:=grZ Z
 rintro σ H Q ⟨q,H0,own,ρ,P,E,⟨⟨b,hi⟩,t⟩,k⟩
 obtain⟨rfl,z⟩:=E.gr
 refine⟨(E.slot i _ hi).1,fM,H0,own,ρ,_,E,t,λks vs H1 h A r=>?_⟩
 have sm:Same H0 H1:=λb o e=>A.kp b o (E.k0 b o e λz=>z) λz=>z
 refine⟨hZ _ _ z sm,ks.map (·.2),_,(RpK.rps A r).mono (λ_ _=>trivial) (λ_ _ _ e=>e) (λ_ _ e=>e),h,λd v H' h2 s r2=>?_⟩
 exact k _ d v H' h2 (A.go (Kp.of s) trivial) (aR (r2.mono (λa o=>A.free o) (λ_ _ _ e=>e) λ_ _ e=>e))
def dcV(hZ:∀H H',Z H->Same H H'->Z H')(F:FnOk X.prog X.w X.K X.mg X.base CX0 k f fd ps (spZ Z g))(hf:W.FnAt f X.base)(hr:Room j X.A)(hb:Binds X.K fd ps [])(hv:PE X (.Name x p) (jf i))(ha:@PDA (grZ Z) X (e::es) t)(hk:k<=j)(he:zS X e es:=by rfl)(hpl:zP X pos es:=by rfl) :
  @PD (grZ Z) X (.Call (.Name x p) (e::es) [] pos) (Qq i f g t):=PE.wk (Iw F hf (hr.mono hk) hb O1 hv ha he hpl) (JB hZ)
def Sg{N:List Str}{H:Hp}{n:Int}{m:Nat}(z:Z H)(hN:N.length=m+2):@EnvD (grZ Z) fM H (λ_=>none) (L2.start N [.int n,.ref f]) H (.im (.int n)::.scr (.ref f) false::È m .any):=by
 letI:=grZ Z
 refine⟨λ_ _ e _=>e,trivial,(λ_ _ e=>(nomatch e)),λq s e=>?_,?_,⟨rfl,z⟩⟩
 ·match q,e with
  |0,e=>cases e;exact⟨.int n,rfl,.int n⟩
  |1,e=>cases e;exact⟨rfl,λz=>(nomatch z)⟩
  |q+2,e =>
   have e:(È m Sl.any)[q]?=some s:=e
   have:=(Ĵ.mp (Ò e)).2
   subst this
   trivial
 ·unfold L2.start
  simp[hN]
end
def Hand(P:Program)(w:World)(K:Ú)(mg:Str->Option Value)(base:Heap)(kl:Nat)(f:Addr)(ps:List Str)(Z:Hp->Prop)(g:List D->(D->Prop)->Prop):Prop:=∃fd,FnOk P w K mg base CX0 kl f fd ps (spZ Z g)/\W.FnAt f base/\Binds K fd ps []/\∀H H',Z H->Same H H'->Z H'
def spF(P:Program)(w:World)(K:Ú)(mg:Str->Option Value)(base:Heap)(kl:Nat)(ps:List Str)(t:(List D->(D->Prop)->Prop)->Int->(D->Prop)->Prop):Sp:=λvs H Q _=>∃(n:Int) (f:Addr) (Z:Hp->Prop) (g:List D->(D->Prop)->Prop) (Pd:D->Prop),vs=[.int n,.ref f]/\Hand P w K mg base kl f ps Z g/\Z H/\t g n Pd /\
 ∀d v H',Pd d->Same H H'->Rp (λa=>H a=none) H' v d->Q v H'
def Sw{Z:Hp->Prop}{T:DS}{N:List Str}{H:Hp}{Q:VK}{f:Addr}{n:Int}{m:Nat}{Pd:D->Prop}(z:Z H)(k:∀d v H',Pd d->Same H H'->Rp (λa=>H a=none) H' v d->Q v H')(hN:N.length=m+2)(body:T { nx:=λ_=>Pd .none,rt:=Pd } (.im (.int n)::.scr (.ref f) false::È m .any)):@kY (grZ Z) T { nx:=λ_ H'=>Q .non H',rt:=Q } (L2.start N [.int n,.ref f]) H:=by
 letI:=grZ Z
 have sm:∀H',(∀b o,H b=some o->¬fM.fp b->H' b=some o)->Same H H':=λH' k b o e=>k b o e λz=>z
 exact⟨fM,H,λ_=>none,_,_,Sg z hN,body,⟨λo s h' r' e' _ n=>k _ _ h' n (sm h' e'.k0) .non,λd v h' n w=>k d v h' n (sm h' w.k0) (w.rp.mono (λ_ o=>o.1) (λ_ _ _ e=>e) λ_ _ e=>e),λ_ _ _ _ _ _ n=>n.elim,λ_ _ _ _ _ _ n=>n.elim⟩⟩
end Dl
namespace Wr
open PySem L2 PyProof.Rows Dl
variable {X:Cx}{k j:Nat}{x:Str}{ps:List Str}{e:Expr}{es:List Expr}{t:DA}{p pos:Pos}{Z:Hp->Prop}{i:Nat}{f:Addr}{fd:FuncData}{g:List D->(D->Prop)->Prop}
def dcV(hZ:∀H H',Z H->Same H H'->Z H')(F:FnOk X.prog X.w X.K X.mg X.base CX0 k f fd ps (spZ Z g))(hf:W.FnAt f X.base)(hr:Room j X.A)(hb:Binds X.K fd ps [])(hv:WV X (.Name x p) i)(ha:@WDA (grZ Z) X (e::es) t)(hk:k<=j:=by decide)(he:zS X e es:=by rfl)(hpl:zP X pos es:=by rfl) :
  @WD (grZ Z) X (.Call (.Name x p) (e::es) [] pos) (Qq i f g t):=@WD.mk (grZ Z) _ _ _ (Dl.dcV hZ F hf hr hb hv.h (@WDA.h (grZ Z) _ _ _ ha) hk he hpl)
def dcT[Gr]{C:Pn->Prop}{T:Pn}(CC:Cal X.prog X.w X.K X.mg X.base k x ps (spT T g))(hr:Room j X.A)(ha:WDA X (e::es) t)(hk:k<=j:=by decide)(hg:Gl X x:=by rfl)(hdb:zB x:=by decide)(he:zS X e es:=by rfl)(hpl:zP X pos es:=by rfl) :
  WD X (.Call (.Name x p) (e::es) [] pos) (Qs C T i g t):=⟨Dl.dcT CC hr ha.h hk hg hdb he hpl⟩
end Wr
namespace Dl
open PySem L2 PyProof.Rows
def grU(T:Pn):Gr:=⟨λp _=>p=T⟩
def Lj(f:List D->(D->Prop)->Prop)(t:DA):DE:=λρ P=>t ρ λks=>f (ks.map (·.2)) λd=>P (norm .new d) d
section
variable {X:Cx}{k j:Nat}{x:Str}{ps:List Str}{e:Expr}{es:List Expr}{t:DA}{p pos:Pos}{T:Pn}{f:List D->(D->Prop)->Prop}
def JC:∀σ H Q,@dB (grU T) (Lj f t) σ H Q->pG (spT T f) [] E0 (@jd (grU T) t) σ H Q:=by
 letI:=grU T
 rintro σ H Q ⟨q,H0,own,ρ,P,E,t,k⟩
 have eq:q=T:=E.gr
 subst eq
 refine⟨_,H0,own,ρ,_,E,t,λks vs H1 h A r=>?_⟩
 show spT q f (vs++[]) H1 Q E0
 rw[ø]
 refine⟨ks.map (·.2),_,A.pen,(RpK.rps A r).mono (λ_ o z=>o z) (λ_ _ _ e=>e) (λ_ _ e=>e),h,λd v H' h2 kp pi' r2=>?_⟩
 exact k _ d v H' h2 (A.go kp pi') (aR (r2.mono (λa o=>A.free o) (λ_ _ _ e=>e) λ_ _ e=>e))
def dcU(CC:Cal X.prog X.w X.K X.mg X.base k x ps (spT T f))(hr:Room j X.A)(ha:@PDA (grU T) X (e::es) t)(hk:k<=j:=by decide)(hg:Gl X x:=by rfl)(hdb:zB x:=by decide)(he:zS X e es:=by rfl)(hpl:zP X pos es:=by rfl) :
  @PD (grU T) X (.Call (.Name x p) (e::es) [] pos) (Lj f t):=PE.wk (pcS CC hr ha hk hg hdb he hpl) JC
def Sq{Tm:DS}{N:List Str}{vs:List V}{H:Hp}{Q:VK}{E:XK}(h:spT T f vs H Q E)(body:∀ds P,f ds P->∃ρ,ds.map bI++È (N.length - ds.length) .any=ρ/\Tm { nx:=λ_=>P .none,rt:=P } ρ):@kY (grU T) Tm { nx:=λ_ H'=>Q .non H',rt:=Q } (L2.start N vs) H:=by
 letI:=grU T
 obtain⟨ds,P,pi,r,t,q⟩:=h
 obtain⟨ρ,e,b⟩:=body ds P t
 have E:=kh (p:=T) (N:=N) rfl pi r
 rw[r.length,e] at E
 exact⟨T,H,λ_=>none,_,_,E,b,⟨λo s h' r' e' _ n=>q _ _ h' n e'.k0 e'.pen .non,λd v h' n w=>q d v h' n w.k0 w.pen (w.rp.mono (λ_ o=>o.1) (λ_ _ _ e=>e) λ_ _ e=>e),λ_ _ _ _ _ _ n=>n.elim,λ_ _ _ _ _ _ n=>n.elim⟩⟩
end
end Dl
namespace Wr
open PySem L2 PyProof.Rows Dl
variable {X:Cx}{k j:Nat}{x:Str}{ps:List Str}{e:Expr}{es:List Expr}{t:DA}{p pos:Pos}{T:Pn}{f:List D->(D->Prop)->Prop}
def dcU(CC:Cal X.prog X.w X.K X.mg X.base k x ps (spT T f))(hr:Room j X.A)(ha:@WDA (grU T) X (e::es) t)(hk:k<=j:=by decide)(hg:Gl X x:=by rfl)(hdb:zB x:=by decide)(he:zS X e es:=by rfl)(hpl:zP X pos es:=by rfl) :
  @WD (grU T) X (.Call (.Name x p) (e::es) [] pos) (Lj f t):=@WD.mk (grU T) _ _ _ (Dl.dcU CC hr (@WDA.h (grU T) _ _ _ ha) hk hg hdb he hpl)
end Wr
namespace Dl
open PySem L2 PyProof.Rows
section
variable [Gr] {X:Cx}{st:Stmt}{i k a b:Nat}{f:List D->(D->Prop)->Prop}
def PX(i k a b:Nat)(f:List D->(D->Prop)->Prop):DS:=λP ρ=>∃(r:Nat) (ds:List D) (ws:List Int) (n m:Int),ρ[i]?=some (.sp r true ds)/\ρ[k]?=some (.sh (iD ws))/\ρ[a]?=some (.im (.int n))/\ρ[b]?=some (.im (.int m))/\(∃x y tl,ds=.tuple [x,y]::tl)/\ds.length<1000 /\
 f [iD ws,.list ds,.int n,.int m] λd=>∃(t:Int) (L:List Int),d=.tuple [.int t,iD L]/\L.length≠ws.length/\P.nx ((forget r ρ).set i (.sp r true (ds++[d])))
def wX(h:PS X st (tL (tBM X.K "list" vg (jf i) (pF (pG (spR f) [] E0 (pF (jf k) (pF (jf i) (pF (jf a) (pF (jf b) Li))))) Li)))):PDS X st (PX i k a b f):=PS.wk' h (by
 rintro Q σ H ⟨p,H0,own,ρ,P,E,⟨r,ds,ws,n,m,hi,hk,ha,hb,⟨x,y,tl,hds⟩,hlen,hf⟩,w⟩
 obtain⟨l,vs,hv,o,ho,rs⟩:=E.slot i _ hi
 obtain⟨vw,hkσ,rw⟩:=E.slot k _ hk
 obtain⟨va,haσ,ra⟩:=E.slot a _ ha
 obtain⟨vb,hbσ,rb⟩:=E.slot b _ hb
 have ea:=ra.int'
 have eb:=rb.int'
 subst ea eb
 obtain⟨wl,wvs,rfl,okw,hw,rws⟩:=Rp.cN rw
 have ew:=Rps.ints rws
 subst ew
 refine⟨.ref l,hv,.inl ⟨rfl,vs,SqL.of ho⟩,.ref wl,hkσ,.ref l,hv,.int n,haσ,.int m,hbσ,?_⟩
 show spR f ([.ref wl,.ref l,.int n,.int m]++[]) H _ E0
 rw[ø]
 have A:=E.at
 refine⟨λc=>okS p H0 own true c\/c=l\/c=wl,[iD ws,.list ds,.int n,.int m],_,.cons (.lst (.inr (.inr rfl)) hw (Rps.ofMap (λx=>.int x) ws)) (.cons (.lst (.inr (.inl rfl)) ho (rs.mono (λ_ o=>.inl o) (λ_ _ _ e=>e) λ_ _ e=>e)) (.cons (.int n) (.cons (.int m) .nil))),hf,λd v H' ⟨t,L,ed,hL,hn⟩ sm rp=>?_⟩
 subst ed
 obtain⟨ta,tvs,rfl,hta,rt⟩:=Rp.eN rp
 obtain⟨v1,v2,rfl,r1,r2⟩:=rt.two
 have e1:=r1.int'
 subst e1
 obtain⟨bb,bvs,rfl,okb,hbb,rbb⟩:=Rp.cN r2
 have e2:=Rps.ints rbb
 subst e2
 have nl:bb≠l:=λz=>by
  rw[z,sm l _ ho] at hbb
  subst hds
  cases rs with
  |cons h t =>
   obtain⟨c,cvs,rfl,_⟩:=Rp.eN h
   cases L with
   |nil=>cases hbb
   |cons q L=>cases hbb
 have nw:bb≠wl:=λz=>by
  rw[z,sm wl _ hw] at hbb
  have e:=congrArg List.length (HO.lst.inj (ç hbb))
  rw[Á,Á] at e
  exact hL e.symm
 have okb2:okS p H0 own true bb:=by
  rcases okb with (z|z|z)|z
  ·exact z
  ·exact absurd z nl
  ·exact absurd z nw
  ·exact⟨λ_=>A.h0 z,A.nfp z,A.I9 z⟩
 have A2:At p H0 own H H':=A.go (Kp.of sm) (p.mono H H' E.pen λb o _ e=>sm b o e)
 have E1:=E.go A2.kp A2.pen
 have h1:H' l=some (.lst vs):=sm l _ ho
 have rs1:Rps (okS p H0 own true) H' vs ds:=rs.mono (λ_ o=>o) (λc u n e=>sm c u e) λ_ _ e=>sm _ _ e
 have rv:Rp (okS p H0 own true) H' (.ref ta) (.tuple [.int t,iD L]):=.tup hta (.cons (.int t) (.cons (.lst okb2 hbb (Rps.ofMap (λx=>.int x) L)) .nil))
 have hln:=rs.length
 have h24:=é
 refine⟨l,vs,.ref ta,rfl,rfl,h1,by omega,?_⟩
 obtain⟨E2,F2⟩:=E1.LC (b:=true) hv o h1 (rs1.snoc rv)
 exact w.nx _ σ _ _ E2 (A2.frs.trans F2) hn)
end
end Dl
namespace Wr
open PySem L2 PyProof.Rows Dl
section
variable [Gr] {X:Cx}{i k a b lv j:Nat}{f:List D->(D->Prop)->Prop}{x g y z1 z2:Str}{ps:List Str}{apos cpos np pos gp gpos py px pa pb:Pos}
def wX(C:Cal X.prog X.w X.K X.mg X.base lv g ps (spR f))(hr:Room j X.A)(hv:WV X (.Name x np) i)(hy:WV X (.Name y py) k)(hx:WV X (.Name x px) i)(h1:WV X (.Name z1 pa) a)(h2:WV X (.Name z2 pb) b)(hk:lv<=j:=by decide)(hg:Gl X g:=by rfl)(hdb:zB g:=by decide)(hbase:attributeBase (.Name x np) "append" X.env (eval (.Name x np) X.env)=eval (.Name x np) X.env:=by rfl)(hfew:((backTo cpos (starEach [.Call (.Name g gp) [.Name y py,.Name x px,.Name z1 pa,.Name z2 pb] [] gpos] X.env)).all (λx=>!x.1)&&(backToKw cpos (keywordEach [] X.env)).all (λx=>x.1.isSome)
  &&decide (([.Call (.Name g gp) [.Name y py,.Name x px,.Name z1 pa,.Name z2 pb] [] gpos]:List Expr).length+([]:List Keyword).length+(if ([]:List Keyword).isEmpty then 0 else 1)<30))=true:=by rfl)(hline:(apos.endLine == cpos.line)=true:=by rfl)(hs:swapsWith (.Call (.Attribute (.Name x np) "append" apos) [.Call (.Name g gp) [.Name y py,.Name x px,.Name z1 pa,.Name z2 pb] [] gpos] [] cpos) none pos.line X.env=pure false:=by rfl) :
  WDS X (.Expr (.Call (.Attribute (.Name x np) "append" apos) [.Call (.Name g gp) [.Name y py,.Name x px,.Name z1 pa,.Name z2 pb] [] gpos] [] cpos) pos) (PX i k a b f) :=
 ⟨Dl.wX (cC (iZ þ Ĳ İ fu hv.h (bY (pcS C hr (bY hy.h (bY hx.h (bY h1.h (bY h2.h gK)))) hk hg hdb rfl rfl) gK) hbase hfew hline rfl rfl) hs)⟩
end
end Wr
open Wr renaming aj → Â,ao → Ç,dv → Í,aC → Õ,aJ → å,vG → ë,cW → ì,cQ → ö,aU → ú,bx → Č,aF → Ĕ,IK → ė,jN → Ġ,bB → Ĩ,dR → ĭ,rW → Ĺ,dN → Ł,dM → ń,kO → ŗ,dc → ũ,iR → ų
open Dl renaming Cal → Ą,Nu → ħ,Bn → ľ,Gb → Ň,Ls → Œ,yQ → œ,rD → ř,any_ints → ţ
open Wr.WDSs renaming h → Ķ
open L2 renaming Di → Ř,qO → Ŷ
open L2.V renaming int → ż
namespace L2
open PySem PySem.Spec PyProof.Rows
def Gd{P:Program}{w:World}{K:Ú}{mg mb:Str->Option Value}{k:Nat}{fa a c PT:Addr}{fd:FuncData}{x:Str}{sp:Sp}{s₁:Shared}{vs:List Value}{ns:List Int}(KX:K.In s₁.heap)(hKP:K.lookup PT=none)(hC:W.CodeHd s₁.heap c PT)(hPT:s₁.heap.get? PT=some (W.tabObj #[]))(hns:s₁.heap.Ns mainGlobals mg)(hb:s₁.heap.Ns builtinsNs mb)(hbb:∀x:Str,x≠"__name__"->mb x=bootBuiltins x)(hlim:s₁.heap.NoLimit)(hBm:s₁.heap.BuiltinsAt mg PT)(hg:s₁.gens=#[])(ha:s₁.heap.get? a=some { cls:=.type "list",data:=.seq vs.toArray })(hi:IntsAre vs ns)(hl:ns.length<=sizeLine)(hr:Room k callerA)(F:∀base:Heap,K.In base->base.Ns mainGlobals mg->base.BuiltinsAt mg PT->(∀(b:Addr) (m:Str->Option Value),s₁.heap.Ns b m->base.Ns b m)->FnOk P w K mg base CX0 k fa fd [x] sp)(hbind:∀(s:Shared) (u:Value),BindsTo s fd ⟨[u],[]⟩ [(x,u)])(hsp:∀H:Hp,SqL K H a (ns.map ż)->H PT=some (.tbl #[])->sp [.ref a] H (λv _=>v=.bl true) λ_ _ _=>False) :
  codeAny (model P w) callerA (.call (.ref fa) ⟨[.ref a],[]⟩) (λr s'=>r=.ok (.ret (.bool true))/\OldK s₁.heap s'.heap/\s'.os=s₁.os/\AllBare s'.gens) s₁:=by
 have rv:=n6 hi
 have lenV:=hi.length
 have aP:a≠PT:=λz=>by rw[z,hPT] at ha;cases ha
 have core:∀H:Hp,SqL K H a (ns.map ż)->HOk P w H s₁.heap->H PT=some (.tbl #[])->(∀b u,H b=some u->b≠PT->b=a/\K.lookup a=none/\∃o u',u=.frz o u') ->
   codeAny (model P w) callerA (.call (.ref fa) ⟨[.ref a],[]⟩) (λr s'=>r=.ok (.ret (.bool true))/\OldK s₁.heap s'.heap/\s'.os=s₁.os/\AllBare s'.gens) s₁:=by
  intro H hS hok hT hA
  have nD:∀{b:Addr}{o:Obj}{es:Array DictEntry}{ep:Nat},s₁.heap.get? b=some o->o.data=.dict es ep->H b=none:=λ{b o es ep} e d=>by
   cases q:H b with
   |none=>rfl
   |some u =>
    by_cases z:b=PT
    ·rw[z,hPT] at e;cases e;cases d
    ·have:=(hA b u q z).1
     subst this
     rw[ha] at e;cases e;cases d
  have nsK:∀{b:Addr}{m:Str->Option Value},s₁.heap.Ns b m->(wI s₁.heap H).Ns b m:=λ{b m} ⟨o,es,ep,e,d,r⟩=>⟨o,es,ep,rO e (nD e d),d,r⟩
  have hKb:K.In (wI s₁.heap H):=λb o e=>rO (KX b o e) (by
   cases q:H b with
   |none=>rfl
   |some u =>
    by_cases z:b=PT
    ·rw[z,hKP] at e;cases e
    ·obtain⟨z1,z2,_⟩:=hA b u q z
     rw[z1,z2] at e;cases e)
  have hM:Mod K mg (wI s₁.heap H):=⟨hKb,nsK hns,⟨mb,nsK hb,hbb⟩,let ⟨mc,h1,h2⟩:=hlim;⟨mc,nsK h1,h2⟩⟩
  have e0:Env0 P w K mg (wI s₁.heap H) callerA [] s₁ H:=⟨rfl,hM,λb o e=>M6 e,Nat.le_of_eq (Gm _ _),trivial,λb hb=>absurd (show b∈([]:List Addr) from hb) (by simp),hok,.of_eq hg⟩
  have hBb:(wI s₁.heap H).BuiltinsAt mg PT:=by
   obtain⟨bm,o,h1,h2,h3,h4,h5,h6,h7⟩:=hBm
   refine⟨bm,o,h1,h2,h3,h4,rO h5 ?_,h6,h7⟩
   cases q:H bm with
   |none=>rfl
   |some u =>
    have:=(hA bm u q h4).1
    subst this
    rw[ha] at h5;cases h5
    have h6:Ď "list"=Ď "module":=h6
    exact absurd h6 (by decide)
  refine codeAny_mono ((F _ hKb (nsK hns) hBb λb m z=>nsK z).run callerA [] s₁ H ⟨[.ref a],[]⟩ [.ref a] [.ref a] _ _ hr e0 (hbind s₁ (.ref a)) (.cons rfl .nil) (hsp H hS hT)) λr s' h=>?_
  cases r with
  |error e=>exact h.elim
  |ok fl =>
   cases fl with
   |next=>exact Ľ h
   |brk=>exact Ľ h
   |cont=>exact Ľ h
   |ret u =>
    obtain⟨v,H',os,bare,un,hok',r',q⟩:=h
    have q':v=.bl true:=q
    subst q'
    obtain rfl:u=Value.bool true:=r'
    obtain⟨more,hT'⟩:=un.tbls PT _ hT
    have eT:s'.heap.get? PT=some { cls:=.none,data:=.fields (#[]++more) }:=hok' PT _ hT'
    have kept:∀b o,s₁.heap.get? b=some o->b≠PT->s'.heap.get? b=some o:=λb o e nb=>by
     cases q:H b with
     |none=>exact un.keep b o e q (by intro z;exact absurd (show b∈([]:List Addr) from z) (by simp)) (by simp)
     |some u =>
      obtain⟨_,_,ob,u',rfl⟩:=hA b u q nb
      have e1:=(hok b _ q).1
      rw[e] at e1;cases e1
      exact(hok' b _ (un.frzs b _ _ q)).1
    refine⟨rfl,⟨λb o e=>?_,λb o e=>?_⟩,os,bare⟩
    ·by_cases z:b=PT
     ·subst z
      rw[hPT] at e
      cases e
      exact .inr (.inl ⟨(hC.tab hPT).isCodeTable,rfl,#[],more,rfl,eT⟩)
     ·exact .inl (kept b o e z)
    ·by_cases z:b=PT
     ·subst z;exact⟨_,eT⟩
     ·exact⟨o,kept b o e z⟩
 cases hk:K.lookup a with
 |some o =>
  have e:=KX a o hk
  rw[ha] at e
  cases e
  refine core (λb=>if b=PT then some (.tbl #[]) else none) (.inr ⟨_,vs.toArray,_,hk,rfl,rfl,rfl,by rw[Ñ,lenV];exact hl,by simpa using rv⟩) (λb u z=>?_) (if_pos rfl) λb u z nb=>?_
  ·by_cases hb:b=PT
   ·have z':=(if_pos hb).symm.trans z
    cases z'
    subst hb
    exact hPT
   ·have z':=(if_neg hb).symm.trans z
    cases z'
  ·have z':=(if_neg nb).symm.trans z
   cases z'
 |none =>
  let H:Hp:=λb=>if b=PT then some (.tbl #[]) else if b=a then some (.frz { cls:=.type "list",data:=.seq vs.toArray } (.lst (ns.map ż))) else none
  have hP1:H PT=some (.tbl #[]):=if_pos rfl
  have hA1:H a=some (.frz { cls:=.type "list",data:=.seq vs.toArray } (.lst (ns.map ż))):=(if_neg aP).trans (if_pos rfl)
  have hN1:∀b,b≠PT->b≠a->H b=none:=λb h1 h2=>(if_neg h1).trans (if_neg h2)
  refine core H (.inl (.inr ⟨_,hA1⟩)) (λb u z=>?_) hP1 λb u z nb=>?_
  ·by_cases hb:b=PT
   ·subst hb
    rw[hP1] at z
    cases z
    exact hPT
   ·by_cases hb2:b=a
    ·subst hb2
     rw[hA1] at z
     cases z
     exact⟨ha,by rw[Á];exact hl,vs,_,rv,ha⟩
    ·rw[hN1 b hb hb2] at z;cases z
  ·by_cases hb2:b=a
   ·subst hb2
    rw[hA1] at z
    cases z
    exact⟨rfl,hk,_,_,rfl⟩
   ·rw[hN1 b nb hb2] at z;cases z
def Hf{l:W.OpenLaw}{n k:Nat}{q:Program}{loose:List Str}{XP:(Str->Option Value)->Heap->Prop}{YP:World->Heap->Prop}{d:DefRec}{K:Params->Ú}{x:Str}(hi:importsNone q=true)(hn:l.most=some n)(hn2:n<=sizeLine)(hdf:d.params.defaults=[])(hr:Room k callerA)(hY:∀(w:World) (h:Heap),YP w h->(K w.params).In h)(F:∀(w:World) (mg:Str->Option Value) (fa:Addr) (h:Heap),(K w.params).In h->h.Ns mainGlobals mg->mg d.name=some (.ref fa) ->
   ∃(K':Ú) (c PT:Addr) (fd:FuncData) (sp:Sp),K'.In h/\K'.lookup PT=none/\W.CodeHd h c PT/\h.get? PT=some (W.tabObj #[])/\(∀(s:Shared) (u:Value),BindsTo s fd ⟨[u],[]⟩ [(x,u)]) /\
    (∀base:Heap,K'.In base->base.Ns mainGlobals mg->base.BuiltinsAt mg PT->(∃o,base.get? sysModules=some o)->FnOk l.prog w K' mg base CX0 k fa fd [x] sp)/\∀(H:Hp) (a:Addr) (ns:List Int),SqL K' H a (ns.map ż)->H PT=some (.tbl #[])->sp [.ref a] H (λv _=>v=.bl true) λ_ _ _=>False) :
  W.WalkO q loose XP YP l.row.toRowW d [] (λf vs=>PySem.call f vs):=by
 refine Att.zM hn hdf λw s₀ s₁ mg mb fa o pm cd doc a vs ns G Y ho hd hcd hmg hobj hints hlen hg=>?_
 obtain⟨K',c,PT,fd,sp,k1,k2,k3,k4,hb,hF,hsp⟩:=F w mg fa _ (hY w _ Y) G.T.g hmg
 have hBm:s₁.heap.BuiltinsAt mg PT:=by
  obtain⟨bm,ob,b1,b2,b3,b4,b5,b6⟩:=G.T.bmain
  have n1:bm≠PT:=λz=>by rw[z,k4] at b3;cases b3;cases b4
  have n2:bm≠mainGlobals:=λz=>by
   obtain⟨o,es,ep,e,hd,_⟩:=G.T.g
   rw[z,e] at b3;cases b3;rw[hd] at b6;cases b6
  exact⟨bm,ob,b1,b2,n2,n1,b3,b4,b5,b6⟩
 obtain⟨mm,hm,_⟩:=(G.T.seer hi).mods
 exact Gd k1 k2 k3 k4 G.T.g G.T.b G.T.builtins G.T.nolimit hBm hg hobj hints (î hlen hn2) hr (λbase h1 h2 h3 h4=>hF base h1 h2 h3 (let ⟨o,_,_,e,_⟩:=h4 _ _ hm;⟨o,e⟩)) hb λH hS hT=>hsp H a ns hS hT
section
variable {K:Ú}{PT b f:Addr}{h:Heap}
end
def Qk{K:Ú}{PT:Addr}{h:Heap}(X:W.Frag.In ((([PT]:List Addr).map λa=>(a,W.tabObj #[]))++K) h)(n:K.lookup PT=none):K.In h/\h.get? PT=some (W.tabObj #[]):=by
 refine⟨λa o e=>X a o ?_,X PT _ ?_⟩
 ·have:a≠PT:=λz=>by rw[z,n] at e;cases e
  show Ű a ((PT,W.tabObj #[])::K)=some o
  rw[ó,show(a == PT)=false by simpa using this]
  exact e
 ·show Ű PT ((PT,W.tabObj #[])::K)=_
  rw[ó,beq_self_eq_true]
end L2
namespace Nf
open PySem PySem.W PyProof.Rows
def pU(tb:String->Option Builtin)(p:Program)(w:World)(m:Nat)(ann:Option Value):Nat->SharedT->Thread->Option SharedT
 |0,_,_=>none
 |n+1,s,t=>match through t with
  |true=>some s
  |false=>match stepOk m ann t with
   |false=>none
   |true=>match stepT (denote tb) p w s t with
    |none=>none
    |some r=>pU tb p w m ann n r.1 r.2
def tH{tb:String->Option Builtin}{p:Program}{w:World}{m:Nat}{ann:Option Value}:∀{n:Nat}{s s':SharedT}{t:Thread},pU tb p w m ann n s t=some s'->topRun tb p w m ann n s.abs t=some s'.abs
 |0,_,_,_,h=>by cases h
 |n+1,s,s',t,h=>by
  unfold pU at h
  unfold topRun
  cases he:through t with
  |true=>rw[he] at h;cases h;rfl
  |false =>
   rw[he] at h
   cases hk:stepOk m ann t with
   |false=>rw[hk] at h;cases h
   |true =>
    rw[hk] at h
    cases hs:stepT (denote tb) p w s t with
    |none=>rw[hs] at h;cases h
    |some r=>obtain⟨s2,t2⟩:=r;rw[hs] at h;rw[stepT_spec hs];exact tH h
def rT(P:Params):List DictEntry:=match (ū P).data with|.dict es _=>es.toList|_=>[]
def iu(P:Params)(i:Nat):List DictEntry:=((rT P).drop i).take 16
def b0(P:Params):List DictEntry:=by
 refine(?f:(l:List DictEntry)->l=iu P 0->List DictEntry) ?l ?h
 case f=>exact λl _=>l
 case h=>unfold iu rT ū;dsimp only[Ų,Ţ];exact rfl
def b1(P:Params):List DictEntry:=by
 refine(?f:(l:List DictEntry)->l=iu P 16->List DictEntry) ?l ?h
 case f=>exact λl _=>l
 case h=>unfold iu rT ū;dsimp only[Ų,Ţ];exact rfl
def b2(P:Params):List DictEntry:=by
 refine(?f:(l:List DictEntry)->l=iu P 32->List DictEntry) ?l ?h
 case f=>exact λl _=>l
 case h=>unfold iu rT ū;dsimp only[Ų,Ţ];exact rfl
def b3(P:Params):List DictEntry:=by
 refine(?f:(l:List DictEntry)->l=iu P 48->List DictEntry) ?l ?h
 case f=>exact λl _=>l
 case h=>unfold iu rT ū;dsimp only[Ų,Ţ];exact rfl
def b4(P:Params):List DictEntry:=by
 refine(?f:(l:List DictEntry)->l=iu P 64->List DictEntry) ?l ?h
 case f=>exact λl _=>l
 case h=>unfold iu rT ū;dsimp only[Ų,Ţ];exact rfl
def b5(P:Params):List DictEntry:=by
 refine(?f:(l:List DictEntry)->l=iu P 80->List DictEntry) ?l ?h
 case f=>exact λl _=>l
 case h=>unfold iu rT ū;dsimp only[Ų,Ţ];exact rfl
def b6(P:Params):List DictEntry:=by
 refine(?f:(l:List DictEntry)->l=iu P 96->List DictEntry) ?l ?h
 case f=>exact λl _=>l
 case h=>unfold iu rT ū;dsimp only[Ų,Ţ];exact rfl
def b7(P:Params):List DictEntry:=by
 refine(?f:(l:List DictEntry)->l=iu P 112->List DictEntry) ?l ?h
 case f=>exact λl _=>l
 case h=>unfold iu rT ū;dsimp only[Ų,Ţ];exact rfl
def b8(P:Params):List DictEntry:=by
 refine(?f:(l:List DictEntry)->l=iu P 128->List DictEntry) ?l ?h
 case f=>exact λl _=>l
 case h=>unfold iu rT ū;dsimp only[Ų,Ţ];exact rfl
def b9(P:Params):List DictEntry:=by
 refine(?f:(l:List DictEntry)->l=iu P 144->List DictEntry) ?l ?h
 case f=>exact λl _=>l
 case h=>unfold iu rT ū;dsimp only[Ų,Ţ];exact rfl
def bo0(P:Params):Obj:={ cls:=.type "dict",data:=.dict ⟨b0 P++(b1 P++(b2 P++(b3 P++(b4 P++(b5 P++(b6 P++(b7 P++(b8 P++(b9 P)))))))))⟩ 159 }
def S5:ū=bo0:=by funext P;kernel_rfl
def KR(P:Params):Heap:={ objs:=⟨[bo0 P,boot_o_1 P,boot_o_2 P,boot_o_3 P,boot_o_4 P,boot_o_5 P,boot_o_6 P,boot_o_7 P,boot_o_8 P,boot_o_9 P,boot_o_10 P]⟩ }
def zH:ő=KR:=by
 funext P
 show Heap.mk ⟨ū P::_⟩ _=_
 rw[S5]
 rfl
def zG(P:Params):BT:=((((((((((BT.nil.ins 0 (bo0 P)).ins 1 (boot_o_1 P)).ins 2 (boot_o_2 P)).ins 3 (boot_o_3 P)).ins 4 (boot_o_4 P)).ins 5 (boot_o_5 P)).ins 6 (boot_o_6 P)).ins 7 (boot_o_7 P)).ins 8 (boot_o_8 P)).ins 9 (boot_o_9 P)).ins 10 (boot_o_10 P)
def Pq:Life:={}
def GR(P:Params):absHeap (zG P) 11 Pq=ő P:=by rw[zH];kernel_rfl
def Aa(w:World)(os:OsState):SharedT:=⟨zG w.params,11,Pq,#[],boot_drawn,boot_toks,os⟩
def Ez(w:World)(os:OsState):(Aa w os).abs=⟨ő w.params,#[],boot_drawn,boot_toks,os⟩:=by
 unfold Aa SharedT.abs
 dsimp only
 rw[GR]
def CG(P:Params):=((ő P).isNs mainGlobals,(ő P).objs.size,(ő P).nsMap mainGlobals "__annotations__")
def Ad:CG=CG:=rfl
end Nf
name_quick sizeQ for Nf.CG by Nf.Ad
namespace Nf
open PySem PySem.W PyProof.Rows
def GX(w:World):((ő w.params).isNs mainGlobals,(ő w.params).objs.size,(ő w.params).nsMap mainGlobals "__annotations__")=(true,11,some (.ref 6)):=by
 show CG w.params=_
 rw[W.Fast.sizeQ_eq]
 kernel_rfl
def Fd(p:Program)(N:Nat)(w:World)(os:OsState):=pU treeTable p w 11 (some (.ref 6)) N (Aa w os) (topStub p)
def HB(p q:Program)(Xt:Shared->Bool)(w:World)(s:Shared) :=
 (staticsOk (importedModules p.main.body) (KR w.params) s.heap&&namesBound p s.heap&&gensDone s&&laidKept (KR w.params) s.heap,openSeen q [] (importedModules p.main.body) Xt true s)
def Nx{p q:Program}{Xt:Shared->Bool}{β:Type}{Yf:Shared->List β}{Ya:World->List β}{N:Nat}(k:Nat)(open_:∀w:World,(fencedOpening treeTable p w N).map (λs=>(s.heap,s.gens,s.drawn,s.toks))=some (ő w.params,Array.mk [],boot_drawn,boot_toks))(look:∀(w:World) (os:OsState),(Fd p N w os).map (λs=>HB p q Xt w s.abs)=some (true,openGood q []))(front:∀(w:World) (os:OsState),(Fd p N w os).map (λs=>(Yf s.abs).take k)=some ((Ya w).take k))(back:∀(w:World) (os:OsState),(Fd p N w os).map (λs=>(Yf s.abs).drop k)=some ((Ya w).drop k)):LeftO p q [] Xt Yf Ya N:=λw=>by
 obtain⟨⟨h,gs,d,j,os⟩,e,e'⟩:=Option.map_eq_some_iff.mp (open_ w)
 obtain⟨rfl,rfl,rfl,rfl⟩:h=ő w.params/\gs=#[]/\d=boot_drawn/\j=boot_toks:=by simpa using e'
 obtain⟨z1,z2,z3⟩:_/\_/\_:=by simpa only[Prod.mk.injEq] using GX w
 obtain⟨s,hs,l⟩:=Option.map_eq_some_iff.mp (look w os)
 have l4:(Yf s.abs).take k=(Ya w).take k:=by
  have:=front w os
  rw[hs] at this
  exact ç this
 have l5:(Yf s.abs).drop k=(Ya w).drop k:=by
  have:=back w os
  rw[hs] at this
  exact ç this
 have l3:Yf s.abs=Ya w:=by rw[←List.take_append_drop k (Yf s.abs),l4,l5,List.take_append_drop]
 unfold HB at l
 rw[←zH] at l
 obtain⟨l1,l2⟩:=Prod.mk.inj l
 have r:=tH hs
 rw[Ez] at r
 have t:topFrom treeTable p w N ⟨ő w.params,#[],boot_drawn,boot_toks,os⟩=some s.abs:=by
  unfold topFrom
  dsimp only
  rw[z1,z2,z3,r]
  show(match staticsOk (importedModules p.main.body) (ő w.params) s.abs.heap&&namesBound p s.abs.heap&&gensDone s.abs&&laidKept (ő w.params) s.abs.heap with|true=>_|false=>_)=_
  rw[l1]
 unfold openEnds
 rw[e]
 show(topFrom treeTable p w N _).map _=_
 rw[t]
 exact congrArg some (Prod.ext l2 l3)
end Nf
namespace Nf
open PySem L2 PyProof.Rows Dl
def top(i:Nat):Stmt:=PySem.Challenge.pw_nofall_k30_whatever_two_things.main.body.getD i (.Pass ⟨0,0,0,0⟩)
structure Proper(n:Int)(l:List Int):Prop where
 one:1<=l.length
 few:(l.length:Int)<n
 rng:∀x∈l,0<=x/\x<n
 rise:l.Pairwise (·<·)
 n16:n<=16
def PB(ds:List D)(P:D->Prop):Prop:=∃l:List Int,ds=[.list (l.map Ã)]/\l.length<=400/\P (.list ((l.dropLast.zip (l.drop 1)).map pD))
def toI:D->Int
 |.int i=>i
 |_=>0
def mK(l:List Int):Bool:=(l.dropLast.zip (l.drop 1)).all λt=>decide (t.1<t.2)
def Lz(m:Int):D->Bool
 |.list es=>es.all (aN m)&&mK (es.map toI)
 |_=>false
def Vd(n:Int):D->Bool
 |.list es=>decide ((1:Int)<=(es.length:Nat))&&decide (((es.length:Nat):Int)<n)
 |_=>false
def aG(n:Int)(d:D):Bool:=Lz n d&&Vd n d
def Few(d:D):Prop:=∀es,d=.list es->es.length<=400
def Ed(ds:List D)(P:D->Prop):Prop:=∃m d,ds=[.int m,d]/\Few d/\P (.bool (Lz m d))
def wN(ds:List D)(P:D->Prop):Prop:=∃n d,ds=[.int n,d]/\Few d/\P (.bool (aG n d))
def Kc(ds:List D)(P:D->Prop):Prop:=∃n us l,ds=[aV n us,.list (l.map Ã)]/\Proper n l/\P .none
def lv(l:List Int)(t:Tie):Bool:=decide (t.1∈l) != decide (t.2∈l)
def Vr(ds:List D)(P:D->Prop):Prop:=∃n us l,ds=[aV n us,.list (l.map Ã)]/\Proper n l/\us.length<=100/\P (.list ((us.filter (lv l)).map pD))
def Ka(ds:List D)(P:D->Prop):Prop:=∃n us l,ds=[aV n us,.list (l.map Ã)]/\Proper n l/\us.length<=100/\P (.int ((us.filter (lv l)).length:Nat))
def Ef(ds:List D)(P:D->Prop):Prop:=∃n us l fa,ds=[aV n us,.int fa,.list (l.map Ã)]/\Proper n l/\us.length<=100/\P (.int (if 0 > fa+1 - ((us.filter (lv l)).length:Nat) then 0 else fa+1 - ((us.filter (lv l)).length:Nat)))
def Gk{l:List Int}(h:l.Pairwise (·<·)):∀t∈l.dropLast.zip (l.drop 1),t.1<t.2:=by
 intro t ht
 obtain⟨i,hi,e⟩:=List.mem_iff_getElem.mp ht
 have h1:i<l.length - 1:=by
  rw[List.length_zip,ĥ,û] at hi
  omega
 rw[List.getElem_zip] at e
 have e1:l.dropLast[i]'(by rw[ĥ];exact h1)=l[i]:=List.getElem_dropLast _
 have e2:(l.drop 1)[i]'(by rw[û];exact h1)=l[1+i]:=List.getElem_drop
 rw[←e]
 simp only[e1,e2]
 exact(List.pairwise_iff_getElem.mp h) i (1+i) (by omega) (by omega) (by omega)
def fD{n:Int}{d:D}(h:aN n d=true):∃i:Int,d=.int i:=by
 cases d with
 |int i=>exact⟨i,rfl⟩
 |_=>cases h
def gD(d:D):bI d=.im d\/bI d=.sh d:=by
 unfold bI
 by_cases h:d8 d=true
 ·rw[if_pos h];exact .inl rfl
 ·rw[if_neg h];exact .inr rfl
def ints_of{n:Int}:∀{es:List D},es.all (aN n)=true->es=(es.map toI).map Ã
 |[],_=>rfl
 |d::es,h=>by
  rw[List.all_cons,Ë] at h
  obtain⟨i,rfl⟩:=fD h.1
  have:=ints_of h.2
  rw[ã,ã,←this]
  rfl
def mj(l:List Int):(l.map Ã).map toI=l:=by rw[õ];exact List.map_id' l
def qP{n:Int}{l:List Int}(h:Proper n l):aG n (.list (l.map Ã))=true:=by
 have h1:=h.one
 have h2:=h.few
 have e1:(l.map Ã).all (aN n)=true:=ü.mpr λd hd=>by
  obtain⟨x,hx,rfl⟩:=Ý.mp hd
  exact decide_eq_true (h.rng x hx)
 have e2:mK l=true:=ü.mpr λt ht=>decide_eq_true (Gk h.rise t ht)
 show(((l.map Ã).all (aN n)&&mK ((l.map Ã).map toI))&&(decide ((1:Int)<=((l.map Ã).length:Nat))&&decide ((((l.map Ã).length:Nat):Int)<n)))=true
 rw[e1,mj,e2,Á,decide_eq_true (show(1:Int)<=(l.length:Nat) by omega),decide_eq_true h2]
 rfl
def nJ{l:List Int}(h:l.length<=400):Few (.list (l.map Ã)):=λes e=>by
 injection e with e
 rw[←e,Á]
 exact h
def gB{α:Type}(l:List α):eG l none (some (-1))=l.dropLast:=by
 unfold eG
 have e1:HT.sIx l.length 0 none=0:=rfl
 have e2:HT.sIx l.length l.length (some (-1))=l.length - 1:=by
  have e:HT.sIx l.length l.length (some (-1))=((-1:Int)+(l.length:Int)).toNat:=rfl
  rw[e]
  omega
 rw[e1,e2,List.drop_zero,Nat.sub_zero,List.dropLast_eq_take]
def jP{α:Type}(l:List α):eG l (some 1) none=l.drop 1:=by
 unfold eG
 have e1:HT.sIx l.length l.length none=l.length:=rfl
 have e2:HT.sIx l.length 0 (some 1)=min 1 l.length:=HT.u9 l.length 0 1
 rw[e1,e2]
 rw[Ÿ (by rw[û];omega)]
 by_cases h:1<=l.length
 ·rw[Nat.min_eq_left h]
 ·have:l=[]:=List.length_eq_zero_iff.mp (by omega)
  subst this
  rfl
def xG(a b:List Int):((a.map Ã).zip (b.map Ã)).map prD=(a.zip b).map pD:=by
 rw[List.zip_map,õ]
 rfl
section
variable {P:Program}{w:World}{K:Ú}{mg:Str->Option Value}{base:Heap}{f:Addr}{fd:FuncData}
def sc4:FnScope ["thing"] ["thing"] (ak (top 4)):=zC
def Jh(F:Fun K "is_whole" "is_whole" (top 4) f fd)(B:ľ mg):FnOk P w K mg base CX0 1 f fd ["thing"] (spD J6):=by
 refine F.ok sc4 ħ (λcdv A outer s H vs Q E hr h=>?_)
 refine⟨_,aF (bB (gJ (dz Nz B.isinstance (dv 0) (mQ (v:=.ty "int") rfl B.int boot_int rfl)) (iH (Q7 (dz JN B.isinstance (dv 0) (mQ (v:=.ty "bool") rfl B.bool boot_bool rfl)))))),wR h ?_⟩
 rintro ds P ⟨d,rfl,q⟩
 unfold Gx Cr tIs
 refine Ho (d:=d) rfl λk=>?_
 cases d <;> exact⟨rfl,q⟩
def sc5:FnScope ["limit","thing"] ["limit","thing"] (ak (top 5)):=zC
def Jl(F:Fun K "is_below" "is_below" (top 5) f fd)(W:Ą P w K mg base 1 "is_whole" ["thing"] (spD J6)):FnOk P w K mg base CX0 2 f fd ["limit","thing"] (spD Bt):=by
 refine F.ok sc5 ħ (λcdv A outer s H vs Q E hr h=>?_)
 refine⟨_,aF (bB (gJ (dc W hr (aj (dv 1) ao)) (iH (Dp aC (dv 1) (dv 0))))),wR h ?_⟩
 rintro ds P ⟨m,d,rfl,q⟩
 unfold Gx Cr tFn bM
 refine Ho (d:=d) rfl λk=>⟨d,rfl,?_⟩
 cases d with
 |int i =>
  have e:P (.bool (decide (0<=i/\i<m))):=q
  by_cases h0:(0:Int)<=i
  ·show if decide ((0:Int)<=i)=true then _ else _
   rw[decide_eq_true h0]
   refine aK (B:=True) ⟨rfl,?_⟩
   have e2:decide (0<=i/\i<m)=decide (i<m):=by simp[h0]
   rw[e2] at e
   exact e
  ·show if decide ((0:Int)<=i)=true then _ else _
   rw[decide_eq_false h0]
   refine bD (A:=True) ⟨rfl,?_⟩
   have e2:decide (0<=i/\i<m)=false:=by simp[h0]
   rw[e2] at e
   exact e
 |_=>exact⟨rfl,q⟩
def sc7:FnScope ["places"] ["places"] (ak (top 9)):=zC
def MP(F:Fun K "hops" "hops" (top 9) f fd)(B:ľ mg)(mz:mg "zip"=none):FnOk P w K mg base CX0 1 f fd ["places"] (spD PB):=by
 refine F.ok sc7 ħ (λcdv A outer s H vs Q E hr h=>?_)
 refine⟨_,aF (bB (Aq rfl B.list mz (aj (vD (dv 0) dO (iR (gG aC))) (aj (vD (dv 0) (iR aC) dO) ao)))),wR h ?_⟩
 rintro ds P ⟨l,rfl,hl,q⟩
 refine .inl ⟨?_,.inl ⟨?_,?_,.inl ⟨?_,rfl,?_⟩⟩⟩
 ·show cJ (eG (l.map Ã) none (some (-1)))=true
  rw[gB,←Ź]
  exact œ _
 ·show cJ (eG (l.map Ã) (some 1) none)=true
  rw[jP,←Ő]
  exact œ _
 ·show(eG (l.map Ã) none (some (-1))).length<=1000
  rw[gB,ĥ,Á]
  omega
 ·show cJ _=true
  rw[gB,jP,←Ź,←Ő,xG]
  exact g8 _
 ·show P _
  rw[gB,jP,←Ź,←Ő,xG]
  exact q
end
section
variable {P:Program}{w:World}{K:Ú}{mg:Str->Option Value}{base:Heap}{f:Addr}{fd:FuncData}
def sc9:FnScope ["limit","thing"] ["limit","thing"] (ak (top 11)):=zC
def WL:(["number","limit","thing"]:List Str).Nodup:=by decide +kernel
def WK:(["hop","limit","thing"]:List Str).Nodup:=by decide +kernel
def Ft(F:Fun K "is_rising" "is_rising" (top 11) f fd)(B:ľ mg)(W:Ą P w K mg base 2 "is_below" ["limit","thing"] (spD Bt))(HO:Ą P w K mg base 1 "hops" ["places"] (spD PB)):FnOk P w K mg base CX0 3 f fd ["limit","thing"] (spD Ed):=by
 refine F.ok sc9 ħ (λcdv A outer s H vs Q E hr h=>?_)
 refine⟨_,aJ (cU (PDW.pt (jw (cD (bO (dz rK B.isinstance (dv 1) (mQ (v:=.ty "list") rfl B.list boot_list rfl)))) (gn (cD (bO (jA rfl B.all Dl.boot_all (aj (kO ["number"] rfl (dR (dv 1)) (λc=>aU (Ř (i:=0) WL rfl (Ė rfl))) (λc=>dM) (λc=>dc W hr (aj (dv 1) (aj (dv 0) ao)))) ao))))))) (aF (bB gU)) dN)
  (aF (bB (jA rfl B.all Dl.boot_all (aj (kO ["hop"] rfl (dR (dc HO hr (aj (dv 1) ao))) (λc=>aU (Ř (i:=0) WK rfl (Ė rfl))) (λc=>dM) (λc=>tW (fL (dv 0) aC (λ_ _=>rfl)) (fL (dv 0) aC (λ_ _=>rfl)))) ao)))),aY h ?_⟩
 rintro ds P ⟨n,d,rfl,hf,q⟩
 refine⟨[.im (.int n),bI d],rfl,?_⟩
 cases d with
 |list es =>
  have hl:=hf es rfl
  have q:P (.bool (es.all (aN n)&&mK (es.map toI))):=q
  refine bD (A:=True) ⟨by omega,.imm,λi ys=>ys=(es.take i).map λd=>PyData.bool (aN n d),rfl,λi d ys hd hy=>?_,λys hy=>?_⟩
  ·subst hy
   by_cases hi:d8 d=true
   ·have en:∀k,norm k d=.imm:=λk=>ř hi
    unfold gNm
    simp only[en]
    exact aK (B:=True) ⟨n,d,rfl,rfl,(cY _ hd).symm⟩
   ·have en:∀k,norm k d=k:=λk=>bR hi
    unfold gNm
    simp only[en]
    exact aK (B:=True) ⟨n,d,rfl,rfl,(cY _ hd).symm⟩
  ·dsimp only at hy
   rw[ĉ] at hy
   refine⟨es.map (aN n),by rw[hy,õ];rfl,?_⟩
   rw[List.all_map]
   show if (!es.all (aN n))=true then _ else _
   cases ha:es.all (aN n) with
   |false =>
    rw[ha] at q
    exact⟨rfl,q⟩
   |true =>
    rw[ha] at q
    have q:P (.bool (mK (es.map toI))):=q
    have ei:=ints_of ha
    generalize hm:es.map toI=l at q ei
    have hll:l.length<=400:=by rw[←hm,Á];exact hl
    subst ei
    -- rising
    refine⟨l,rfl,hll,?_,.imm,λi ys=>ys=((l.dropLast.zip (l.drop 1)).take i).map λt=>PyData.bool (decide (t.1<t.2)),rfl,?_,?_⟩
    ·rw[Á,List.length_zip,ĥ]
     omega
    ·rintro i d ys hd rfl
     obtain⟨t,ht,rfl⟩:=eU hd
     exact aK (B:=True) ⟨.int t.1,rfl,.int t.2,rfl,rfl,(cY _ ht).symm⟩
    rintro ys rfl
    refine⟨(l.dropLast.zip (l.drop 1)).map λt=>decide (t.1<t.2),?_,rfl,?_⟩
    ·rw[Á,ĉ,õ]
     rfl
    ·rw[List.all_map]
     rw[mj] at q
     exact q
 |tuple es=>rcases gD (.tuple es) with e|e <;> rw[e] <;> exact aK (B:=True) ⟨rfl,q⟩
 |_=>exact aK (B:=True) ⟨rfl,q⟩
def Wh:FnScope ["n","thing"] ["n","thing"] (ak (top 12)):=zC
def Fv(F:Fun K "is_proper_set" "is_proper_set" (top 12) f fd)(B:ľ mg)(R:Ą P w K mg base 3 "is_rising" ["limit","thing"] (spD Ed)):FnOk P w K mg base CX0 4 f fd ["n","thing"] (spD wN):=by
 refine F.ok Wh ħ (λcdv A outer s H vs Q E hr h=>?_)
 refine⟨_,aF (bB (gJ (dc R hr (aj (dv 0) (aj (dv 1) ao))) (iH (Dp aC (fK B.len (aj (dv 1) ao)) (dv 0))))),aY h ?_⟩
 rintro ds P ⟨n,d,rfl,hf,q⟩
 refine⟨[.im (.int n),bI d],rfl,?_⟩
 have q:P (.bool (Lz n d&&Vd n d)):=q
 cases d with
 |list es =>
  refine⟨n,.list es,rfl,hf,gZ (λc=>?_) (λc=>?_)⟩
  ·rw[c] at q
   have q:P (.bool (decide ((1:Int)<=(es.length:Nat))&&decide (((es.length:Nat):Int)<n))):=q
   show if decide ((1:Int)<=(es.length:Nat))=true then _ else _
   refine gZ (λc1=>⟨rfl,?_⟩) (λc1=>⟨rfl,?_⟩)
   ·rw[c1] at q
    exact q
   ·have c1:decide ((1:Int)<=(es.length:Nat))=false:=by simpa using c1
    rw[c1] at q
    exact q
  ·have c:Lz n (.list es)=false:=by simpa using c
   rw[c] at q
   exact⟨rfl,q⟩
 |tuple es=>rcases gD (.tuple es) with e|e <;> rw[e] <;> exact⟨n,.tuple es,rfl,hf,bD (A:=True) ⟨rfl,q⟩⟩
 |_=>exact⟨n,_,rfl,hf,bD (A:=True) ⟨rfl,q⟩⟩
def Wn:FnScope ["web","thing"] ["web","thing"] (ak (top 13)):=zC
def yx(F:Fun K "check_set" "check_set" (top 13) f fd)(PS:Ą P w K mg base 4 "is_proper_set" ["n","thing"] (spD wN)):FnOk P w K mg base CX0 5 f fd ["web","thing"] (spD Kc):=by
 refine F.ok Wn ħ (λcdv A outer s H vs Q E hr h=>?_)
 refine⟨_,aF (cU (cD (bO (dc PS hr (aj (fL (dv 0) aC (λ_ _=>rfl)) (aj (dv 1) ao))))) (aF nM) dN),aY h ?_⟩
 rintro ds P ⟨n,us,l,rfl,hP,q⟩
 refine⟨[.im (aV n us),.sh (.list (l.map Ã))],?_,?_⟩
 ·show [bI (aV n us),bI (.list (l.map Ã))]=_
  rw[cI]
  rfl
 refine⟨.int n,rfl,n,_,rfl,nJ (by have:=hP.few;have:=hP.n16;omega),?_⟩
 show if (!aG n (.list (l.map Ã)))=true then _ else _
 rw[qP hP]
 exact bD (A:=False) q
def Ue:FnScope ["tie","some"] ["tie","some"] (ak (top 16)):=zC
def fLv(ds:List D)(P:D->Prop):Prop:=∃t l,ds=[pD t,.list (l.map Ã)]/\P (.bool (lv l t))
def Fx(F:Fun K "leaves" "leaves" (top 16) f fd):FnOk P w K mg base CX0 1 f fd ["tie","some"] (spD fLv):=by
 refine F.ok Ue ħ (λcdv A outer s H vs Q E hr h=>?_)
 refine⟨_,aF (bB (Uw (OJ hr.units (fL (dv 0) aC (λ_ _=>rfl)) (dv 1)) (OJ hr.units (fL (dv 0) aC (λ_ _=>rfl)) (dv 1)))),aY h ?_⟩
 rintro ds P ⟨t,l,rfl,q⟩
 refine⟨[.im (pD t),.sh (.list (l.map Ã))],rfl,?_⟩
 refine⟨.int t.1,rfl,rfl,d7 l,.int t.2,rfl,rfl,d7 l,rfl,?_⟩
 show P (.bool (!decide ((((l.map Ã).any λe=>ý e (.int t.1)):Bool)=((l.map Ã).any λe=>ý e (.int t.2)))))
 rw[ţ,ţ]
 have e:(!decide ((decide (t.1∈l):Bool)=decide (t.2∈l)))=lv l t:=by
  unfold lv
  cases decide (t.1∈l) <;> cases decide (t.2∈l) <;> rfl
 rw[e]
 exact q
def Wm:FnScope ["web","some"] ["web","some"] (ak (top 17)):=zC
def WM:(["tie","web","some"]:List Str).Nodup:=by decide +kernel
def Rm(F:Fun K "ties_that_leave" "ties_that_leave" (top 17) f fd)(CH:Ą P w K mg base 5 "check_set" ["web","thing"] (spD Kc))(LV:Ą P w K mg base 1 "leaves" ["tie","some"] (spD fLv)):FnOk P w K mg base CX0 6 f fd ["web","some"] (spD Vr):=by
 refine F.ok Wm ħ (λcdv A outer s H vs Q E hr h=>?_)
 refine⟨_,aJ (qx (dc CH hr (aj (dv 0) (aj (dv 1) ao)))) (aF (bB (kO ["tie"] rfl (dR (fL (dv 0) aC (λ_ _=>rfl))) (λc=>aU (Ř (i:=0) WM rfl (Ė rfl)))
  (λc=>eZ (bO (dc LV hr (aj (dv 0) (aj (dv 2) ao))))) (λc=>dv 0)))),aY h ?_⟩
 rintro ds P ⟨n,us,l,rfl,hP,hl,q⟩
 refine⟨[.im (aV n us),.sh (.list (l.map Ã))],?_,n,us,l,rfl,hP,?_⟩
 ·show [bI (aV n us),bI (.list (l.map Ã))]=_
  rw[cI]
  rfl
 refine⟨.tuple (us.map pD),rfl,by rw[Á];omega,.imm,λi ys=>ys=((us.take i).filter (lv l)).map pD,rfl,?_,?_⟩
 ·rintro i d ys hd rfl
  obtain⟨t,ht,rfl⟩:=eU hd
  refine⟨t,l,rfl,?_⟩
  show if lv l t=true then _ else _
  have sn:=Oh (lv l) pD ht
  cases hb:lv l t with
  |true =>
   rw[hb,if_pos rfl] at sn
   exact aK (B:=True) ⟨rfl,sn.symm⟩
  |false =>
   rw[hb,if_neg Ð,ø] at sn
   exact bD (A:=True) sn.symm
 ·rintro ys rfl
  refine⟨rfl,?_⟩
  rw[take_all us (by rw[Á];exact É _)]
  exact q
def Wk:FnScope ["web","some"] ["web","some"] (ak (top 18)):=zC
def MN(F:Fun K "leaving" "leaving" (top 18) f fd)(B:ľ mg)(TL:Ą P w K mg base 6 "ties_that_leave" ["web","some"] (spD Vr)):FnOk P w K mg base CX0 7 f fd ["web","some"] (spD Ka):=by
 refine F.ok Wk ħ (λcdv A outer s H vs Q E hr h=>?_)
 refine⟨_,aF (bB (fK B.len (aj (dc TL hr (aj (dv 0) (aj (dv 1) ao))) ao))),aY h ?_⟩
 rintro ds P ⟨n,us,l,rfl,hP,hl,q⟩
 refine⟨[.im (aV n us),.sh (.list (l.map Ã))],?_,n,us,l,rfl,hP,hl,rfl,?_⟩
 ·show [bI (aV n us),bI (.list (l.map Ã))]=_
  rw[cI]
  rfl
 ·show P (.int (((us.filter (lv l)).map pD).length:Nat))
  rw[Á]
  exact q
def Wj:FnScope ["web","falls","some"] ["web","falls","some"] (ak (top 19)):=zC
def MK(F:Fun K "need" "need" (top 19) f fd)(B:ľ mg)(LV:Ą P w K mg base 7 "leaving" ["web","some"] (spD Ka)):FnOk P w K mg base CX0 8 f fd ["web","falls","some"] (spD Ef):=by
 refine F.ok Wj ħ (λcdv A outer s H vs Q E hr h=>?_)
 refine⟨_,aF (bB (Mr rfl B.max (aj (cX (vL (dv 1) aC) (dc LV hr (aj (dv 0) (aj (dv 2) ao)))) (aj aC ao)))),aY h ?_⟩
 rintro ds P ⟨n,us,l,fa,rfl,hP,hl,q⟩
 refine⟨[.im (aV n us),.im (.int fa),.sh (.list (l.map Ã))],?_,n,us,l,rfl,hP,hl,rfl,q⟩
 show [bI (aV n us),bI (.int fa),bI (.list (l.map Ã))]=_
 rw[cI]
 rfl
end
def dG:D->List Int
 |.list es=>es.map toI
 |_=>[]
def pQ(l:List Int):Bool:=decide ((once l).length=l.length)
def sZ(n:Int):D->Bool
 |.list es=>es.all (aG n)&&pQ (es.flatMap dG)
 |_=>false
def K9(d:D):Prop:=∀es,d=.list es->es.length<=60/\∀e∈es,Few e
def R9(ds:List D)(P:D->Prop):Prop:=∃n d,ds=[.int n,d]/\K9 d/\n<=16/\P (.bool (sZ n d))
def yh{n:Int}{d:D}(n16:n<=16)(h:aG n d=true):∃l:List Int,d=.list (l.map Ã)/\dG d=l/\l.length<=15:=by
 unfold aG at h
 rw[Ë] at h
 cases d with
 |list es =>
  have h1:(es.all (aN n)&&mK (es.map toI))=true:=h.1
  rw[Ë] at h1
  have h2:(decide ((1:Int)<=(es.length:Nat))&&decide (((es.length:Nat):Int)<n))=true:=h.2
  rw[Ë,decide_eq_true_eq,decide_eq_true_eq] at h2
  exact⟨es.map toI,congrArg _ (ints_of h1.1),rfl,by rw[Á];omega⟩
 |_=>cases h.1
section
variable {P:Program}{w:World}{K:Ú}{mg:Str->Option Value}{base:Heap}{f:Addr}{fd:FuncData}
def T7:FnScope ["n","thing","places","some"] ["n","thing"] (ak (top 21)):=zC
def Wz:(["some","n","thing","places",""]:List Str).Nodup:=by decide +kernel
def Rr(F:Fun K "is_family" "is_family" (top 21) f fd)(B:ľ mg)(ms:mg "set"=none)(PS:Ą P w K mg base 4 "is_proper_set" ["n","thing"] (spD wN)):FnOk P w K mg base CX0 5 f fd ["n","thing"] (spD R9):=by
 refine F.ok T7 ħ (λcdv A outer s H vs Q E hr h=>?_)
 have nd:=T7.nd
 refine⟨_,aJ (cU (PDW.pt (jw (cD (bO (dz rK B.isinstance (dv 1) (mQ (v:=.ty "list") rfl B.list boot_list rfl)))) (gn (cD (bO (jA rfl B.all Dl.boot_all (aj (Q9 ["some"] ["n","thing","places",""] rfl (dR (dv 1)) (λc=>aU (Ř (i:=0) Wz rfl (Ė rfl))) (λc=>dM) (λc=>dc PS hr (aj (dv 1) (aj (dv 0) ao))) (hk:=rfl)) ao))))))) (aF (bB gU)) dN)
  (aJ (cQ (some 0) (bU (i:=2) nd rfl (Ė rfl) (cW ao)))
  (aJ (eF Ē rfl (dR (dv 1)) (aU (Ř (i:=3) nd rfl (Ė rfl)))
   (aF (dW (i:=2) (cC (iZ þ ť Ť j6 (pv 2) (aj (dv 3) ao))))))
  (aF (bB (Ux (Fo rfl ms B.len (aj (dv 2) ao)) (fK B.len (aj (dv 2) ao))))))),aY h ?_⟩
 rintro ds P ⟨n,d,rfl,hf,n16,q⟩
 refine⟨[.im (.int n),bI d,.any,.any],rfl,?_⟩
 cases d with
 |list es =>
  obtain⟨hl,hfe⟩:=hf es rfl
  have q:P (.bool (es.all (aG n)&&pQ (es.flatMap dG))):=q
  refine bD (A:=True) ⟨by omega,.imm,λi ys=>ys=(es.take i).map λd=>PyData.bool (aG n d),rfl,λi d ys hd hy=>?_,λys hy=>?_⟩
  ·subst hy
   have hfd:=hfe d (Ò hd)
   by_cases hi:d8 d=true
   ·have en:∀k,norm k d=.imm:=λk=>ř hi
    unfold gNm
    simp only[en]
    exact aK (B:=True) ⟨n,d,rfl,hfd,rfl,(cY _ hd).symm⟩
   ·have en:∀k,norm k d=k:=λk=>bR hi
    unfold gNm
    simp only[en]
    exact aK (B:=True) ⟨n,d,rfl,hfd,rfl,(cY _ hd).symm⟩
  ·dsimp only at hy
   rw[ĉ] at hy
   refine⟨es.map (aG n),by rw[hy,õ];rfl,?_⟩
   rw[List.all_map]
   show if (!es.all (aG n))=true then _ else _
   cases ha:es.all (aG n) with
   |false =>
    rw[ha] at q
    exact⟨rfl,q⟩
   |true =>
    rw[ha] at q
    have q:P (.bool (pQ (es.flatMap dG))):=q
    have pr:∀e∈es,∃l:List Int,e=.list (l.map Ã)/\dG e=l/\l.length<=15:=λe he=>yh n16 (ü.mp ha e he)
    refine bD (A:=True) ⟨by decide,rfl,λ(i:Nat) ρ=>∃(l:List Int) (s3:Sl),s3.region=none/\ρ=[.im (.int n),.sh (.list es),.dw 0 (.list (l.map Ã)),s3]/\l=(es.take i).flatMap dG/\l.length<=15 * i,⟨[],.any,rfl,rfl,rfl,É _⟩,?_,?_⟩
    ·rintro i d ρ hd ⟨l,s3,h3,rfl,rfl,hl2⟩
     obtain⟨m,rfl,em,hm⟩:=pr d (Ò hd)
     have hi:=(Ö.mp hd).1
     have lm:(((es.take i).flatMap dG).map Ã).length=((es.take i).flatMap dG).length:=Á ..
     have lm2:(m.map Ã).length=m.length:=Á ..
     refine⟨by show(_ || cJ (m.map Ã))=true;rw[œ,Bool.or_true],by omega,(es.take i).flatMap dG++m,.sh (.list (m.map Ã)),rfl,?_,?_,?_⟩
     ·rw[Þ]
      rfl
     ·rw[ĺ,hd,List.flatMap_append]
      show _=_++([ÿ (m.map Ã)].flatMap dG)
      rw[ź,List.flatMap_nil,ø,em]
     ·rw[Æ];omega
    ·rintro ρ ⟨l,s3,h3,rfl,rfl,hl2⟩
     rw[ĉ] at hl2 ⊢
     refine⟨_,_,rfl,by omega,rfl,?_⟩
     show P (.bool (decide ((((once (es.flatMap dG)).length:Nat):Int)=(((es.flatMap dG).map Ã).length:Nat))))
     have e:decide ((((once (es.flatMap dG)).length:Nat):Int)=(((es.flatMap dG).map Ã).length:Nat))=pQ (es.flatMap dG):=by
      unfold pQ
      rw[Á,ě,decide_eq_true_eq,decide_eq_true_eq]
      omega
     rw[e]
     exact q
 |tuple es=>rcases gD (.tuple es) with e|e <;> rw[e] <;> exact aK (B:=True) ⟨rfl,q⟩
 |_=>exact aK (B:=True) ⟨rfl,q⟩
end
def cM(c:Addr)(a r:Int):List (Key×V):=[(.inr "cells",.ref c),(.inr "at",.int a),(.inr "rest",.int r)]
def Qe(p c:Addr)(ns:List Int)(H:Hp):Prop:=∃a r:Int,H p=some (.dK (cM c a r))/\H c=some (.lst (ns.map ż))
def Mh(p c:Addr)(ns:List Int):Pn where
 fp:=λb=>b=p\/b=c
 PI:=Qe p c ns
 pv:=.ref p
 mono:=λH H' ⟨a,r,h1,h2⟩ k=>⟨a,r,k _ _ (.inl (.inl rfl)) h1,k _ _ (.inl (.inr rfl)) h2⟩
 is:=λH b ⟨a,r,h1,h2⟩ hb=>by
  rcases hb with rfl|rfl
  ·exact⟨_,h1,(λxs z=>(nomatch z)),λ⟨_,_,z⟩=>(nomatch z)⟩
  ·exact⟨_,h2,(λxs z=>(nomatch z)),λ⟨_,_,z⟩=>(nomatch z)⟩
def CP(q:Pn):Prop:=∃p c ns,p≠c/\q=Mh p c ns
def Le(c:Addr)(a r:Int):jg (cM c a r) (.inr "cells")=some (.ref c):=by
 unfold cM jg
 simp
def Tf(c:Addr)(a r:Int):jg (cM c a r) (.inr "at")=some (.int a):=by
 unfold cM jg
 have h1:¬((Ĉ ("cells":Str):Key)=Ĉ ("at":Str)):=by intro z;injection z with z;exact absurd z (by decide +kernel)
 simp[Ŋ,h1]
def v_rest(c:Addr)(a r:Int):jg (cM c a r) (.inr "rest")=some (.int r):=by
 unfold cM jg
 have h1:¬((Ĉ ("cells":Str):Key)=Ĉ ("rest":Str)):=by intro z;injection z with z;exact absurd z (by decide +kernel)
 have h2:¬((Ĉ ("at":Str):Key)=Ĉ ("rest":Str)):=by intro z;injection z with z;exact absurd z (by decide +kernel)
 simp[Ŋ,h1,h2]
def Wv(c:Addr)(a r b:Int):putK (cM c a r) (.inr "at") (.int b)=cM c b r:=by
 unfold putK
 rw[if_pos (by rw[lY,Tf];rfl)]
 unfold cM
 have h1:¬((Ĉ ("cells":Str):Key)=Ĉ ("at":Str)):=by intro z;injection z with z;exact absurd z (by decide +kernel)
 have h2:¬((Ĉ ("rest":Str):Key)=Ĉ ("at":Str)):=by intro z;injection z with z;exact absurd z (by decide +kernel)
 simp[h1,h2]
def Rb(c:Addr)(a r b:Int):putK (cM c a r) (.inr "rest") (.int b)=cM c a b:=by
 unfold putK
 rw[if_pos (by rw[lY,v_rest];rfl)]
 unfold cM
 have h1:¬((Ĉ ("cells":Str):Key)=Ĉ ("rest":Str)):=by intro z;injection z with z;exact absurd z (by decide +kernel)
 have h2:¬((Ĉ ("at":Str):Key)=Ĉ ("rest":Str)):=by intro z;injection z with z;exact absurd z (by decide +kernel)
 simp[h1,h2]
def uz(ds:List D)(P:D->Prop):Prop:=∃m:Int,ds=[.int m]/\0<m/\m<1073741824/\∀r:Int,0<=r->r<m->P (.int r)
def nu{C:Pn->Prop}{f:List D->(D->Prop)->Prop}{n:Nat}(hn:∀ds P,f ds P->ds.length=n:=by intro _ _ h;repeat (first|(obtain⟨rfl,_⟩:=h;rfl)|obtain⟨_,h⟩:=h)):∀vs H Q E,spP C f vs H Q E->vs.length=n+1:=λvs H Q E h=>by
 obtain⟨p,vs',ds,P,_,rfl,_,r,t,_⟩:=h
 rw[Ù,r.length,hn ds P t]
def wJ{H:Hp}{p c:Addr}{a r:Int}(h:H p=some (.dK (cM c a r))):sJ H p (.str "cells") (some (.ref c)):=by
 have q:=sJ.k (k:=Ĉ ("cells":Str)) h
 rw[Le] at q
 exact q
def W0{H:Hp}{p c:Addr}{a r:Int}(h:H p=some (.dK (cM c a r))):sJ H p (.str "at") (some (.int a)):=by
 have q:=sJ.k (k:=Ĉ ("at":Str)) h
 rw[Tf] at q
 exact q
def Bm{H:Hp}{p c:Addr}{a r:Int}(h:H p=some (.dK (cM c a r))):sJ H p (.str "rest") (some (.int r)):=by
 have q:=sJ.k (k:=Ĉ ("rest":Str)) h
 rw[v_rest] at q
 exact q
def V6{H:Hp}{p c:Addr}{a r:Int}(b:Int)(h:H p=some (.dK (cM c a r))):zR H p (.str "at") (.int b) (upd H p (.dK (cM c b r))):=by
 have q:=zR.k (k:=Ĉ ("at":Str)) (v:=.int b) h (by show 3<sizeLine;rw[é];decide)
 rw[Wv] at q
 exact q
def Hh{H:Hp}{p c:Addr}{a r:Int}(b:Int)(h:H p=some (.dK (cM c a r))):zR H p (.str "rest") (.int b) (upd H p (.dK (cM c a b))):=by
 have q:=zR.k (k:=Ĉ ("rest":Str)) (v:=.int b) h (by show 3<sizeLine;rw[é];decide)
 rw[Rb] at q
 exact q
def xY{ok:Addr->Prop}{H:Hp}:∀ns:List Int,Rps ok H (ns.map ż) (ns.map Ã)
 |[]=>.nil
 |n::ns=>.cons (.int n) (xY ns)
def lay_ints:∀ns:List Int,ĩ (ns.map Ã)=true
 |[]=>rfl
 |n::ns=>lay_ints ns
def zq:∀ns:List Int,ī (ns.map Ã)<=0
 |[]=>É _
 |n::ns=>by
  show max 0 (ī (ns.map Ã))<=0
  have:=zq ns
  omega
def Jq(ns:List Int):okD (.list (ns.map Ã))=true:=by
 have h1:=lay_ints ns
 have h2:ī (ns.map Ã)+1<=60:=by have:=zq ns;omega
 show(ĩ (ns.map Ã)&&decide (ī (ns.map Ã)+1<=60))=true
 rw[h1,decide_eq_true h2]
 rfl
def Ot{i:Int}{ns:List Int}(h:(0:Int)<((ns.map ż).length:Nat)):∃v:Int,atI (ns.map ż) (i % (((ns.map ż).length:Nat):Int))=some (.int v):=by
 rw[Á] at h ⊢
 have h1:=Int.emod_nonneg i (b:=(ns.length:Int)) (by omega)
 have h2:=Int.emod_lt_of_pos i h
 have hk:(i % (ns.length:Int)).toNat<ns.length:=by omega
 have ek:i % (ns.length:Int)=(((i % (ns.length:Int)).toNat:Nat):Int):=by omega
 have q:atI (ns.map ż) (((i % (ns.length:Int)).toNat:Nat):Int)=some (.int ns[(i % (ns.length:Int)).toNat]):=gC (by rw[è,Ì hk];rfl)
 rw[←ek] at q
 exact⟨_,q⟩
def FQ{x m:Int}(hm:0<m)(hb:m<=2 ^ 32):-(2 ^ 64)<x % m/\x % m<2 ^ 64:=by
 have h1:=Int.emod_nonneg x (b:=m) (by omega)
 have h2:=Int.emod_lt_of_pos x hm
 omega
def Vg{k:Nat}{A:Around}(hr:Room k A):A.units+1<cLine:=by have:=hr.units;omega
def PSs.wk{X:Cx}{ss:List Stmt}{t t':TS}(h:PSs X ss t)(w:∀D σ H,t' D σ H->t D σ H):PSs X ss t':=λpins s σ H D I q=>h pins s σ H D I (w D σ H q)
def tDr(p c:Addr):TS:=λD σ H=>∃(a2 a5:Option V) (m i cell a r:Int),σ=[some (.ref p),some (.int m),a2,some (.int i),some (.int cell),a5]/\0<m/\m<1073741824/\H p=some (.dK (cM c a r))/\∀r',0<=r'->r'<m->D.rt (.int r') H/\∀b,D.rt (.int r') (upd H p (.dK (cM c a b)))
section
variable {P:Program}{w:World}{K:Ú}{mg:Str->Option Value}{base:Heap}{f:Addr}{fd:FuncData}
def Ud:FnScope ["_law_pen_here","_law_many","_law_found","_law_at","_law_cell","_law_number"] ["_law_pen_here","_law_many"] (ak (top 45)):=zC
def M4(F:Fun K "_law_draw" "_law_draw" (top 45) f fd)(B:ľ mg):FnOk P w K mg base CX0 1 f fd ["_law_pen_here","_law_many"] (spP CP uz):=by
 refine F.ok Ud nu (λcdv A outer s H vs Q E hr h=>?_)
 obtain⟨_,vs',ds,P,⟨p,c,ns,hpc,rfl⟩,rfl,⟨a,r,hp,hc⟩,rp,⟨m,rfl,m0,m30,hP⟩,q⟩:=h
 obtain rfl:vs'=[.int m]:=by
  cases rp with
  |cons h1 t=>cases h1;cases t;rfl
 have nd:=Ud.nd
 have hu:=Vg hr
 refine⟨_,Ŷ (Df (p7 O4 (iG hu (pv 0) dH (λ_ _=>rfl)) bV (bK _))
   (Ŷ (bU (i:=2) nd rfl (Ė rfl) (cR jB (iG hu (pv 0) dH (λ_ _=>rfl)) (pv 1)))
   (Ŷ (vh hu (pv 0) dH (cR qj (iG hu (pv 0) dH (λ_ _=>rfl)) (pv 1)) rfl)
   (gk (lC (pv 2))))) qb)
  (Ŷ (bU (i:=3) nd rfl (Ė rfl) (iG hu (pv 0) dH (λ_ _=>rfl)))
  (Ŷ (vh hu (pv 0) dH (cR lJ (pv 3) bV) rfl)
  (Ŷ (bU (i:=4) nd rfl (Ė rfl) bV)
  (Ŷ (Df (p7 (vN hr.units) (iG hu (pv 0) dH (λ_ _=>rfl)) (Ai gK) (bK _))
   (gk (bU (i:=4) nd rfl (Ė rfl) (Dk wH (iG hu (pv 0) dH (λ_ _=>rfl)) (cR jB (pv 3) (mO nQ rfl B.len PySem.boot_len (bY (iG hu (pv 0) dH (λ_ _=>rfl)) gK))) (λ_ _=>rfl)))) qb)
  (PSs.wk (t':=tDr p c) (Ŷ (Df (p7 Je (pv 4) (cR Ja bV bV) (bK _))
   (Ŷ (vh hu (pv 0) dH (cR qj (pv 4) (pv 1)) rfl)
   (gk (lC (cR jB (pv 4) (pv 1))))) qb)
  (Ŷ (bU (i:=5) nd rfl (Ė rfl) (cR jB (cR oM (cR lJ (cR lJ (cR jB (pv 4) bV) (cR oM bV (pv 3))) bV) bV) bV))
  (Ŷ (bU (i:=5) nd rfl (Ė rfl) (cR jB (cR lJ (cR lJ (cR oM (pv 5) (pv 5)) (cR oM bV (pv 3))) bV) bV))
  (gk (lC (cR jB (cR qj (pv 5) bV) (pv 1))))))) ?dr))))),?_⟩
 case dr =>
  rintro D σ H' ⟨a2,a5,m,i,cell,a,r,rfl,m0,m30,hp,hq⟩
  have md:∀x:Int,0<=x % m/\x % m<m:=λx=>⟨Int.emod_nonneg _ (by omega),Int.emod_lt_of_pos _ m0⟩
  refine⟨_,rfl,_,_,rfl,rfl,⟨by decide,by decide,by decide⟩,_,_,rfl,rfl,_,rfl,gZ (λc1=>?_) (λc1=>?_)⟩
  ·exact⟨_,rfl,_,rfl,_,_,rfl,rfl,⟨m0,m30⟩,_,rfl,p,_,rfl,Hh _ hp,_,rfl,_,rfl,_,_,rfl,rfl,m0,(hq _ (md _).1 (md _).2).2 _⟩
  ·refine⟨_,rfl,_,_,rfl,rfl,(by show(0:Int)<2147483629;decide),_,rfl,_,_,rfl,rfl,.inl ⟨by decide,by decide⟩,_,_,rfl,rfl,_,_,rfl,rfl,_,_,rfl,rfl,.inr ⟨by decide,by decide⟩,_,_,rfl,rfl,(by show(0:Int)<2147483647;decide),?_⟩
   refine⟨_,rfl,_,rfl,_,_,rfl,rfl,.inl (FQ (by decide) (by decide)),_,rfl,_,_,rfl,rfl,.inl ⟨by decide,by decide⟩,_,_,rfl,rfl,_,_,rfl,rfl,_,_,rfl,rfl,(by show(0:Int)<2147483587;decide),?_⟩
   exact⟨_,rfl,_,_,rfl,rfl,⟨by decide,by decide⟩,_,rfl,_,_,rfl,rfl,m0,(hq _ (md _).1 (md _).2).1⟩
 have md:∀x:Int,0<=x % m/\x % m<m:=λx=>⟨Int.emod_nonneg _ (by omega),Int.emod_lt_of_pos _ m0⟩
 have fin:∀(H':Hp) (r:Int),0<=r->r<m->(∀b o,H b=some o->b≠p->H' b=some o)->(∃a l,H' p=some (.dK (cM c a l)))->Q (.int r) H':=λH' r h1 h2 k ⟨a',l',e⟩ =>
  q _ _ _ (hP r h1 h2) (λb o e n=>k b o e λz=>n (.inl z)) ⟨a',l',e,k c _ hc λz=>hpc z.symm⟩ (.int r)
 have kU:∀(H1:Hp) (o:HO),(∀b o,H b=some o->b≠p->H1 b=some o)->∀b u,H b=some u->b≠p->upd H1 p o b=some u:=λH1 o k b u e n=>by rw[aq n];exact k b u e n
 refine⟨_,rfl,p,_,rfl,Bm hp,_,_,rfl,rfl,_,rfl,gZ (λc1=>?_) (λc1=>?_)⟩
 ·exact⟨_,rfl,p,_,rfl,Bm hp,_,rfl,_,_,rfl,rfl,m0,_,rfl,p,_,rfl,Bm hp,_,rfl,_,_,rfl,rfl,⟨m0,m30⟩,_,rfl,p,_,rfl,Hh _ hp,_,rfl,fin _ _ (md _).1 (md _).2 (kU _ _ λb o e _=>e) ⟨_,_,au⟩⟩
 ·have hp1:upd H p (.dK (cM c (a+1) r)) p=some (.dK (cM c (a+1) r)):=au
  have k1:=kU H (.dK (cM c (a+1) r)) λb o e _=>e
  have hc1:=k1 c _ hc λz=>hpc z.symm
  refine⟨_,rfl,p,_,rfl,W0 hp,_,rfl,_,_,rfl,rfl,_,rfl,p,_,rfl,V6 _ hp,?_⟩
  refine⟨_,rfl,p,_,rfl,wJ hp1,by decide,λz hz=>?_⟩
  have zp:p≠z:=λe=>by subst e;rw[hp1] at hz;cases hz
  have zc:c≠z:=λe=>by subst e;rw[hc1] at hz;cases hz
  have k2:∀b o,H b=some o->b≠p->upd (upd H p (.dK (cM c (a+1) r))) z (.lst []) b=some o:=λb o e n=>by
   have e1:=k1 b o e n
   have bz:b≠z:=λy=>by subst y;rw[e1] at hz;cases hz
   rw[aq bz]
   exact e1
  have hp2:upd (upd H p (.dK (cM c (a+1) r))) z (.lst []) p=some (.dK (cM c (a+1) r)):=by rw[aq zp];exact hp1
  have hc2:upd (upd H p (.dK (cM c (a+1) r))) z (.lst []) c=some (.lst (ns.map ż)):=by rw[aq zc];exact hc1
  have dr:∀cell,tDr p c { nx:=λ_ H'=>Q .non H',rt:=Q } [some (.ref p),some (.int m),none,some (.int a),some (.int cell),none] (upd (upd H p (.dK (cM c (a+1) r))) z (.lst [])):=λcell =>
   ⟨_,_,m,a,cell,_,_,rfl,m0,m30,hp2,λr' h1 h2=>⟨fin _ _ h1 h2 k2 ⟨_,_,hp2⟩,λb=>fin _ _ h1 h2 (kU _ _ k2) ⟨_,_,au⟩⟩⟩
  refine⟨λ_=>True,λ_=>True,.list (ns.map Ã),.list [],.lst trivial hc2 (xY ns),.lst trivial au .nil,Jq ns,rfl,?_⟩
  cases ns with
  |nil=>exact⟨_,rfl,bD (dr 0)⟩
  |cons n ns =>
   have l0:(0:Int)<((((n::ns).map ż).length:Nat):Int):=by rw[Á,Ù];omega
   obtain⟨v,hv⟩:=Ot (i:=a) l0
   refine⟨_,rfl,aK ⟨_,rfl,p,_,rfl,wJ hp2,_,rfl,_,rfl,p,_,rfl,wJ hp2,c,_,rfl,.inl (SqL.of hc2),_,_,rfl,rfl,l0,c,_,_,_,rfl,rfl,SqL.of hc2,hv,dr v⟩⟩
end
structure IsOrd(n:Int)(l:List Int):Prop where
 len:(l.length:Int)=n
 rng:∀x∈l,0<=x/\x<n
 nd:l.Nodup
def Bs(ds:List D)(P:D->Prop):Prop:=∃n:Int,ds=[.int n]/\0<=n/\n<=16/\∀l,IsOrd n l->P (.list (l.map Ã))
def IsOrd.ins{k:Nat}{l:List Int}(h:IsOrd k l)(j:Nat):IsOrd ((k+1:Nat):Int) (l.take j++((k:Nat):Int)::l.drop j):=by
 have p:(l.take j++((k:Nat):Int)::l.drop j).Perm (((k:Nat):Int)::l):=by
  refine List.perm_middle.trans ?_
  rw[List.take_append_drop]
 refine⟨?_,λx hx=>?_,?_⟩
 ·rw[p.length_eq,Ù]
  have:=h.len
  omega
 ·rcases Ó.mp (p.mem_iff.mp hx) with z|z
  ·omega
  ·have:=h.rng x z
   omega
 ·refine p.symm.nodup ?_
  refine List.nodup_cons.mpr ⟨λz=>?_,h.nd⟩
  have:=h.rng _ z
  omega
section
variable {P:Program}{w:World}{K:Ú}{mg:Str->Option Value}{base:Heap}{f:Addr}{fd:FuncData}
def Ub:FnScope ["_law_pen_here","_law_n","_law_found","_law_k"] ["_law_pen_here","_law_n"] (ak (top 46)):=zC
abbrev Cj(P:Program)(w:World)(K:Ú)(mg:Str->Option Value)(base:Heap)(k:Nat)(x:Str)(ps:List Str)(g:List D->(D->Prop)->Prop):Prop:=Ą P w K mg base k x ps (spP CP g)
def Ji(F:Fun K "_law_order" "_law_order" (top 46) f fd)(B:ľ mg)(T:Cj P w K mg base 1 "_law_draw" ["_law_pen_here","_law_many"] uz):FnOk P w K mg base CX0 2 f fd ["_law_pen_here","_law_n"] (spP CP Bs):=by
 refine F.ok Ub nu (λcdv A outer s H vs Q E hr h=>?_)
 have nd:=Ub.nd
 refine⟨_,aJ (cQ (some 0) (bU (i:=2) nd rfl (Ė rfl) (cW ao)))
  (aJ (eF Ē rfl (bT B.range (aj (dv 1) ao)) (aU (Ř (i:=3) nd rfl (Ė rfl)))
   (aF (Gq (i:=2) (cC (iZ þ PySem.F.slot_list_insert PySem.F.type_list_insert FP (pv 2) (aj (dcP T hr (pv 0) (aj (vL (dv 3) aC) ao)) (aj (dv 3) ao)))))))
  (aF (bB (dv 2)))),enterQ h ?_⟩
 rintro ds P ⟨n,rfl,n0,n16,q⟩
 refine⟨[.im (.int n),.any,.any],rfl,?_⟩
 refine⟨by decide,⟨by omega,by omega⟩,rfl,λ(i:Nat) ρ=>∃(l:List Int) (s:Sl),IsOrd i l/\s.region=none/\ρ=[.pen CP,.im (.int n),.dw 0 (.list (l.map Ã)),s],⟨[],.any,⟨rfl,λx hx=>(nomatch hx),.nil⟩,rfl,rfl⟩,?_,?_⟩
 ·rintro i d ρ hd ⟨l,s,hl,hs,rfl⟩
  obtain⟨hi,rfl⟩:=cG hd
  have hlen:=hl.len
  refine⟨rfl,_,rfl,by omega,by omega,λr r0 r1=>⟨rfl,r0,?_,?_,?_⟩⟩
  ·rw[Á];omega
  ·rw[Á];omega
  ·refine⟨l.take r.toNat++((i:Nat):Int)::l.drop r.toNat,.im (.int (0+((i:Nat):Int))),hl.ins r.toNat,rfl,?_⟩
   show [Sl.pen CP,Sl.im (.int n),Sl.dw 0 (.list ((l.map Ã).take r.toNat++Ã (0+((i:Nat):Int))::(l.map Ã).drop r.toNat)),Sl.im _]=_
   rw[Þ,ã,List.map_take,Ő,Int.zero_add]
 ·rintro ρ ⟨l,s,hl,hs,rfl⟩
  rw[Ň] at hl
  have e:((n.toNat:Nat):Int)=n:=by omega
  rw[e] at hl
  exact⟨rfl,q l hl⟩
end
def cV(n:Int)(ts:List Tie):Prop:=∀t∈ts,(0<=t.1/\t.1<n)/\0<=t.2/\t.2<n
def cV.app{n:Int}{a b:List Tie}(h:cV n a)(h':cV n b):cV n (a++b):=λt ht=>(ä.mp ht).elim (h t) (h' t)
def cV.one{n:Int}{t:Tie}(h:(0<=t.1/\t.1<n)/\0<=t.2/\t.2<n):cV n [t]:=λu hu=>by rw[ï.mp hu];exact h
def Py(ds:List D)(P:D->Prop):Prop:=∃n:Int,ds=[.int n]/\1<=n/\n<=8/\∀ts:List Tie,ts.length<=40->cV n ts->P (.list (ts.map pD))
abbrev Nr(s:Sl):Prop:=s.region=none
abbrev R18(n sh:Int)(ds:List D)(s4 s5:Sl):List Sl:=[.pen CP,.im (.int n),.im (.int sh),.dw 0 (.list ds),s4,s5]
def fgN{s:Sl}{r:Nat}(h:Nr s):(if s.region=some r then Sl.any else s)=s:=by rw[h];rfl
def K5{n sh:Int}{ds ds':List D}{s4 s5:Sl}(h4:Nr s4)(h5:Nr s5):(forget 0 (R18 n sh ds s4 s5)).set 3 (.dw 0 (.list ds'))=R18 n sh ds' s4 s5:=by
 show [Sl.pen CP,Sl.im (.int n),Sl.im (.int sh),Sl.dw 0 (.list ds'),(if s4.region=some 0 then Sl.any else s4),(if s5.region=some 0 then Sl.any else s5)]=_
 rw[fgN h4,fgN h5]
def iz.wk{X:Cx}{ss:List Stmt}{t t':DS}(h:iz X ss t)(w:∀P ρ,t' P ρ->t P ρ):iz X ss t':=PSs.wk' h (by
 rintro Q σ H ⟨p,H0,own,ρ,P,E,t,wi⟩
 exact⟨p,H0,own,ρ,P,E,w P ρ t,wi⟩)
def jO(L:Nat):DS:=λP ρ=>∃(n sh:Int) (ts:List Tie) (s4 s5:Sl),1<=n/\n<=8/\Nr s4/\Nr s5/\ρ=R18 n sh (ts.map pD) s4 s5/\((sh=5->ts.length<=28)/\(sh≠5->ts.length<=L))/\cV n ts/\∀us:List Tie,us.length<=40->cV n us->P.rt (.list (us.map pD))
def jO.on{L:Nat}{P:DEnds}{n sh:Int}{ts:List Tie}{s4 s5:Sl}(n1:1<=n)(n8:n<=8)(h4:Nr s4)(h5:Nr s5)(hl:(sh=5->ts.length<=28)/\(sh≠5->ts.length<=L))(ok:cV n ts)(q:∀us:List Tie,us.length<=40->cV n us->P.rt (.list (us.map pD))):jO L P (R18 n sh (ts.map pD) s4 s5) :=
 ⟨n,sh,ts,s4,s5,n1,n8,h4,h5,rfl,hl,ok,q⟩
def app1(ts:List Tie)(a b:Int):ts.map pD++[č [.int a,.int b]]=(ts++[((a,b):Tie)]).map pD:=by
 rw[Þ]
 rfl
def in2{a b x:Int}(h:([Ã a,.int b].any λe=>ý e (.int x))=true):x=a\/x=b:=by
 have h:(a == x || (b == x || false))=true:=h
 simp at h
 omega
def in3{a b c x:Int}(h:([Ã a,.int b,.int c].any λe=>ý e (.int x))=true):x=a\/x=b\/x=c:=by
 have h:(a == x || (b == x || (c == x || false)))=true:=h
 simp at h
 omega
def R3{n sh:Int}{ds:List D}{s4 s5:Sl}(h4:Nr s4)(h5:Nr s5):lg 0 (R18 n sh ds s4 s5) 3=true:=by
 show(s4.region != some 0&&(s5.region != some 0&&true))=true
 rw[h4,h5]
 rfl
def Sx{n sh:Int}{ds es:List D}{s4 s5:Sl}(h4:Nr s4)(h5:Nr s5):stK (some 0) (R18 n sh ds s4 s5) 3 (norm (Kd.imm.join .new) (.list es)) (.list es)=some (.dw 0 (.list es)):=by
 show(if lg 0 (R18 n sh ds s4 s5) 3=true then some (Sl.dw 0 (.list es)) else none)=_
 rw[if_pos (R3 h4 h5)]
def qw{P:DEnds}{ρ:List Sl}{rg:Option Nat}{i:Nat}{k:Kd}{d:D}{s:Sl}(e:stK rg ρ i (norm k d) d=some s)(h:P.nx (ρ.set i s)):(match stK rg ρ i (norm k d) d with
 |some s=>P.nx (ρ.set i s)
 |none=>False):=by
 rw[e]
 exact h
def oN(ts:List Tie):okD (.list (ts.map pD))=true:=by
 have h1:=JL ts
 have h2:ī (ts.map pD)+1<=60:=by have:=zm ts;omega
 show(ĩ (ts.map pD)&&decide (ī (ts.map pD)+1<=60))=true
 rw[h1,decide_eq_true h2]
 rfl
def Us{j:Int}(h0:0<=j)(h4:j<4):∃m:Int,atI [Ã 3,.int 1,.int 6,.int 13] j=some (.int m)/\1<=m/\m<=13:=by
 obtain rfl|rfl|rfl|rfl:j=0\/j=1\/j=2\/j=3:=by omega
 ·exact⟨3,rfl,by decide,by decide⟩
 ·exact⟨1,rfl,by decide,by decide⟩
 ·exact⟨6,rfl,by decide,by decide⟩
 ·exact⟨13,rfl,by decide,by decide⟩
def tri(i l m:Nat)(h:2 * l<=i * (i+1))(hm:m<=i+1):2 * (l+m)<=(i+1) * (i+1+1):=by
 have e:(i+1) * (i+1+1)=i * (i+1)+2 * (i+1):=by rw[Nat.mul_comm (i+1) (i+1+1),Nat.add_assoc,Nat.add_mul]
 omega
section
variable {P:Program}{w:World}{K:Ú}{mg:Str->Option Value}{base:Heap}{f:Addr}{fd:FuncData}
abbrev N18:List Str:=["_law_pen_here","_law_n","_law_shape","_law_ties_here","_law_k","_law_some"]
def Ua:FnScope N18 ["_law_pen_here","_law_n"] (ak (top 47)):=zC
def U9:(["_law_j","_law_pen_here","_law_n","_law_shape","_law_ties_here","_law_k","_law_some"]:List Str).Nodup:=by decide +kernel
def Pg:(["_law_tie","_law_pen_here","_law_n","_law_shape","_law_ties_here","_law_k","_law_some"]:List Str).Nodup:=by decide +kernel
def U8:(["_law_k","_law_pen_here","_law_n","_law_shape","_law_ties_here","","_law_some"]:List Str).Nodup:=by decide +kernel
def Mx(F:Fun K "_law_ties" "_law_ties" (top 47) f fd)(B:ľ mg)(T:Cj P w K mg base 1 "_law_draw" ["_law_pen_here","_law_many"] uz):FnOk P w K mg base CX0 2 f fd ["_law_pen_here","_law_n"] (spP CP Py):=by
 refine F.ok Ua nu (λcdv A outer s H vs Q E hr h=>?_)
 have nd:=Ua.nd
 refine⟨_,aJ (cQ none (bU (i:=2) nd rfl (Ė rfl) (dcP T hr (pv 0) (aj aC ao))))
  (aJ (cQ (some 0) (bU (i:=3) nd rfl (Ė rfl) (cW ao)))
  (aJ (eF Ē rfl (Gu B.range (aj aC (aj (dv 1) ao))) (aU (Ř (i:=4) nd rfl (Or.inr rfl)))
   (aJ (cU (d9 hr.units (dv 2) (bx (aj aC (aj aC ao)))) (aF (dX (i:=3) (cC (iZ þ Ĳ İ fu (pv 3) (aj (bx (aj (cX (dv 4) aC) (aj (dv 4) ao))) ao))))) dN)
   (aJ (cU (d9 hr.units (dv 2) (bx (aj aC (aj aC (aj aC ao))))) (aF (dX (i:=3) (cC (iZ þ Ĳ İ fu (pv 3) (aj (bx (aj (dcP T hr (pv 0) (aj (dv 4) ao)) (aj (dv 4) ao))) ao))))) dN)
   (aF (cU (vA (dv 2) aC) (aF (dW (i:=3) (cC (iZ þ ť Ť j6 (pv 3) (aj (kO ["_law_j"] rfl (bT B.range (aj (dv 4) ao)) (λc=>aU (Ř (i:=0) U9 rfl (Ė rfl))) (λc=>dM) (λc=>bx (aj (dv 0) (aj (dv 5) ao)))) ao))))) dN)))))
  (iz.wk (t':=jO 7) (aJ (cU (PDW.pt (mR (vA (dv 2) aC) (jx (lG (dv 1) aC)))) (aF (dX (i:=3) (cC (iZ þ Ĳ İ fu (pv 3) (aj (bx (aj aC (aj (cX (dv 1) aC) ao))) ao))))) dN)
  (iz.wk (t':=jO 8) (aJ (cU (d9 hr.units (dv 2) (bx (aj aC (aj aC (aj aC ao)))))
   (aJ (cQ none (PS.wk' (Ig ["_law_k"] ["_law_pen_here","_law_n","_law_shape","_law_ties_here","","_law_some"] (i:=5) rfl nd rfl (Ė rfl) (bT B.range (aj (dcP T hr (pv 0) (aj (Q8 aC (dv 1)) ao)) ao)) (λc=>aU (Ř (i:=0) U8 rfl (Ė rfl))) (λc=>dM) (λc=>bx (aj (dcP T hr (pv 1) (aj (dv 2) ao)) (aj (dcP T hr (pv 1) (aj (dv 2) ao)) ao))) rfl rfl) (λD σ H q=>j7 σ H _ q)))
   (aF (dW (i:=3) (cC (iZ þ ť Ť j6 (pv 3) (aj (kO ["_law_tie"] rfl (dR (dv 5)) (λc=>aU (Ř (i:=0) Pg rfl (Ė rfl))) (λc=>eZ (Q5 (fL (dv 0) aC (λ_ _=>rfl)) (fL (dv 0) aC (λ_ _=>rfl)))) (λc=>dv 0)) ao)))))) dN)
  (iz.wk (t':=jO 23) (aJ (cU (vA (dv 2) aC) (aF (cQ (some 0) (PS.wk' (Ih ["_law_tie"] (i:=3) rfl nd rfl (Ė rfl) (dR (dv 3)) (λc=>aU (Ř (i:=0) Pg rfl (Ė rfl))) (λc=>eZ (vA (tW (fL (dv 0) aC (λ_ _=>rfl)) (mX (dv 2) aC)) (tW (fL (dv 0) aC (λ_ _=>rfl)) (mX (dv 2) aC)))) (λc=>dv 0)) (λD σ H q=>j7 σ H _ q)))) dN)
  (iz.wk (t':=jO 28) (aJ (eF Ē rfl (bT B.range (aj (dcP T hr (pv 0) (aj (vK (cW (aj aC (aj aC (aj aC (aj aC ao))))) (dcP T hr (pv 0) (aj aC ao)) (λ_ _=>rfl)) ao)) ao)) (aU (Ř (i:=4) nd rfl (Or.inr rfl)))
   (aF (cU (Ml hr.units (dv 3) (cW ao)) (aF (dX (i:=3) (cC (iZ þ Ĳ İ fu (pv 3) (aj (vK (dv 3) (dcP T hr (pv 0) (aj (fK B.len (aj (dv 3) ao)) ao)) (λ_ _=>rfl)) ao))))) dN)))
  (aF (bB (dv 3)))) ?m4)) ?m3)) ?m2)) ?m1))),enterQ h ?_⟩
 case m1 =>
  rintro P ρ ⟨n,sh,ts,s4,s5,n1,n8,h4,h5,rfl,hl,ok,q⟩
  have lm:(ts.map pD).length<1000:=by rw[Á];omega
  refine gZ (λc1=>gZ (λc2=>⟨zK,rfl,lm,?_⟩) (λc2=>?_)) (λc1=>bD ?_)
  ·have c2:=of_decide_eq_true c2
   have c1:sh=3:=by simpa using c1
   show jO 8 P ((forget 0 (R18 n sh (ts.map pD) s4 s5)).set 3 (.dw 0 (.list (ts.map pD++[č [.int 0,.int (n - 1)]]))))
   rw[K5 h4 h5,app1]
   exact jO.on n1 n8 h4 h5 (by rw[Æ,Ü];omega) (ok.app (cV.one ⟨by show(0:Int)<=0/\0<n;omega,by show 0<=n - 1/\n - 1<n;omega⟩)) q
  ·exact jO.on n1 n8 h4 h5 (by omega) ok q
  ·exact jO.on n1 n8 h4 h5 (by omega) ok q
 case m2 =>
  rintro P ρ ⟨n,sh,ts,s4,s5,n1,n8,h4,h5,rfl,hl,ok,q⟩
  have lm:(ts.map pD).length=ts.length:=Á ..
  refine⟨by decide,rfl,rfl,gZ (λc1=>⟨rfl,.inl ⟨by decide,by decide⟩,2 * n,rfl,by omega,by omega,λr r0 r1=>⟨⟨by omega,by omega⟩,by rw[Ň];omega,.imm,λi ys=>∃ts':List Tie,ys=ts'.map pD/\ts'.length=i/\cV n ts',⟨[],rfl,rfl,λt ht=>nomatch ht⟩,?_,?_⟩⟩) (λc1=>jO.on n1 n8 h4 h5 (by omega) ok q)⟩
  ·rintro i d ys hd ⟨ts',rfl,hl',ok'⟩
   obtain⟨hi,rfl⟩:=cG hd
   exact aK (B:=True) ⟨rfl,n,rfl,by omega,by omega,λa a0 a1=>⟨rfl,n,rfl,by omega,by omega,λb b0 b1=>⟨zK,rfl,ts'++[(a,b)],app1 _ _ _,by rw[Æ,Ü,hl'],ok'.app (cV.one ⟨⟨a0,a1⟩,b0,b1⟩)⟩⟩⟩
  ·rintro ys ⟨ts',rfl,hl',ok'⟩
   rw[Ň] at hl'
   have lm':(ts'.map pD).length=ts'.length:=Á ..
   refine⟨by omega,.imm,λi ys=>∃us:List Tie,ys=us.map pD/\us.length<=i/\cV n us,⟨[],rfl,É _,λt ht=>nomatch ht⟩,?_,?_⟩
   ·rintro i d ys hd ⟨us,rfl,hu,oku⟩
    obtain⟨t,ht,rfl⟩:=eU hd
    refine⟨.int t.1,rfl,.int t.2,rfl,gZ (λc=>⟨rfl,us++[t],?_,?_,?_⟩) (λc=>⟨us,rfl,by omega,oku⟩)⟩
    ·rw[Þ];rfl
    ·rw[Æ,Ü];omega
    ·exact oku.app (cV.one (ok' t (Ò ht)))
   ·rintro ys ⟨us,rfl,hu,oku⟩
    have lu:(us.map pD).length=us.length:=Á ..
    rw[lm'] at hu
    refine⟨rfl,by omega,?_⟩
    have c1:=in3 c1
    show jO 23 P ((forget 0 (R18 n sh (ts.map pD) s4 (.sn (.list (ts'.map pD))))).set 3 (.dw 0 (.list (ts.map pD++us.map pD))))
    rw[K5 h4 rfl,←Þ]
    exact jO.on n1 n8 h4 rfl (by rw[Æ];omega) (ok.app oku) q
 case m3 =>
  rintro P ρ ⟨n,sh,ts,s4,s5,n1,n8,h4,h5,rfl,hl,ok,q⟩
  have lm:(ts.map pD).length=ts.length:=Á ..
  refine gZ (λc1=>⟨by omega,.imm,λi ys=>∃us:List Tie,ys=us.map pD/\us.length<=i/\cV n us,⟨[],rfl,É _,λt ht=>nomatch ht⟩,?_,?_⟩) (λc1=>jO.on n1 n8 h4 h5 (by omega) ok q)
  ·rintro i d ys hd ⟨us,rfl,hu,oku⟩
   obtain⟨t,ht,rfl⟩:=eU hd
   refine⟨.int t.1,rfl,⟨by decide,by decide⟩,.int t.2,rfl,⟨by decide,by decide⟩,gZ (λc=>⟨rfl,us++[t],?_,?_,?_⟩) (λc=>⟨us,rfl,by omega,oku⟩)⟩
   ·rw[Þ];rfl
   ·rw[Æ,Ü];omega
   ·exact oku.app (cV.one (ok t (Ò ht)))
  ·rintro ys ⟨us,rfl,hu,oku⟩
   rw[lm] at hu
   exact qw (Sx h4 h5) (jO.on n1 n8 h4 h5 (by omega) oku q)
 case m4 =>
  rintro P ρ ⟨n,sh,ts,s4,s5,n1,n8,h4,h5,rfl,hl,ok,q⟩
  refine⟨rfl,by decide,rfl,4,rfl,by decide,by decide,λj j0 j4=>?_⟩
  obtain⟨m,hm,m1,m13⟩:=Us j0 j4
  refine⟨.int m,hm,m,rfl,by omega,by omega,λc c0 c1=>⟨⟨by omega,by omega⟩,rfl,λ(i:Nat) ρ=>∃(ts:List Tie) (s4 s5:Sl),Nr s4/\Nr s5/\ρ=R18 n sh (ts.map pD) s4 s5/\ts.length<=28+i/\cV n ts,⟨ts,s4,s5,h4,h5,rfl,by omega,ok⟩,?_,?_⟩⟩
  ·rintro i d ρ hd ⟨ts,s4,s5,h4,h5,rfl,hl,ok⟩
   obtain⟨hi,rfl⟩:=cG hd
   have lm:(ts.map pD).length=ts.length:=Á ..
   refine⟨by decide,oN ts,rfl,gZ (λc=>?_) (λc=>⟨ts,_,s5,rfl,h5,rfl,by omega,ok⟩)⟩
   have tn:0<ts.length:=by
    cases ts with
    |nil=>exact absurd c Ð
    |cons t ts=>exact Nat.succ_pos _
   refine⟨rfl,((ts.map pD).length:Nat),rfl,by omega,by omega,λr r0 r1=>?_⟩
   have hk:r.toNat<ts.length:=by omega
   refine⟨pD ts[r.toNat],?_,rfl,by omega,ts++[ts[r.toNat]],.im (.int (0+((i:Nat):Int))),s5,rfl,h5,?_,?_,?_⟩
   ·have ek:r=((r.toNat:Nat):Int):=by omega
    have z:atI (ts.map pD) ((r.toNat:Nat):Int)=some (pD ts[r.toNat]):=gC (by rw[è,Ì hk];rfl)
    rw[←ek] at z
    exact z
   ·show(forget 0 (R18 n sh (ts.map pD) (.im (.int (0+((i:Nat):Int)))) s5)).set 3 (.dw 0 (.list (ts.map pD++[pD ts[r.toNat]])))=_
    rw[K5 rfl h5,Þ]
    rfl
   ·rw[Æ,Ü];omega
   ·exact ok.app (cV.one (ok _ (Ħ hk)))
  ·rintro ρ ⟨ts,s4,s5,h4,h5,rfl,hl,ok⟩
   rw[Ň] at hl
   exact⟨rfl,q ts (by omega) ok⟩
 rintro ds P ⟨n,rfl,n1,n8,q⟩
 refine⟨[.im (.int n),.any,.any,.any,.any],rfl,?_⟩
 refine⟨rfl,8,rfl,by decide,by decide,λsh s0 s8=>⟨by decide,⟨by decide,by decide,by omega,by omega⟩,rfl,λ(i:Nat) ρ=>∃(ts:List Tie) (s4:Sl),Nr s4/\ρ=R18 n sh (ts.map pD) s4 .any/\2 * ts.length<=i * (i+1)/\(sh≠5->ts.length<=i)/\cV n ts,⟨[],.any,rfl,rfl,É _,λ_=>É _,λt ht=>nomatch ht⟩,?_,?_⟩⟩
 ·rintro i d ρ hd ⟨ts,s4,h4,rfl,hl,hs,ok⟩
  obtain⟨hi,rfl⟩:=cG hd
  have i7:i<=6:=by omega
  have lm:(ts.map pD).length=ts.length:=Á ..
  have l28:2 * ts.length<=56:=î hl (Nat.mul_le_mul (show i<=7 by omega) (show i+1<=8 by omega))
  refine⟨by decide,rfl,rfl,gZ (λc1=>⟨zK,rfl,by omega,?_⟩) (λc1=>?_)⟩
  ·have c1:=in2 c1
   refine⟨by decide,rfl,rfl,gZ (λc2=>?_) (λc2=>gZ (λc3=>?_) (λc3=>?_))⟩
   ·have c2:=in3 c2
    omega
   ·have c3:sh=5:=by simpa using c3
    omega
   ·refine⟨ts++[(1+((i:Nat):Int) - 1,1+((i:Nat):Int))],.im (.int (1+((i:Nat):Int))),rfl,by rw[←app1];rfl,?_,λc=>by rw[Æ,Ü];have:=hs c;omega,?_⟩
    ·rw[Æ,Ü]
     exact tri i _ 1 hl (by omega)
    ·exact ok.app (cV.one ⟨by show 0<=1+((i:Nat):Int) - 1/\1+((i:Nat):Int) - 1<n;omega,by show 0<=1+((i:Nat):Int)/\1+((i:Nat):Int)<n;omega⟩)
  ·refine⟨by decide,rfl,rfl,gZ (λc2=>⟨rfl,1+((i:Nat):Int),rfl,by omega,by omega,λr r0 r1=>⟨zK,rfl,by omega,?_⟩⟩) (λc2=>gZ (λc3=>?_) (λc3=>?_))⟩
   ·have c2:=in3 c2
    refine gZ (λc3=>?_) (λc3=>?_)
    ·have c3:sh=5:=by simpa using c3
     omega
    ·refine⟨ts++[(r,1+((i:Nat):Int))],.im (.int (1+((i:Nat):Int))),rfl,by rw[←app1];rfl,?_,λc=>by rw[Æ,Ü];have:=hs c;omega,?_⟩
     ·rw[Æ,Ü]
      exact tri i _ 1 hl (by omega)
     ·exact ok.app (cV.one ⟨by show 0<=r/\r<n;omega,by show 0<=1+((i:Nat):Int)/\1+((i:Nat):Int)<n;omega⟩)
   ·refine⟨⟨by omega,by omega⟩,by rw[Ň];omega,.imm,λj ys=>∃us:List Tie,ys=us.map pD/\us.length=j/\cV n us,⟨[],rfl,rfl,λt ht=>nomatch ht⟩,?_,?_⟩
    ·rintro j d ys hd ⟨us,rfl,hu,oku⟩
     obtain⟨hj,rfl⟩:=cG hd
     exact aK (B:=True) ⟨zK,rfl,us++[(0+((j:Nat):Int),1+((i:Nat):Int))],app1 _ _ _,by rw[Æ,Ü,hu],oku.app (cV.one ⟨by show 0<=0+((j:Nat):Int)/\0+((j:Nat):Int)<n;omega,by show 0<=1+((i:Nat):Int)/\1+((i:Nat):Int)<n;omega⟩)⟩
    ·rintro ys ⟨us,rfl,hu,oku⟩
     rw[Ň] at hu
     have lu:(us.map pD).length=us.length:=Á ..
     refine⟨rfl,by omega,ts++us,.im (.int (1+((i:Nat):Int))),rfl,by rw[Þ];rfl,?_,λc=>absurd (show sh=5 by simpa using c3) c,ok.app oku⟩
     rw[Æ]
     exact tri i _ _ hl (by omega)
   ·exact⟨ts,.im (.int (1+((i:Nat):Int))),rfl,rfl,tri i _ 0 hl (by omega),λc=>by have:=hs c;omega,ok⟩
 ·rintro ρ ⟨ts,s4,h4,rfl,hl,hs,ok⟩
  rw[Ň] at hl hs
  have hk:(n - 1).toNat<=7:=by omega
  have l28:2 * ts.length<=7 * 8:=î hl (Nat.mul_le_mul hk (show(n - 1).toNat+1<=8 by omega))
  exact jO.on n1 n8 h4 rfl (by omega) ok q
end
def Vp(ds:List D)(P:D->Prop):Prop:=∃m:Int,ds=[.int m]/\1<=m/\m<=8/\∀(n:Int) (us:List Tie),1<=n->n<=8->us.length<=40->cV n us->P (aV n us)
def Vs(ds:List D)(P:D->Prop):Prop:=∃n:Int,ds=[.int n]/\2<=n/\n<=8/\∀l,Proper n l->P (.list (l.map Ã))
def IsOrd.at{n:Int}{l:List Int}(h:IsOrd n l){a:Int}(h0:0<=a)(h1:a<n):∃x:Int,atI (l.map Ã) a=some (.int x)/\0<=x/\x<n:=by
 have hl:=h.len
 have hk:a.toNat<l.length:=by omega
 have ek:a=((a.toNat:Nat):Int):=by omega
 have z:atI (l.map Ã) ((a.toNat:Nat):Int)=some (.int l[a.toNat]):=gC (by rw[è,Ì hk];rfl)
 rw[←ek] at z
 exact⟨_,z,h.rng _ (Ħ hk)⟩
def uD{α:Type}(l:List α){m:Int}(h0:0<=m)(h1:m<=l.length):eG l none (some m)=l.take m.toNat:=by
 unfold eG
 have e1:HT.sIx l.length 0 none=0:=rfl
 have e2:HT.sIx l.length l.length (some m)=m.toNat:=by
  have ek:m=((m.toNat:Nat):Int):=by omega
  rw[ek,HT.u9]
  omega
 rw[e1,e2,List.drop_zero,Nat.sub_zero]
def Fe{n:Int}{l out:List Int}{m:Nat}(h:IsOrd n l)(m1:1<=m)(mn:(m:Int)<n)(n8:n<=8)(hp:out.Perm (l.take m))(hs:out.Pairwise (·<=·)):Proper n out:=by
 have hl:=h.len
 have lo:out.length=m:=by rw[hp.length_eq,ă];omega
 have nd:out.Nodup:=hp.symm.nodup ((List.take_sublist m l).nodup h.nd)
 refine⟨by omega,by omega,λx hx=>h.rng x (ş (hp.mem_iff.mp hx)),?_,by omega⟩
 exact(List.Pairwise.and hs nd).imp λ{a b} ⟨x,y⟩=>by
  have y:a≠b:=y
  omega
section
variable {P:Program}{w:World}{K:Ú}{mg:Str->Option Value}{base:Heap}{f:Addr}{fd:FuncData}
def T9:FnScope ["_law_pen_here","_law_most","_law_n","_law_order_here","_law_ties_here"] ["_law_pen_here","_law_most"] (ak (top 48)):=zC
def Pb:(["_law_a","_law_b","_law_pen_here","_law_most","_law_n","_law_order_here","_law_ties_here"]:List Str).Nodup:=by decide +kernel
def U7:(["_law_tie","_law_pen_here","_law_most","_law_n","_law_order_here","_law_ties_here"]:List Str).Nodup:=by decide +kernel
def Mw(F:Fun K "_law_web" "_law_web" (top 48) f fd)(B:ľ mg)(T:Cj P w K mg base 1 "_law_draw" ["_law_pen_here","_law_many"] uz)(OR:Cj P w K mg base 2 "_law_order" ["_law_pen_here","_law_n"] Bs)(TI:Cj P w K mg base 2 "_law_ties" ["_law_pen_here","_law_n"] Py):FnOk P w K mg base CX0 3 f fd ["_law_pen_here","_law_most"] (spP CP Vp):=by
 refine F.ok T9 nu (λcdv A outer s H vs Q E hr h=>?_)
 have nd:=T9.nd
 refine⟨_,aJ (cQ none (bU (i:=2) nd rfl (Ė rfl) (vL aC (dcP T hr (pv 0) (aj (dv 1) ao)))))
  (aJ (cQ none (bU (i:=3) nd rfl (Or.inr rfl) (dcP OR hr (pv 0) (aj (dv 2) ao))))
  (aJ (cQ none (PS.wk' (Ih ["_law_a","_law_b"] (i:=4) rfl nd rfl (Ė rfl) (dR (dcP TI hr (pv 0) (aj (dv 2) ao))) (λc=>fU (n:=2) rfl (jN (aU (Ř (i:=0) Pb rfl (Ė rfl))) (jN (aU (Ř (i:=1) Pb rfl (Ė rfl))) dU))) (λc=>dM) (λc=>bx (aj (vK (dv 5) (dv 0) (λ_ _=>rfl)) (aj (vK (dv 5) (dv 1) (λ_ _=>rfl)) ao)))) (λD σ H q=>j7 σ H _ q)))
  (aF (bB (bx (aj (dv 2) (aj (gq B.tuple (aj (gR B.sorted (aj (kO ["_law_tie"] rfl (dR (dv 4)) (λc=>aU (Ř (i:=0) U7 rfl (Ė rfl))) (λc=>dM) (λc=>bx (aj (Mp rfl B.min (aj (dv 0) ao)) (aj (Mq rfl B.max (aj (dv 0) ao)) ao)))) ao)) ao)) ao))))))),enterQ h ?_⟩
 rintro ds P ⟨m,rfl,m1,m8,q⟩
 refine⟨[.im (.int m),.any,.any,.any],rfl,?_⟩
 refine⟨rfl,m,rfl,by omega,by omega,λr r0 r1=>⟨rfl,1+r,rfl,by omega,by omega,λl hl=>⟨rfl,1+r,rfl,by omega,by omega,λts lt ok=>?_⟩⟩⟩
 have lm:(ts.map pD).length=ts.length:=Á ..
 refine⟨by omega,.imm,λi ys=>∃us:List Tie,ys=us.map pD/\us.length=i/\cV (1+r) us,⟨[],rfl,rfl,λt ht=>nomatch ht⟩,?_,?_⟩
 ·rintro i d ys hd ⟨us,rfl,hu,oku⟩
  obtain⟨t,ht,rfl⟩:=eU hd
  obtain⟨⟨a0,a1⟩,b0,b1⟩:=ok t (Ò ht)
  obtain⟨x,ex,x0,x1⟩:=hl.at a0 a1
  obtain⟨y,ey,y0,y1⟩:=hl.at b0 b1
  exact⟨rfl,aK (B:=True) ⟨.int x,ex,.int y,ey,zK,rfl,us++[(x,y)],app1 _ _ _,by rw[Æ,Ü,hu],oku.app (cV.one ⟨⟨x0,x1⟩,y0,y1⟩)⟩⟩
 rintro ys ⟨us,rfl,hu,oku⟩
 have lu:(us.map pD).length=us.length:=Á ..
 refine⟨by omega,.imm,λi ys=>∃vs:List Tie,ys=vs.map pD/\vs.length=i/\cV (1+r) vs,⟨[],rfl,rfl,λt ht=>nomatch ht⟩,?_,?_⟩
 ·rintro i d ys hd ⟨vs,rfl,hv,okv⟩
  obtain⟨t,ht,rfl⟩:=eU hd
  obtain⟨⟨a0,a1⟩,b0,b1⟩:=oku t (Ò ht)
  refine aK (B:=True) ⟨zK,rfl,vs++[((if t.2<t.1 then t.2 else t.1),(if t.2 > t.1 then t.2 else t.1))],app1 _ _ _,by rw[Æ,Ü,hv],okv.app (cV.one ⟨?_,?_⟩)⟩
  ·show 0<=(if t.2<t.1 then t.2 else t.1)/\(if t.2<t.1 then t.2 else t.1)<1+r
   split <;> omega
  ·show 0<=(if t.2 > t.1 then t.2 else t.1)/\(if t.2 > t.1 then t.2 else t.1)<1+r
   split <;> omega
 rintro ys ⟨vs,rfl,hv,okv⟩
 refine⟨vs,.inl rfl,by omega,λt ht=>⟨(okv t ht).2.1,by have:=(okv t ht).2.2;omega⟩,λus' hp _=>⟨zK,?_,q (1+r) us' (by omega) (by omega) (by rw[hp.length_eq];omega) λt ht=>okv t (hp.mem_iff.mp ht)⟩⟩
 have e:=qm (1+r) us'
 show(norm _ (aV (1+r) us')).le .n0=true
 rw[ř e]
 rfl
def T8:FnScope ["_law_pen_here","_law_n","_law_many"] ["_law_pen_here","_law_n"] (ak (top 49)):=zC
def MF(F:Fun K "_law_set" "_law_set" (top 49) f fd)(B:ľ mg)(T:Cj P w K mg base 1 "_law_draw" ["_law_pen_here","_law_many"] uz)(OR:Cj P w K mg base 2 "_law_order" ["_law_pen_here","_law_n"] Bs):FnOk P w K mg base CX0 3 f fd ["_law_pen_here","_law_n"] (spP CP Vs):=by
 refine F.ok T8 nu (λcdv A outer s H vs Q E hr h=>?_)
 have nd:=T8.nd
 refine⟨_,aJ (cQ none (bU (i:=2) nd rfl (Ė rfl) (vL aC (dcP T hr (pv 0) (aj (cX (dv 1) aC) ao)))))
  (aF (bB (mU B.sorted (aj (vD (dcP OR hr (pv 0) (aj (dv 1) ao)) dO (iR (dv 2))) ao)))),enterQ h ?_⟩
 rintro ds P ⟨n,rfl,n2,n8,q⟩
 refine⟨[.im (.int n),.any],rfl,rfl,n - 1,rfl,by omega,by omega,λr r0 r1=>⟨rfl,n,rfl,by omega,by omega,λl hl=>.inr ?_⟩⟩
 have ll:=hl.len
 have e:eG (l.map Ã) none (some (1+r))=(l.take (1+r).toNat).map Ã:=by rw[uD _ (by omega) (by rw[Á];omega),List.map_take]
 refine⟨l.take (1+r).toNat,e,by rw[ă];omega,λout hp hs=>⟨rfl,q out (Fe (m:=(1+r).toNat) hl (by omega) (by omega) n8 hp hs)⟩⟩
end
def lD(l:List Int):D:=.list (l.map Ã)
def subs:Nat->List (List Int)
 |0=>[[]]
 |k+1=>subs k++(subs k).map λl=>l++[0+((k:Nat):Int)]
def aW:∀k,(subs k).length=2 ^ k
 |0=>rfl
 |k+1=>by
  show(subs k++(subs k).map _).length=_
  rw[Æ,Á,aW k,ŀ]
  omega
def jX:∀k,∃r,subs k=[]::r/\∀l∈r,l≠[]
 |0=>⟨[],rfl,λl h=>nomatch h⟩
 |k+1=>by
  obtain⟨r,e,h⟩:=jX k
  refine⟨r++(subs k).map λl=>l++[0+((k:Nat):Int)],?_,λl hl=>?_⟩
  ·have h2:∀M:List (List Int),subs k++M=[]::(r++M):=λM=>by rw[e];rfl
   exact h2 _
  ·rcases ä.mp hl with z|z
   ·exact h l z
   ·obtain⟨a,_,rfl⟩:=Ý.mp z
    simp
def gb:∀k (l:List Int),l∈subs k->l.Pairwise (·<·)/\(∀x∈l,0<=x/\x<k)/\l.length<=k
 |0,l,h=>by
  rw[ï.mp h]
  exact⟨.nil,λx h=>(nomatch h),É _⟩
 |k+1,l,h=>by
  rcases ä.mp h with z|z
  ·obtain⟨h1,h2,h3⟩:=gb k l z
   exact⟨h1,λx hx=>by have:=h2 x hx;omega,by omega⟩
  ·obtain⟨a,ha,rfl⟩:=Ý.mp z
   obtain⟨h1,h2,h3⟩:=gb k a ha
   refine⟨Ş.mpr ⟨h1,by simp,λx hx y hy=>?_⟩,λx hx=>?_,by rw[Æ,Ü];omega⟩
   ·rw[ï.mp hy]
    have:=h2 x hx
    omega
   ·rcases ä.mp hx with z|z
    ·have:=h2 x z;omega
    ·rw[ï.mp z];omega
def iC(k:Nat):List Int:=(Û k).map λi=>0+((i:Nat):Int)
def qp(p:Int->Bool):∀k,(iC k).filter p∈subs k
 |0=>ï.mpr rfl
 |k+1=>by
  have e:iC (k+1)=iC k++[0+((k:Nat):Int)]:=by
   unfold iC
   rw[List.range_succ,Þ]
   rfl
  rw[e,List.filter_append]
  cases hp:p (0+((k:Nat):Int)) with
  |true =>
   rw[List.filter_cons_of_pos hp]
   exact â _ (Ý.mpr ⟨_,qp p k,rfl⟩)
  |false =>
   rw[List.filter_cons_of_neg (by rw[hp];exact Ð)]
   rw[List.filter_nil,ø]
   exact Ě _ (qp p k)
def jF{k:Nat}{x:Int}:x∈iC k↔0<=x/\x<k:=by
 unfold iC
 rw[Ý]
 constructor
 ·rintro⟨i,hi,rfl⟩
  have:=ċ.mp hi
  omega
 ·rintro⟨h0,h1⟩
  exact⟨x.toNat,ċ.mpr (by omega),by omega⟩
def fSB(ds:List D)(P:D->Prop):Prop:=∃c:Int,ds=[.int c]/\0<=c/\c<=8/\P (.list ((subs c.toNat).map lD))
def nU(n:Int)(us:List Tie)(fa:Int):Prop:=∀l∈(subs (n - 1).toNat).drop 1,fa<((us.filter (lv l)).length:Nat)
def Ec(ds:List D)(P:D->Prop):Prop:=∃(n:Int) (us:List Tie) (fa:Int),ds=[aV n us,.int fa]/\1<=n/\n<=8/\us.length<=100/\∀b:Bool,(b=true↔nU n us fa)->P (.bool b)
def J7(ds:List D)(P:D->Prop):Prop:=∃(n:Int) (us:List Tie) (fa:Int),ds=[aV n us,.int fa]/\1<=n/\n<=8/\us.length<=100/\∀d:D,(M7 d=true↔nU n us fa)->P d
def xQ{n:Int}{l:List Int}(n1:1<=n)(n8:n<=8)(h:l∈(subs (n - 1).toNat).drop 1):Proper n l:=by
 obtain⟨r,e,hr⟩:=jX (n - 1).toNat
 obtain⟨h1,h2,h3⟩:=gb _ l (Š h)
 rw[e] at h
 have hne:=hr l h
 have hp:0<l.length:=List.length_pos_iff.mpr hne
 exact⟨hp,by omega,λx hx=>by have:=h2 x hx;omega,h1,by omega⟩
section
variable {P:Program}{w:World}{K:Ú}{mg:Str->Option Value}{base:Heap}{f:Addr}{fd:FuncData}
def Ox:FnScope ["count","told","place"] ["count"] (ak (top 14)):=zC
def Va:(["some","count","told","place"]:List Str).Nodup:=by decide +kernel
def Uy(F:Fun K "sets_below" "sets_below" (top 14) f fd)(B:ľ mg):FnOk P w K mg base CX0 1 f fd ["count"] (spD fSB):=by
 refine F.ok Ox ħ (λcdv A outer s H vs Q E hr h=>?_)
 have nd:=Ox.nd
 refine⟨_,aJ (cQ none (bU (i:=1) nd rfl (Ė rfl) (cW (aj (cW ao) ao))))
  (aJ (eF Ē rfl (bT B.range (aj (dv 0) ao)) (aU (Ř (i:=2) nd rfl (Or.inr rfl)))
   (aF (cQ none (bU (i:=1) nd rfl (Ė rfl) (IW (dv 1) (kO ["some"] rfl (dR (dv 1)) (λc=>aU (Ř (i:=0) Va rfl (Ė rfl))) (λc=>dM) (λc=>IW (dv 0) (cW (aj (dv 3) ao)))))))))
  (aF (bB (dv 1)))),aY h ?_⟩
 rintro ds P ⟨c,rfl,c0,c7,q⟩
 refine⟨[.im (.int c),.any,.any],rfl,zK,zK,⟨by omega,by omega⟩,rfl,λ(i:Nat) ρ=>∃s2,ρ=[.im (.int c),.sn (.list ((subs i).map lD)),s2],⟨_,rfl⟩,?_,?_⟩
 ·rintro i d ρ hd ⟨s2,rfl⟩
  obtain⟨hi,rfl⟩:=cG hd
  have ls:((subs i).map lD).length<=128:=by
   rw[Á,aW]
   exact ā (by decide) (show i<=7 by omega)
  refine⟨by omega,.new,λj ys=>ys=((subs i).take j).map λl=>lD (l++[0+((i:Nat):Int)]),rfl,?_,?_⟩
  ·rintro j d ys hd rfl
   obtain⟨l,hl,rfl⟩:=eU hd
   have hok:=gb i l (Ò hl)
   have im:=œ (l++[0+((i:Nat):Int)])
   rw[Þ] at im
   refine aK (B:=True) ⟨zK,?_,.inl ⟨im,rfl,?_⟩⟩
   ·show(l.map Ã).length+1<=1000
    rw[Á]
    omega
   ·dsimp only
    rw[cY _ hl]
    show _++[ÿ (l.map Ã++[.int (0+((i:Nat):Int))])]=_++[ÿ ((l++[0+((i:Nat):Int)]).map Ã)]
    rw[Þ]
    rfl
  ·rintro ys rfl
   refine⟨?_,.inr ⟨.im (.int (0+((i:Nat):Int))),?_⟩⟩
   ·rw[Á (as:=Ţ _ _),ă]
    rw[Á] at ls ⊢
    omega
   ·have e:(subs i).map lD++(((subs i).take ((subs i).map lD).length).map λl=>lD (l++[0+((i:Nat):Int)]))=(subs (i+1)).map lD:=by
     rw[Á,ĉ]
     show _=(subs i++(subs i).map _).map lD
     rw[Þ,õ]
     rfl
    rw[e]
    rfl
 ·rintro ρ ⟨s2,rfl⟩
  rw[Ň]
  exact⟨rfl,q⟩
def Ow:FnScope ["web","falls","some"] ["web","falls"] (ak (top 30)):=zC
def Jj(F:Fun K "needy_set" "needy_set" (top 30) f fd)(SB:Ą P w K mg base 1 "sets_below" ["count"] (spD fSB))(NE:Ą P w K mg base 8 "need" ["web","falls","some"] (spD Ef)):FnOk P w K mg base CX0 9 f fd ["web","falls"] (spD J7):=by
 refine F.ok Ow ħ (λcdv A outer s H vs Q E hr h=>?_)
 have nd:=Ow.nd
 refine⟨_,aJ (eF Ē rfl (dR (vD (dc SB hr (aj (cX (fL (dv 0) aC (λ_ _=>rfl)) aC) ao)) (iR aC) dO)) (aU (Ř (i:=2) nd rfl (Ė rfl)))
   (aF (cU (lG (dc NE hr (aj (dv 0) (aj (dv 1) (aj (dv 2) ao)))) aC) (aF (bB (dv 2))) dN)))
  (aF (bB lH)),aY h ?_⟩
 rintro ds P ⟨n,us,fa,rfl,n1,n8,lu,q⟩
 refine⟨[.im (aV n us),.im (.int fa),.any],?_,.int n,rfl,n - 1,rfl,by omega,by omega,.inr ?_⟩
 ·show [bI (aV n us),bI (.int fa),.any]=_
  rw[cI]
  rfl
 dsimp only
 rw[jP,←Ő]
 refine⟨rfl,λ(i:Nat) ρ=>∃s2,ρ=[.im (aV n us),.im (.int fa),s2]/\∀l∈((subs (n - 1).toNat).drop 1).take i,fa<((us.filter (lv l)).length:Nat),⟨_,rfl,λl h=>nomatch h⟩,?_,?_⟩
 ·rintro i d ρ hd ⟨s2,rfl,al⟩
  obtain⟨l,hl,rfl⟩:=eU hd
  refine⟨n,us,l,fa,rfl,xQ n1 n8 (Ò hl),lu,gZ (λc=>?_) (λc=>⟨_,rfl,λl' hl'=>?_⟩)⟩
  ·have c:=of_decide_eq_true c
   refine⟨rfl,q _ ⟨λz=>absurd z Ð,λz=>?_⟩⟩
   have:=z l (Ò hl)
   split at c <;> omega
  ·rw[ĺ,hl] at hl'
   rcases ä.mp hl' with z|z
   ·exact al l' z
   ·have z:l'=l:=by simpa using z
    rw[z]
    have c:¬(0<if 0 > fa+1 - ((us.filter (lv l)).length:Nat) then 0 else fa+1 - ((us.filter (lv l)).length:Nat)):=λy=>c (decide_eq_true y)
    split at c <;> omega
 ·rintro ρ ⟨s2,rfl,al⟩
  rw[Á,ĉ] at al
  exact⟨rfl,q _ ⟨λ_=>al,λ_=>rfl⟩⟩
def Uc:FnScope ["web","falls"] ["web","falls"] (ak (top 31)):=zC
def Fq(F:Fun K "stands" "stands" (top 31) f fd)(NS:Ą P w K mg base 9 "needy_set" ["web","falls"] (spD J7)):FnOk P w K mg base CX0 10 f fd ["web","falls"] (spD Ec):=by
 refine F.ok Uc ħ (λcdv A outer s H vs Q E hr h=>?_)
 refine⟨_,aF (bB (Ra (dc NS hr (aj (dv 0) (aj (dv 1) ao))) lH)),aY h ?_⟩
 rintro ds P ⟨n,us,fa,rfl,n1,n8,lu,q⟩
 refine⟨[.im (aV n us),.im (.int fa)],?_,n,us,fa,rfl,n1,n8,lu,λd hd=>⟨rfl,q _ hd⟩⟩
 show [bI (aV n us),bI (.int fa)]=_
 rw[cI]
 rfl
def Ht(K:Ú):Sp:=λvs H Q _=>∃(sc:Addr) (ns:List Int),vs=[.ref sc]/\SqL K H sc (ns.map ż)/\∀p c ns' H',p≠c->Qe p c ns' H'->Same H H'->Q (.ref p) H'
def T4(K:Ú):Sp:=λvs H Q _=>∃(a:Addr) (ns:List Int),vs=[.ref a]/\SqL K H a (ns.map ż)/\∀H',Q (.bl true) H'
def Rd.same{H H':Hp}{a:Addr}{u:HO}(r:Rd H a u)(s:Same H H'):Rd H' a u:=r.elim (λh=>.inl (s _ _ h)) λ⟨o,h⟩=>.inr ⟨o,s _ _ h⟩
def SqL.same{K:Ú}{H H':Hp}{a:Addr}{xs:List V}(h:SqL K H a xs)(s:Same H H'):SqL K H' a xs:=h.elim (λh=>.inl (Rd.same h s)) .inr
def qM{H:Hp}{p:Addr}(h:H p=none)(o:HO):Same H (upd H p o):=λb u q=>by rw[aq (aD q h)];exact q
def FZ(c:Addr):lR [] [(Ĉ ("cells":Str),V.ref c),(Ĉ ("at":Str),ż 0),(Ĉ ("rest":Str),ż 0)]=cM c 0 0:=by
 have h1:¬((Ĉ ("cells":Str):Key)=Ĉ ("at":Str)):=by intro z;injection z with z;exact absurd z (by decide +kernel)
 have h2:¬((Ĉ ("cells":Str):Key)=Ĉ ("rest":Str)):=by intro z;injection z with z;exact absurd z (by decide +kernel)
 have h3:¬((Ĉ ("at":Str):Key)=Ĉ ("rest":Str)):=by intro z;injection z with z;exact absurd z (by decide +kernel)
 simp[lR,putK,cM,h1,h2,h3]
def KD(ns:List Int)(lo hi:Option Int):∃ns':List Int,o8 (ns.map ż) lo hi=ns'.map ż:=by
 unfold o8
 exact⟨_,by rw[←Ő,←List.map_take]⟩
def Wi:FnScope ["_law_script"] ["_law_script"] (ak (top 44)):=zC
def Ro(F:Fun K "_law_pen" "_law_pen" (top 44) f fd)(B:ľ mg):FnOk P w K mg base CX0 1 f fd ["_law_script"] (Ht K):=by
 refine F.ok Wi (λvs H Q E h=>?_) (λcdv A outer s H vs Q E hr h=>?_)
 ·obtain⟨sc,ns,rfl,_⟩:=h
  rfl
 obtain⟨sc,ns,rfl,hS,q⟩:=h
 refine⟨_,gk (lC (Dm (jt dH (gP nP rfl B.list boot_list (bY (qR u6 (pv 0) Dh (Dg bV)) gK)) (jt dH bV (jt dH bV vm))) rfl rfl (by intro z;cases z) (by show 3<=15;decide))),?_⟩
 intro p hp
 obtain⟨ns',e'⟩:=KD ns none (some 63)
 have s1:=qM hp (.dK [])
 refine⟨_,rfl,63,rfl,sc,_,rfl,SqL.same hS s1,λl hl=>⟨l,_,rfl,.inl (SqL.of au),λc hc=>?_⟩⟩
 have pl:p≠l:=λz=>by rw[←z,au] at hl;cases hl
 have pc:p≠c:=λz=>by rw[←z,aq pl,au] at hc;cases hc
 refine⟨by rw[aq pc,aq pl];exact au,[(Ĉ ("cells":Str),.ref c),(Ĉ ("at":Str),.int 0),(Ĉ ("rest":Str),.int 0)],rfl,(by show 3<=15;decide),?_⟩
 rw[FZ]
 exact q p c ns' _ pc ⟨0,0,au,by rw[aq (ġ pc),au,e']⟩ λb o e=>by rw[aq (aD e hp)];exact qM hc _ b o (qM hl _ b o (s1 b o e))
end
end Nf
set_option maxHeartbeats 4000000
namespace Nf
open PySem L2 PyProof.Rows Dl
def allB(n:Nat)(p:Nat->Bool):Bool:=(Û n).all p
def allB_iff{n:Nat}{p:Nat->Bool}(h:allB n p=true):∀i,i<n->p i=true:=λi hi=>ü.mp h i (ċ.mpr hi)
def inB(s r:Nat):Bool:=(s &&& r) == s
def chn:Nat->Nat->Nat->List Nat
 |0,_,_=>[]
 |f+1,r,s=>s::(if s=0 then [] else chn f r ((s - 1) &&& r))
def Om:allB 128 (λr=>chn 129 r r == (Û (r+1)).reverse.filter (λs=>inB s r))=true:=by decide +kernel
def Vn:allB 128 (λr=>allB (r+1) λs=>!inB s r || (((r - s) &&& s == 0)&&inB (r - s) r))=true:=by decide +kernel
def Vm:allB 8 (λj=>allB (2 ^ j) λr=>allB (r+1) λs=>!inB s r || inB (s+2 ^ j) (r+2 ^ j))=true:=by decide +kernel
def Vo:allB 8 (λj=>allB (2 ^ j) λk=>allB (2 ^ j) λs=>(k &&& (s+2 ^ j)) == (k &&& s))=true:=by decide +kernel
def W4:allB 8 (λj=>allB (2 ^ j) λr=>allB (2 ^ (j+1)) λm=>!inB m (r+2 ^ j) || (if m<2 ^ j then inB m r else inB (m - 2 ^ j) r))=true:=by decide +kernel
def Px:allB 9 (λn=>allB (2 ^ n) λa=>(subs n).getD a [] == ((Û n).filter (λi=>a.testBit i)).map λi:Nat=>0+((i:Nat):Int))=true:=by decide +kernel
def eY{s r:Nat}:inB s r=true↔s &&& r=s:=beq_iff_eq
def cO{s r:Nat}(h:inB s r=true):s<=r:=by
 have:=eY.mp h
 rw[←this]
 exact Nat.and_le_right
def Qa{r s:Nat}(hr:r<128)(h:inB s r=true):((r - s) &&& s)=0/\inB (r - s) r=true:=by
 have a:=allB_iff (allB_iff Vn r hr) s (by have:=cO h;omega)
 rw[h] at a
 simp only[Bool.not_true,Bool.false_or,Ë,beq_iff_eq] at a
 exact a
def VR{j r s:Nat}(hj:j<8)(hr:r<2 ^ j)(h:inB s r=true):inB (s+2 ^ j) (r+2 ^ j)=true:=by
 have a:=allB_iff (allB_iff (allB_iff Vm j hj) r hr) s (by have:=cO h;omega)
 rw[h] at a
 simpa using a
def Qc{j k s:Nat}(hj:j<8)(hk:k<2 ^ j)(hs:s<2 ^ j):k &&& (s+2 ^ j)=k &&& s:=beq_iff_eq.mp (allB_iff (allB_iff (allB_iff Vo j hj) k hk) s hs)
def VN{j r m:Nat}(hj:j<8)(hr:r<2 ^ j)(hm:m<2 ^ (j+1))(h:inB m (r+2 ^ j)=true):(m<2 ^ j/\inB m r=true)\/(2 ^ j<=m/\inB (m - 2 ^ j) r=true):=by
 have a:=allB_iff (allB_iff (allB_iff W4 j hj) r hr) m hm
 rw[h] at a
 by_cases c:m<2 ^ j
 ·rw[if_pos c] at a
  exact .inl ⟨c,by simpa using a⟩
 ·rw[if_neg c] at a
  exact .inr ⟨by omega,by simpa using a⟩
def nR{r:Nat}(hr:r<128):∀s,s∈chn 129 r r↔inB s r=true:=λs=>by
 rw[beq_iff_eq.mp (allB_iff Om r hr),Ċ,List.mem_reverse,ċ]
 exact⟨λh=>h.2,λh=>⟨by have:=cO h;omega,h⟩⟩
def Fg{j:Nat}(h:j<8):2 ^ j<=128:=î (ā (n:=2) (by decide) (show j<=7 by omega)) (by decide)
abbrev En:=Int×List Int
def pN(ws ks:List Int):Int:=(ks.map λk=>ws.getD k.toNat 0).sum
def Hj(ws ks:List Int)(k:Int):pN ws (ks++[k])=pN ws ks+ws.getD k.toNat 0:=by
 unfold pN
 rw[Þ,List.sum_append]
 simp
structure BE(ws:List Int)(n m:Nat)(e:En):Prop where
 sum:e.1=pN ws e.2
 mem:∀k∈e.2,0<k/\inB k.toNat m=true/\k.toNat+1<2 ^ n
 apart:e.2.Pairwise λa b=>a.toNat &&& b.toNat=0
 top:∀s,inB s m=true->ws.getD s 0<=e.1
 len:∀j,m<2 ^ j->e.2.length<=j
def BE.nil{ws:List Int}{n:Nat}(h:ws.getD 0 0=0):BE ws n 0 (0,[]):=⟨rfl,λk h=>(nomatch h),.nil,λs hs=>by
 have:s=0:=by have:=cO hs;omega
 rw[this,h]
 exact ć _,λ_ _=>ô _⟩
def BE.nn{ws:List Int}{n m:Nat}{e:En}(h:BE ws n m e)(h0:ws.getD 0 0=0):0<=e.1:=by
 have:=h.top 0 (eY.mpr (Nat.zero_and m))
 rwa [h0] at this
def BE.zero{ws:List Int}{n:Nat}{e:En}(h:BE ws n 0 e):e=(0,[]):=by
 obtain⟨t,L⟩:=e
 have hL:L=[]:=by
  cases L with
  |nil=>rfl
  |cons k L =>
   obtain⟨h1,h2,_⟩:=h.mem k À
   have:=cO h2
   omega
 subst hL
 have:=h.sum
 exact Prod.ext this rfl
def bQ(ws:List Int)(bs:List En)(top rest:Nat)(found:En)(sub:Nat):En :=
 if found.1<ws.getD (sub+top) 0+(bs.getD (rest - sub) (0,[])).1 then (ws.getD (sub+top) 0+(bs.getD (rest - sub) (0,[])).1,(bs.getD (rest - sub) (0,[])).2++[((sub+top:Nat):Int)]) else found
structure FE(ws:List Int)(n j rest:Nat)(seen:List Nat)(e:En):Prop where
 sum:e.1=pN ws e.2
 mem:∀k∈e.2,0<k/\inB k.toNat (rest+2 ^ j)=true/\k.toNat+1<2 ^ n
 apart:e.2.Pairwise λa b=>a.toNat &&& b.toNat=0
 low:∀s,inB s rest=true->ws.getD s 0<=e.1
 upp:∀s∈seen,ws.getD (s+2 ^ j) 0<=e.1
 len:e.2.length<=j+1
section
variable {ws:List Int}{n j rest:Nat}{bs:List En} (h0:ws.getD 0 0=0) (h1:ws.getD (2 ^ n - 1) 0=0) (hn:n<=8) (hj:j<n) (hr:rest<2 ^ j) (hb:∀m,m<2 ^ j->BE ws n m (bs.getD m (0,[])))
theorem DP{k r j:Nat}(hj:j<8)(hr:r<2 ^ j)(h:inB k r=true):inB k (r+2 ^ j)=true:=by
 rw[eY] at h ⊢
 have:=cO (eY.mpr h)
 rw[Qc hj (by omega) hr]
 exact h
include hn hj hr hb in
theorem FE.start:FE ws n j rest [] (bs.getD rest (0,[])):=by
 have b:=hb rest hr
 exact⟨b.sum,λk hk=>let ⟨x,y,z⟩:=b.mem k hk;⟨x,DP (by omega) hr y,z⟩,b.apart,b.top,λs h=>(nomatch h),by have:=b.len j hr;omega⟩
include h0 h1 hn hj hr hb in
theorem FE.step{seen:List Nat}{e:En}(f:FE ws n j rest seen e){s:Nat}(hs:inB s rest=true):FE ws n j rest (s::seen) (bQ ws bs (2 ^ j) rest e s):=by
 have p8:=Fg (show j<8 by omega)
 have sl:=cO hs
 obtain⟨q1,q2⟩:=Qa (show rest<128 by omega) hs
 have b:=hb (rest - s) (by omega)
 have bn:=b.nn h0
 have en:0<=e.1:=by
  have:=f.low 0 (eY.mpr (Nat.zero_and _))
  rwa [h0] at this
 unfold bQ
 by_cases c:e.1<ws.getD (s+2 ^ j) 0+(bs.getD (rest - s) (0,[])).1
 ·rw[if_pos c]
  have kr:∀k,inB k (rest - s)=true->inB k rest=true/\k &&& s=0:=λk hk=>by
   rw[eY] at hk q2 ⊢
   refine⟨?_,?_⟩
   ·rw[←hk,Nat.and_assoc,q2]
   ·rw[←hk,Nat.and_assoc,q1,Nat.and_zero]
  refine⟨?_,λk hk=>?_,?_,λx hx=>?_,λx hx=>?_,?_⟩
  ·show _=pN ws (_++[_])
   rw[Hj,←b.sum,Ø]
   omega
  ·rcases ä.mp hk with z|z
   ·obtain⟨x,y,w⟩:=b.mem k z
    exact⟨x,DP (by omega) hr (kr _ y).1,w⟩
   ·rw[ï.mp z,Ø]
    have pj:=ŋ j
    refine⟨by omega,VR (by omega) hr hs,?_⟩
    have pn:2 ^ (j+1)<=2 ^ n:=ā (by decide) (by omega)
    rw[ŀ] at pn
    rcases Ŏ (s+2 ^ j+1) (2 ^ n) with z|z
    ·exact z
    ·have e1:rest - s=0:=by omega
     have e2:s+2 ^ j=2 ^ n - 1:=by omega
     rw[e1] at b c
     rw[e2,h1,b.zero] at c
     exact absurd c (by show ¬e.1<0+0;omega)
  ·refine Ş.mpr ⟨b.apart,by simp,λx hx y hy=>?_⟩
   rw[ï.mp hy,Ø]
   obtain⟨_,y1,_⟩:=b.mem x hx
   have k1:=kr _ y1
   have:=cO k1.1
   rw[Qc (by omega) (by omega) (by omega)]
   exact k1.2
  ·have:=f.low x hx
   show _<=_+_
   omega
  ·show _<=ws.getD (s+2 ^ j) 0+_
   rcases Ó.mp hx with rfl|hx
   ·omega
   ·have:=f.upp x hx
    omega
  ·show(_++[_]).length<=_
   rw[Æ,Ü]
   have:=b.len j (by omega)
   omega
 ·rw[if_neg c]
  refine⟨f.sum,f.mem,f.apart,f.low,λx hx=>?_,f.len⟩
  rcases Ó.mp hx with rfl|hx
  ·omega
  ·exact f.upp x hx
include h0 h1 hn hj hr hb in
theorem FE.walk:∀(l:List Nat) {seen:List Nat}{e:En},FE ws n j rest seen e->(∀s∈l,inB s rest=true)->FE ws n j rest (l.reverse++seen) (l.foldl (bQ ws bs (2 ^ j) rest) e)
 |[],_,_,f,_=>f
 |s::l,seen,e,f,h=>by
  have:=FE.walk l (FE.step h0 h1 hn hj hr hb f (h s À)) λx hx=>h x (Ä _ hx)
  rw[List.reverse_cons,Ż]
  exact this
include hn hj hr in
theorem FE.done{seen:List Nat}{e:En}(f:FE ws n j rest seen e)(h:∀s,inB s rest=true->s∈seen):BE ws n (rest+2 ^ j) e:=by
 refine⟨f.sum,f.mem,f.apart,λs hs=>?_,λi hi=>?_⟩
 ·have sl:=cO hs
  rcases VN (by omega) hr (by rw[ŀ];omega) hs with ⟨_,z⟩|⟨c,z⟩
  ·exact f.low s z
  ·have:=f.upp _ (h _ z)
   rwa [show s - 2 ^ j+2 ^ j=s by omega] at this
 ·have:j+1<=i:=by
   rcases Ŏ j i with z|z
   ·omega
   ·have:=ā (n:=2) (by decide) z
    omega
  exact î f.len this
end
def bwF(ws:List Int)(bs:List En)(top rest:Nat):En:=(chn 129 rest rest).foldl (bQ ws bs top rest) (bs.getD rest (0,[]))
def dJ(ws:List Int)(bs:List En)(top:Nat):Nat->List En
 |0=>bs
 |i+1=>dJ ws bs top i++[bwF ws (dJ ws bs top i) top i]
def grow(ws:List Int):Nat->List En
 |0=>[(0,[])]
 |j+1=>dJ ws (grow ws j) (2 ^ j) (2 ^ j)
def K1(ws:List Int)(n:Nat):En:=(grow ws n).getD (2 ^ n - 1) (0,[])
def setOf(n:Nat)(k:Int):List Int:=(subs n).getD k.toNat []
structure HAok(n:Nat)(ws ks:List Int):Prop where
 len:ks.length<=n
 rng:∀k∈ks,0<k/\k<(2 ^ n:Nat) - 1
 apart:ks.Pairwise λa b=>∀x∈setOf n a,x∉setOf n b
 top:∀w∈ws,w<=pN ws ks
 is:ks=(K1 ws n).2
 tot:pN ws ks=(K1 ws n).1
def BE.ha{n:Nat}{ws:List Int}{e:En}(hn:n<=8)(hl:ws.length=2 ^ n)(b:BE ws n (2 ^ n - 1) e)(he:e=K1 ws n):HAok n ws e.2:=by
 have pn:=ŋ n
 have sb:∀a,a<2 ^ n->(subs n).getD a []=((Û n).filter (λi=>a.testBit i)).map λi:Nat=>0+((i:Nat):Int):=λa ha=>beq_iff_eq.mp (allB_iff (allB_iff Px n (by omega)) a ha)
 refine⟨b.len n (by omega),λk hk=>?_,?_,λw hw=>?_,by rw[he],by rw[←b.sum,he]⟩
 ·obtain⟨h1,_,h3⟩:=b.mem k hk
  omega
 ·have key:∀{l:List Int},l.Pairwise (λa b=>a.toNat &&& b.toNat=0)->(∀k∈l,k.toNat<2 ^ n)->l.Pairwise λa b=>∀x∈setOf n a,x∉setOf n b:=λ{l} h m=>by
   induction h with
   |nil=>exact .nil
   |cons h t ih =>
    refine .cons (λy hy x hx hx2=>?_) (ih λk hk=>m k (Ä _ hk))
    unfold setOf at hx hx2
    rw[sb _ (m _ À)] at hx
    rw[sb _ (m _ (Ä _ hy))] at hx2
    obtain⟨i,hi,rfl⟩:=Ý.mp hx
    obtain⟨i2,hi2,e⟩:=Ý.mp hx2
    have e:i2=i:=by omega
    subst e
    have z:=congrArg (λv=>Nat.testBit v i2) (h y hy)
    simp only[Nat.testBit_and,Nat.zero_testBit,(Ċ.mp hi).2,(Ċ.mp hi2).2] at z
    cases z
  exact key b.apart λk hk=>by have:=(b.mem k hk).2.2;omega
 ·obtain⟨s,hs,rfl⟩:=List.getElem_of_mem hw
  have h2:s<2 ^ n:=by omega
  have:=b.top s (eY.mpr (by rw[Nat.and_two_pow_sub_one_eq_mod,Nat.mod_eq_of_lt h2]))
  rw[Ê,Ì hs] at this
  rw[←b.sum]
  exact this
def fHA(ds:List D)(P:D->Prop):Prop:=∃(n:Nat) (ws:List Int),ds=[iD ws]/\1<=n/\n<=8/\ws.length=2 ^ n/\(∀x∈ws,0<=x)/\ws.head?=some 0/\ws.getLast?=some 0/\∀ks,HAok n ws ks->P (iD ks)
def enD(e:En):D:=.tuple [.int e.1,iD e.2]
def fBW(ds:List D)(P:D->Prop):Prop:=∃(n j rest:Nat) (ws:List Int) (bs:List En),ds=[iD ws,.list (bs.map enD),.int ((2 ^ j:Nat):Int),.int ((rest:Nat):Int)]/\n<=8/\j<n/\rest<2 ^ j/\ws.length=2 ^ n/\bs.length=2 ^ j+rest/\(∀e∈bs,e.2.length<=8)/\P (enD (bwF ws bs (2 ^ j) rest))
def K3(a b:Nat):ů ((a:Nat):Int) ((b:Nat):Int)=((a &&& b:Nat):Int):=by
 unfold ů
 rw[decide_eq_true (by omega),decide_eq_true (by omega)]
 rfl
def V0{ws:List Int}{i:Nat}(h:i<ws.length):atI (ws.map Ã) ((i:Nat):Int)=some (.int (ws.getD i 0)):=by
 refine gC ?_
 rw[è,Ê,Ì h]
 rfl
def Qd{bs:List En}{i:Nat}(h:i<bs.length):atI (bs.map enD) ((i:Nat):Int)=some (enD (bs.getD i (0,[]))):=by
 refine gC ?_
 rw[è,Ê,Ì h]
 rfl
def IvB(ws:List Int)(bs:List En)(j rest m:Nat)(ρ:List Sl):Prop:=∃(s:Int) (l:List Nat) (e:En) (s4:Sl),ρ=[.sh (iD ws),.sh (.list (bs.map enD)),.im (.int ((2 ^ j:Nat):Int)),.im (.int ((rest:Nat):Int)),s4,.im (.int s),.any]/\(s4=.sh (enD e)\/s4=.sn (enD e))/\((s=-1/\l=[])\/∃f sN:Nat,s=((sN:Nat):Int)/\sN+1<=f/\l=chn f rest sN)/\l.foldl (bQ ws bs (2 ^ j) rest) e=bwF ws bs (2 ^ j) rest/\(∀x∈l,inB x rest=true)/\m=l.length
def KN(g r s:Nat):chn (g+1) r s=s::(if s=0 then [] else chn g r ((s - 1) &&& r)):=rfl
def Es{ws:List Int}{bs:List En}{j rest sN g:Nat}{e e':En}{s4:Sl}{t:Int}{Q:DEnds}(hsf:sN+1<=g+1)(h4:s4=.sh (enD e')\/s4=.sn (enD e'))(hf:(chn (g+1) rest sN).foldl (bQ ws bs (2 ^ j) rest) e=bwF ws bs (2 ^ j) rest)(he:e'=bQ ws bs (2 ^ j) rest e sN)(hin:∀x∈chn (g+1) rest sN,inB x rest=true)(hQ:∀ρ2,(∃m',m'<(chn (g+1) rest sN).length/\IvB ws bs j rest m' ρ2)->Q.nx ρ2) :
  rY (wY 5 none (Qp (fW (t2 (gI0 λi j=>PyData.bool (decide (j<i))) (tV 5) (tK (Ã 0)))) (t2 (gI0 λi j=>Ã (ů i j)) (t2 (gI0 λi j=>Ã (i - j)) (tV 5) (tK (Ã 1))) (tV 3)) (Qn (tK (Ã 1))))) (Bx [6] Kz) Q
   [.sh (iD ws),.sh (.list (bs.map enD)),.im (.int ((2 ^ j:Nat):Int)),.im (.int ((rest:Nat):Int)),s4,.im (.int ((sN:Nat):Int)),.im (.int t)]:=by
 rw[KN] at hf hin hQ
 show if decide ((0:Int)<((sN:Nat):Int))=true then _ else _
 by_cases c:sN=0
 ·subst c
  rw[decide_eq_false (by omega)]
  refine bD (A:=True) ?_
  rw[if_pos rfl] at hf hin hQ
  exact hQ _ ⟨0,by simp,-1,[],e',s4,rfl,h4,.inl ⟨rfl,rfl⟩,by rw[he];exact hf,λx hx=>(nomatch hx),rfl⟩
 ·rw[decide_eq_true (by omega)]
  refine aK (B:=True) ?_
  rw[if_neg c] at hf hin hQ
  have eb:ů (((sN:Nat):Int) - 1) ((rest:Nat):Int)=(((sN - 1) &&& rest:Nat):Int):=by
   rw[show((sN:Nat):Int) - 1=((sN - 1:Nat):Int) by omega]
   exact K3 _ _
  have hl:((sN - 1) &&& rest)<=sN - 1:=Nat.and_le_left
  exact hQ _ ⟨(chn g rest ((sN - 1) &&& rest)).length,by simp,(((sN - 1) &&& rest:Nat):Int),chn g rest ((sN - 1) &&& rest),e',s4,by rw[←eb];rfl,h4,.inr ⟨g,(sN - 1) &&& rest,rfl,by omega,rfl⟩,by rw[he];exact hf,λx hx=>hin x (Ä _ hx),rfl⟩
section
variable {P:Program}{w:World}{K:Ú}{mg:Str->Option Value}{base:Heap}{f:Addr}{fd:FuncData}{CN:Addr}
def mD:FnScope ["weights","best","top","rest","found","sub","total"] ["weights","best","top","rest"] (ak (top 25)):=zC
def vP(F:Fun K "best_with" "best_with" (top 25) f fd)(B:ľ mg):FnOk P w K mg base CX0 1 f fd ["weights","best","top","rest"] (spR fBW):=by
 refine F.ok mD nq (λcdv A outer s H vs Q E hr h=>?_)
 have nd:=mD.nd
 refine⟨_,Dl.WR.h (Œ (ö none (i:=4) nd rfl zQ (ė (Í 1) (Í 3)))
  (Œ (ö none (i:=5) nd rfl zQ (Í 3))
  (Œ (Wr.jM Ē (Wr.Am (Í 5) Õ) (å (ö none (i:=6) nd rfl zQ (ë (ė (Í 0) (ë (Í 5) (Í 2))) (ė (ė (Í 1) (Wr.cX (Í 3) (Í 5))) Õ)))
  (å (Wr.cU (Wr.lG (Í 6) (ė (Í 4) Õ)) (Ĕ (ö none (i:=4) nd rfl zQ (Č (Â (Í 6) (Â (ë (ė (ė (Í 1) (Wr.cX (Í 3) (Í 5))) Õ) (ì (Â (ë (Í 5) (Í 2)) Ç))) Ç))))) Ł)
  (å (ö none (i:=5) nd rfl zQ (Wr.jz (Wr.lG (Í 5) Õ) (Wr.Ms (Wr.cX (Í 5) Õ) (Í 3)) (Wr.gG Õ))) (Ĺ [6] Ł)))))
  (Dl.qN (Í 4))))),rR h ?_⟩
 rintro ds P ⟨n,j,rest,ws,bs,rfl,n8,jn,rj,lw,lb,le,q⟩
 refine⟨[.sh (iD ws),.sh (.list (bs.map enD)),.im (.int ((2 ^ j:Nat):Int)),.im (.int ((rest:Nat):Int)),.any,.any,.any],rfl,?_⟩
 have p8:=Fg (show j<8 by omega)
 have pn:2 ^ (j+1)<=2 ^ n:=ā (by decide) (by omega)
 rw[ŀ] at pn
 refine⟨_,Qd (by omega),?_⟩
 refine qw (rg:=none) (i:=4) (k:=norm .shr (enD (bs.getD rest (0,[])))) (d:=enD (bs.getD rest (0,[]))) (s:=.sh (enD (bs.getD rest (0,[])))) (by rfl) ?_
 show Af (Bw _ _) (Qz (tV 4)) P [.sh (iD ws),.sh (.list (bs.map enD)),.im (.int ((2 ^ j:Nat):Int)),.im (.int ((rest:Nat):Int)),.sh (enD (bs.getD rest (0,[]))),.im (.int ((rest:Nat):Int)),.any]
 refine⟨IvB ws bs j rest,
  ⟨_,_,chn 129 rest rest,bs.getD rest (0,[]),_,rfl,.inl rfl,.inr ⟨129,rest,rfl,by omega,rfl⟩,rfl,λx hx=>(nR (by omega) x).mp hx,rfl⟩,?_⟩
 rintro m ρ ⟨s,l,e,s4,rfl,h4,hs,hf,hin,rfl⟩
 show if decide ((0:Int)<=s)=true then _ else _
 rcases hs with ⟨rfl,rfl⟩|⟨f,sN,rfl,hsf,rfl⟩
 ·rw[decide_eq_false (by omega)]
  refine bD (A:=True) ?_
  have hf:e=bwF ws bs (2 ^ j) rest:=hf
  rw[←hf] at q
  rcases h4 with rfl|rfl <;> exact q
 ·rw[decide_eq_true (by omega)]
  refine aK (B:=True) ?_
  obtain⟨g,rfl⟩:∃g,f=g+1:=⟨f - 1,by omega⟩
  have hsr:inB sN rest=true:=hin sN À
  have hsl:=cO hsr
  have i1:atI (ws.map Ã) (((sN:Nat):Int)+((2 ^ j:Nat):Int))=some (.int (ws.getD (sN+2 ^ j) 0)):=by
   rw[show((sN:Nat):Int)+((2 ^ j:Nat):Int)=((sN+2 ^ j:Nat):Int) by omega]
   exact V0 (by omega)
  have i2:atI (bs.map enD) (((rest:Nat):Int) - ((sN:Nat):Int))=some (enD (bs.getD (rest - sN) (0,[]))):=by
   rw[show((rest:Nat):Int) - ((sN:Nat):Int)=((rest - sN:Nat):Int) by omega]
   exact Qd (by omega)
  refine⟨_,i1,_,i2,_,rfl,?_⟩
  refine qw (rg:=none) (i:=6) (k:=.imm) (d:=.int (ws.getD (sN+2 ^ j) 0+(bs.getD (rest - sN) (0,[])).1)) (s:=.im (.int (ws.getD (sN+2 ^ j) 0+(bs.getD (rest - sN) (0,[])).1))) (by rfl) ?_
  have ln:(bs.getD (rest - sN) (0,[])).2.length<=8:=by
   rw[Ê,Ì (by omega)]
   exact le _ (Ħ _)
  have h40:∀{R:Prop},(s4=.sh (enD e)->R)->(s4=.sn (enD e)->R)->R:=λa b=>h4.elim a b
  by_cases c:e.1<ws.getD (sN+2 ^ j) 0+(bs.getD (rest - sN) (0,[])).1
  ·have he:(ws.getD (sN+2 ^ j) 0+(bs.getD (rest - sN) (0,[])).1,(bs.getD (rest - sN) (0,[])).2++[((sN+2 ^ j:Nat):Int)])=bQ ws bs (2 ^ j) rest e sN:=by
    unfold bQ
    rw[if_pos c]
   have ed:(bs.getD (rest - sN) (0,[])).2.map Ã++Ĥ (λx:Kd×D=>x.snd) [(Kd.imm,Ã (((sN:Nat):Int)+((2 ^ j:Nat):Int)))]=((bs.getD (rest - sN) (0,[])).2++[((sN+2 ^ j:Nat):Int)]).map Ã:=by
    rw[Þ,show((sN+2 ^ j:Nat):Int)=((sN:Nat):Int)+((2 ^ j:Nat):Int) by omega]
    rfl
   rcases h4 with rfl|rfl
   all_goals
    refine⟨.int e.1,rfl,?_⟩
    show if decide (e.1<_)=true then _ else _
    rw[decide_eq_true c]
    refine aK (B:=True) ⟨_,i2,_,rfl,zK,?_,.inl ⟨?_,zK,?_⟩⟩
    ·rw[Á]
     show _+1<=1000
     omega
    ·rw[ed]
     exact œ _
    ·dsimp only
     rw[ed]
     exact Es (s4:=.sn (enD (ws.getD (sN+2 ^ j) 0+(bs.getD (rest - sN) (0,[])).1,(bs.getD (rest - sN) (0,[])).2++[((sN+2 ^ j:Nat):Int)]))) hsf (.inr rfl) hf he hin λρ2 h=>h
  ·have he:e=bQ ws bs (2 ^ j) rest e sN:=by
    unfold bQ
    rw[if_neg c]
   rcases h4 with rfl|rfl
   all_goals
    refine⟨.int e.1,rfl,?_⟩
    show if decide (e.1<_)=true then _ else _
    rw[decide_eq_false c]
    refine bD (A:=True) ?_
    exact Es hsf (by first|exact .inl rfl|exact .inr rfl) hf he hin λρ2 h=>h
def gj:FnScope ["weights","best","top","rest"] ["weights"] (ak (top 26)):=zC
def mZ(F:Fun K "heaviest_apart" "heaviest_apart" (top 26) f fd)(B:ľ mg)(C_best_with:Ą P w K mg base 1 "best_with" ["weights","best","top","rest"] (spR fBW)):FnOk P w K mg base CX0 2 f fd ["weights"] (spD fHA):=by
 refine F.ok gj ħ (λcdv A outer s H vs Q E hr h=>?_)
 have nd:=gj.nd
 refine⟨_,Ķ (å (Wr.wV 0 true (i:=1) nd rfl zQ (Â (Č (Â Õ (Â (ì Ç) Ç))) Ç))
  (å (ö none (i:=2) nd rfl zQ Õ)
  (å (Wr.jM Ē (Wr.Al (Í 2) (Wr.fK B.len (Â (Í 0) Ç))) (å (Wr.eF Ē rfl (Wr.bT B.range (Â (Í 2) Ç)) (ú (i:=3) nd rfl zQ) (å (Wr.wX C_best_with hr (Wr.wv 1) (Wr.wv 0) (Wr.wv 1) (Wr.wv 2) (Wr.wv 3)) (Ĺ [3] Ł)))
  (Ĺ [3] (å (ö none (i:=2) nd rfl zQ (Wr.gQ Õ (Í 2))) (Ĺ [3] Ł)))))
  (Ĺ [2,3] (Ĕ (Ĩ (ė (ė (Í 1) (Wr.gG Õ)) Õ))))))),aY h ?_⟩
 rintro ds P ⟨n,ws,rfl,n1,n8,lw,w0,hh,hl,q⟩
 refine⟨[.sh (iD ws),.any,.any,.any],rfl,?_⟩
 have pn:=ŋ n
 have p2:2 ^ n<=256:=ā (n:=2) (by decide) n8
 have h0:ws.getD 0 0=0:=by
  cases ws with
  |nil=>rfl
  |cons x l=>cases hh;rfl
 have h1:ws.getD (2 ^ n - 1) 0=0:=by
  rw[List.getLast?_eq_getElem?,lw] at hl
  rw[Ê,hl]
  rfl
 have el:((iD ws:D)=.list (ws.map Ã)):=rfl
 refine⟨zK,zK,zK,rfl,rfl,?_⟩
 refine⟨λm ρ=>∃(j:Nat) (bs:List En),ρ=[.sh (iD ws),.sp 0 true (bs.map enD),.im (.int ((2 ^ j:Nat):Int)),.any]/\j<=n/\bs.length=2 ^ j/\bs=grow ws j/\(∀i,i<2 ^ j->BE ws n i (bs.getD i (0,[])))/\m=n - j,⟨_,0,[(0,[])],rfl,by omega,rfl,rfl,λi hi=>?_,rfl⟩,?_⟩
 ·have:i=0:=by omega
  subst this
  exact .nil h0
 rintro m ρ ⟨j,bs,rfl,jn,lb,eg,hb,rfl⟩
 show if decide (((2 ^ j:Nat):Int)<(((ws.map Ã).length:Nat):Int))=true then _ else _
 rw[Á,lw]
 by_cases c:j<n
 ·have pj:2 ^ (j+1)<=2 ^ n:=ā (by decide) (by omega)
  have pjj:2 ^ (j+1)=2 ^ j * 2:=ŀ ..
  have pp:=ŋ j
  rw[decide_eq_true (by omega)]
  refine aK (B:=True) ⟨⟨by omega,by omega⟩,rfl,λ(i:Nat) ρ=>∃bs:List En,ρ=[.sh (iD ws),.sp 0 true (bs.map enD),.im (.int ((2 ^ j:Nat):Int)),.any]/\bs.length=2 ^ j+i/\bs=dJ ws (grow ws j) (2 ^ j) i/\∀t,t<2 ^ j+i->BE ws n t (bs.getD t (0,[])),⟨bs,rfl,lb,eg,hb⟩,?_,?_⟩
  ·rintro i d ρ hd ⟨bs,rfl,lb,eg,hb⟩
   obtain⟨hi,rfl⟩:=cG hd
   rw[Ø] at hi
   have be:=(FE.walk h0 h1 n8 c hi (λm hm=>hb m (by omega)) (chn 129 i i) (FE.start n8 c hi λm hm=>hb m (by omega)) λs hs=>(nR (by have:=Fg (show j<8 by omega);omega) s).mp hs).done n8 c hi λs hs=>by
    rw[ø,List.mem_reverse]
    exact(nR (by have:=Fg (show j<8 by omega);omega) s).mpr hs
   have be:BE ws n (i+2 ^ j) (bwF ws bs (2 ^ j) i):=be
   have l8:∀e∈bs,e.2.length<=8:=λe he=>by
    obtain⟨t,ht,rfl⟩:=List.getElem_of_mem he
    have:=(hb t (by omega)).len n (by omega)
    rw[Ê,Ì ht] at this
    exact î this n8
   have tn:i+2 ^ j<2 ^ n:=by omega
   have ln:=be.len n tn
   have lt:n<2 ^ n:=Nat.lt_two_pow_self
   refine⟨0,bs.map enD,ws,((2 ^ j:Nat):Int),0+((i:Nat):Int),rfl,rfl,rfl,rfl,?_,by rw[Á];omega,n,j,i,ws,bs,by rw[Int.zero_add],n8,c,hi,lw,lb,l8,(bwF ws bs (2 ^ j) i).1,(bwF ws bs (2 ^ j) i).2,rfl,by omega,bs++[bwF ws bs (2 ^ j) i],?_,by rw[Æ,Ü];omega,by rw[eg];rfl,λt ht=>?_⟩
   ·cases bs with
    |nil=>simp at lb;omega
    |cons e tl=>exact⟨_,_,_,rfl⟩
   ·show [_,Sl.sp 0 true (bs.map enD++[enD (bwF ws bs (2 ^ j) i)]),_,_]=[_,Sl.sp 0 true ((bs++[bwF ws bs (2 ^ j) i]).map enD),_,_]
    rw[Þ]
    rfl
   ·rcases Ŏ t (2 ^ j+i) with z|z
    ·have:=hb t z
     rw[Ê] at this ⊢
     rw[ñ (by omega)]
     exact this
    ·have e:t=i+2 ^ j:=by omega
     subst e
     rw[Ê,ê (by omega),show i+2 ^ j - bs.length=0 by omega]
     exact be
  ·rintro ρ ⟨bs,rfl,lb,eg,hb⟩
   rw[Ň,Ø] at lb eg hb
   refine⟨?_,n - (j+1),by omega,j+1,bs,?_,by omega,by omega,eg,λt ht=>hb t (by omega),rfl⟩
   ·exact .inl ⟨by decide,by decide⟩
   ·rw[show((2 ^ (j+1):Nat):Int)=2 * ((2 ^ j:Nat):Int) by omega]
    rfl
 ·have jn:j=n:=by omega
  subst jn
  rw[decide_eq_false (by omega)]
  refine bD (A:=True) ?_
  have be:=hb (2 ^ j - 1) (by omega)
  have e1:atI (bs.map enD) (-1)=some (enD (bs.getD (2 ^ j - 1) (0,[]))):=by
   rcases List.eq_nil_or_concat bs with rfl|⟨B,e,hB⟩
   ·simp at lb;omega
   ·rw[List.concat_eq_append] at hB
    subst hB
    rw[Æ,Ü] at lb
    rw[Þ,Ê,ê (by omega),show 2 ^ j - 1 - B.length=0 by omega]
    exact K4 _ _
  exact⟨_,e1,_,rfl,rfl,q _ (be.ha n8 lw (by rw[eg];rfl))⟩
end
def fV(n:Nat)(W:List Int->Int):List Int:=0::(((subs n).drop 1).dropLast.map W++[0])
def uO(n:Nat)(W:List Int->Int)(out:List (List Int)):Prop:=∃ks,HAok n (fV n W) ks/\out.Perm (ks.map (setOf n))/\out.Pairwise (λa b=>bA 40 a<=bA 40 b)/\∀l∈out,nY l
def fWt(n:Nat)(W:List Int->Int)(ds:List D)(P:D->Prop):Prop:=∃l:List Int,ds=[.list (l.map Ã)]/\Proper ((n:Nat):Int) l/\P (.int (W l))
def tHF(g:List D->(D->Prop)->Prop)(m:Int)(Pd:D->Prop):Prop:=∃(n:Nat) (W:List Int->Int),m=((n:Nat):Int)/\1<=n/\n<=8/\g=fWt n W/\(∀l,0<=W l)/\∀out,uO n W out->Pd (.list (out.map iD))
def Eo{α:Type}(l:List α)(h:2<=l.length):eG l (some 1) (some (-1))=(l.drop 1).dropLast:=by
 unfold eG
 have e1:HT.sIx l.length l.length (some (-1))=l.length - 1:=by
  have e:HT.sIx l.length l.length (some (-1))=((-1:Int)+(l.length:Int)).toNat:=rfl
  rw[e]
  omega
 have e2:HT.sIx l.length 0 (some 1)=min 1 l.length:=HT.u9 l.length 0 1
 rw[e1,e2,Nat.min_eq_left (by omega),List.dropLast_eq_take,û]
def oA:∀k,∃M f,subs k=M++[f]/\∀l∈M,l.length<k
 |0=>⟨[],[],rfl,λl h=>nomatch h⟩
 |k+1=>by
  obtain⟨M,f,e,h⟩:=oA k
  refine⟨subs k++M.map λl=>l++[0+((k:Nat):Int)],f++[0+((k:Nat):Int)],?_,λl hl=>?_⟩
  ·show subs k++(subs k).map _=_
   rw[show(subs k).map (λl=>l++[0+((k:Nat):Int)])=(M++[f]).map (λl=>l++[0+((k:Nat):Int)]) by rw[←e],Þ,Ż]
   rfl
  ·rcases ä.mp hl with z|z
   ·have:=(gb k l z).2.2
    omega
   ·obtain⟨a,ha,rfl⟩:=Ý.mp z
    have:=h a ha
    rw[Æ,Ü]
    omega
def jW{n:Nat}(n1:1<=n)(n8:n<=8):2<=2 ^ n/\2 ^ n<=256:=⟨ā (n:=2) (by decide) n1,ā (n:=2) (by decide) n8⟩
def iM{n:Nat}(n1:1<=n)(n8:n<=8){l:List Int}(h:l∈((subs n).drop 1).dropLast):Proper ((n:Nat):Int) l:=by
 obtain⟨M,f,e,hM⟩:=oA n
 obtain⟨r,e2,hr⟩:=jX n
 have h1:=(List.dropLast_sublist _).mem h
 obtain⟨o1,o2,o3⟩:=gb n l (Š h1)
 have hne:l≠[]:=by
  rw[e2] at h1
  exact hr l h1
 have p2:=jW n1 n8
 have hM1:l∈M:=by
  have lm:(subs n).length=M.length+1:=by rw[e];simp
  have:((subs n).drop 1).dropLast=M.drop 1:=by
   rw[e,List.drop_append_of_le_length (by rw[aW] at lm;omega),List.dropLast_concat]
  rw[this] at h
  exact Š h
 have:=hM l hM1
 exact⟨List.length_pos_iff.mpr hne,by omega,o2,o1,by omega⟩
def qD{n:Nat}{W:List Int->Int}(n1:1<=n)(n8:n<=8)(w0:∀l,0<=W l):(fV n W).length=2 ^ n/\(∀x∈fV n W,0<=x)/\(fV n W).head?=some 0/\(fV n W).getLast?=some 0:=by
 have p2:=jW n1 n8
 unfold fV
 refine⟨?_,λx hx=>?_,rfl,?_⟩
 ·rw[Ù,Æ,Á,ĥ,û,aW,Ü]
  omega
 ·rcases Ó.mp hx with rfl|hx
  ·exact ć _
  ·rcases ä.mp hx with z|z
   ·obtain⟨l,_,rfl⟩:=Ý.mp z
    exact w0 l
   ·rw[ï.mp z];exact ć _
 ·rw[←List.cons_append,List.getLast?_concat]
def jY{n:Nat}{k:Int}(h:k.toNat<2 ^ n):(subs n)[k.toNat]?=some (setOf n k)/\setOf n k∈subs n:=by
 have hl:k.toNat<(subs n).length:=by rw[aW];exact h
 have e:(subs n)[k.toNat]?=some (setOf n k):=by
  unfold setOf
  rw[Ê,Ì hl]
  rfl
 exact⟨e,Ò e⟩
section
variable {P:Program}{w:World}{K:Ú}{mg:Str->Option Value}{base:Heap}{f:Addr}{fd:FuncData}{CN:Addr}
def fG:FnScope ["n","weigh","sets","weights"] ["n","weigh"] (ak (top 27)):=zC
def jE:(["some","n","weigh","sets","weights"]:List Str).Nodup:=by decide +kernel
def jD:(["number","n","weigh","sets","weights"]:List Str).Nodup:=by decide +kernel
def lM(F:Fun K "heaviest_family" "heaviest_family" (top 27) f fd)(B:ľ mg)(C_sets_below:Ą P w K mg base 1 "sets_below" ["count"] (spD fSB))(C_heaviest_apart:Ą P w K mg base 2 "heaviest_apart" ["weights"] (spD fHA)):FnOk P w K mg base CX0 10 f fd ["n","weigh"] (spF P w K mg base 9 ["some"] tHF):=by
 refine F.ok fG (λvs H Q E h=>by obtain⟨_,_,_,_,_,rfl,_⟩:=h;rfl) (λcdv A outer s H vs Q E hr h=>?_)
 obtain⟨n,fl,Z,g,Pd,rfl,⟨fdl,FW,FA,BW,hZ⟩,z,ht,k⟩:=h
 have nd:=fG.nd
 letI:=grZ Z
 refine⟨_,Ķ (å (ö none (i:=2) nd rfl zQ (ũ C_sets_below hr (Â (Í 0) Ç)))
  (å (ö none (i:=3) nd rfl zQ (ë (ë (ì (Â Õ Ç)) (ŗ ["some"] rfl (ĭ (Wr.mV (Í 2) (ų Õ) (ų (Wr.gG Õ)))) (λc=>(ú (i:=0) jE rfl zQ)) (λc=>ń) (λc=>(Wr.dcV hZ FW FA hr BW (Wr.wv 2) (Â (Í 0) Ç))))) (ì (Â Õ Ç))))
  (Ĕ (Ĩ (Wr.qT hr.units B.sorted (Â (ŗ ["number"] rfl (ĭ (ũ C_heaviest_apart hr (Â (Í 3) Ç))) (λc=>(ú (i:=0) jD rfl zQ)) (λc=>ń) (λc=>(ė (Í 3) (Í 0)))) Ç)))))),Sw z k rfl ?_⟩
 obtain⟨n,W,rfl,n1,n8,rfl,w0,q⟩:=ht
 refine⟨((n:Nat):Int),rfl,by omega,by omega,?_⟩
 rw[Ø]
 refine qw (rg:=none) (i:=2) (k:=norm .new (.list ((subs n).map lD))) (d:=.list ((subs n).map lD)) (s:=.sn (.list ((subs n).map lD))) (by rfl) ?_
 have p2:=jW n1 n8
 have ls:=aW n
 obtain⟨f1,f2,f3,f4⟩:=qD (W:=W) n1 n8 w0
 refine⟨zK,.inr ?_⟩
 have ec:eG ((subs n).map lD) (some 1) (some (-1))=(((subs n).drop 1).dropLast).map lD:=by
  rw[Eo _ (by rw[Á];omega),←Ő,←Ź]
 have ml:(((subs n).drop 1).dropLast).length<=256:=by rw[ĥ,û];omega
 dsimp only
 rw[ec]
 refine wB (((subs n).drop 1).dropLast) lD (λl=>.int (W l)) .imm rfl (by omega) (λl hl A B h=>aK (B:=True) ⟨⟨false,rfl⟩,l,rfl,iM n1 n8 hl,rfl,h⟩) ?_
 refine⟨?_,.inr ⟨zK,?_,.inr ?_⟩⟩
 ·show 1+(Ĥ _ _).length<=1000
  rw[Á]
  omega
 ·show(Ĥ _ _++Ĥ _ _).length+1<=1000
  rw[Æ,Á,Á]
  show 1+_+1<=1000
  omega
 have ew:(Ĥ (λx:Kd×D=>x.snd) [(Kd.imm,Ã 0)]++(((subs n).drop 1).dropLast).map λl=>Ã (W l))++Ĥ (λx:Kd×D=>x.snd) [(Kd.imm,Ã 0)]=(fV n W).map Ã:=by
  show Ã 0::((((subs n).drop 1).dropLast).map (λl=>Ã (W l))++[Ã 0])=Ã 0::((((subs n).drop 1).dropLast).map W++[0]).map Ã
  rw[Þ,õ]
  rfl
 dsimp only
 rw[ew]
 show Gx (tCl wL (bM (dLC [ð "number"].length (iSq (tFn fHA (bM (tV 3) iy))) (gNm 0) (λx P=>P true) (t2 gIx (tV 3) (tV 0))) iy)) { nx:=λx=>Pd PyData.none,rt:=Pd } [.im (.int n),.scr (.ref fl) false,.sn (.list ((subs n).map lD)),.sn (iD (fV n W))]
 refine⟨n,fV n W,rfl,n1,n8,f1,f2,f3,f4,λks hk=>?_⟩
 have kl:=hk.len
 have km:∀k∈ks,k.toNat<2 ^ n/\0<=k:=λk h=>by have:=hk.rng k h;omega
 refine wB ks Ã (λk=>lD (setOf n k)) .snw rfl (by omega) (λk h A B z=>aK (B:=True) ⟨lD (setOf n k),?_,rfl,z⟩) ?_
 ·obtain⟨h1,h2⟩:=km k h
  have:=(jY h1).1
  have ek:((k.toNat:Nat):Int)=k:=by omega
  have:=gC (xs:=(subs n).map lD) (j:=k.toNat) (v:=lD (setOf n k)) (by rw[è,this];rfl)
  rw[ek] at this
  exact this
 ·have nic:∀l∈ks.map (setOf n),nY l:=λl hl=>by
   obtain⟨k,hk',rfl⟩:=Ý.mp hl
   obtain⟨o1,o2,o3⟩:=gb n _ (jY (km k hk').1).2
   exact⟨by omega,λx hx=>by have:=o2 x hx;omega⟩
  refine⟨ks.map (setOf n),by rw[õ];rfl,by rw[Á];omega,nic,λout hp hs=>⟨rfl,q out ⟨ks,hk,hp,hs,λl hl=>nic l (hp.mem_iff.mp hl)⟩⟩⟩
end
def aQ(us:List Tie)(fa:Int)(l:List Int):Int:=if 0 > fa+1 - ((us.filter (lv l)).length:Nat) then 0 else fa+1 - ((us.filter (lv l)).length:Nat)
def nj(us:List Tie)(fa:Int)(l:List Int):0<=aQ us fa l:=by
 unfold aQ
 split <;> omega
def Ke(ds:List D)(P:D->Prop):Prop:=∃(n:Int) (us:List Tie) (fa:Int),ds=[aV n us,.int fa]/\1<=n/\n<=8/\us.length<=100/\∀out,uO n.toNat (aQ us fa) out->P (.list (out.map iD))
def lamOf:Expr->Arguments×Expr×Scope×Pos
 |.Lambda a b s p=>(a,b,s,p)
 |e=>(⟨[],[],none,[],[],none,[]⟩,e,{ kind:=.function,names:=[],isGenerator:=false,isCoroutine:=false },⟨0,0,0,0⟩)
def Ny:List Stmt->Expr
 |[.Return (some (.Call _ [_,e] _ _)) _]=>e
 |_=>.Constant .none 0 ⟨0,0,0,0⟩
def WW(st:Stmt):Arguments:=(lamOf (Ny (cH st))).1
def WT(st:Stmt):Expr:=(lamOf (Ny (cH st))).2.1
def JM(st:Stmt):Scope:=(lamOf (Ny (cH st))).2.2.1
def lamP(st:Stmt):Pos:=(lamOf (Ny (cH st))).2.2.2
structure CalA(P:Program)(w:World)(K:Ú)(mg:Str->Option Value)(k:Nat)(x:Str)(ps:List Str)(sp:Heap->Sp):Prop where
 ex:∃f fd,(∀base,FnOk P w K mg base CX0 k f fd ps (sp base))/\Binds K fd ps []/\W.keepIn K (.ref f)=true/\mg x=some (.ref f)
def sE:Str:=("best_family":Str)++".<locals>."++"<lambda>"
section
variable {P:Program}{w:World}{K:Ú}{mg:Str->Option Value}{base:Heap}{f:Addr}{fd:FuncData}{CN:Addr}
def Lp:FnScope ["web","falls"] ["web","falls"] (ak (top 28)):=zC
def Ge(b:Nat):LamScope ["some"] ["web","falls"] (JM (top 28)) [(ð "web",b+1),(ð "falls",b+1+1)]:=by
 have ne:(ð "falls" == ð "web")=false:=by decide +kernel
 have fr:∀y∈(JM (top 28)).names,y.2=.free->y.1="web"\/y.1="falls":=by decide +kernel
 have lw:Ű (ð "web") [(ð "web",b+1),(ð "falls",b+1+1)]=some (b+1):=by rw[ó,beq_self_eq_true]
 have lf:Ű (ð "falls") [(ð "web",b+1),(ð "falls",b+1+1)]=some (b+1+1):=by rw[ó,ne,ó,beq_self_eq_true]
 have inv:∀x c,Ű x [(ð "web",b+1),(ð "falls",b+1+1)]=some c->(x="web"/\c=b+1)\/(x="falls"/\c=b+1+1):=λx c h=>by
  rw[ó,ó] at h
  cases e1:x == ð "web" with
  |true=>rw[e1] at h;cases h;exact .inl ⟨eq_of_beq e1,rfl⟩
  |false =>
   rw[e1] at h
   cases e2:x == ð "falls" with
   |true=>rw[e2] at h;cases h;exact .inr ⟨eq_of_beq e2,rfl⟩
   |false=>rw[e2] at h;cases h
 refine⟨rfl,rfl,rfl,by decide +kernel,λx hx=>?_,λy hy=>?_,by decide +kernel,λx h=>?_,λx y c h1 h2=>?_⟩
 ·rw[ï.mp hx];rfl
 ·rcases Ó.mp hy with rfl|hy
  ·rfl
  ·rw[ï.mp hy];rfl
 ·rcases fr _ (ĕ h) rfl with z|z
  ·have z:x="web":=z
   subst z;exact⟨_,lw⟩
  ·have z:x="falls":=z
   subst z;exact⟨_,lf⟩
 ·rcases inv x c h1 with ⟨a1,a2⟩|⟨a1,a2⟩ <;> rcases inv y c h2 with ⟨b1,b2⟩|⟨b1,b2⟩
  ·rw[a1,b1]
  ·exact absurd (a2.symm.trans b2) (by omega)
  ·exact absurd (b2.symm.trans a2) (by omega)
  ·rw[a1,b1]
def M5{c PT:Addr}{oc kV doc pm ct:Value}{od an:Option Addr}{osl:Array (Option Value)}(lk:K.lookup f=some ⟨oc,od,.func (W.fnOf "best_family" "best_family" (gw (top 28)) (cH (top 28)) (ak (top 28)) .none kV doc pm an (.ref c) ct),osl⟩)(hcd:W.codeIn K (.ref c) "best_family"=true)(hC:∀h:Heap,K.In h->W.CodeHd h c PT)(hB:base.BuiltinsAt mg PT)(C_hf:CalA P w K mg 10 "heaviest_family" ["n","weigh"] (λbase=>spF P w K mg base 9 ["some"] tHF))(C_need:∀base,Ą P w K mg base 8 "need" ["web","falls","some"] (spD Ef)) :
  FnOk P w K mg base CX0 11 f (W.fnOf "best_family" "best_family" (gw (top 28)) (cH (top 28)) (ak (top 28)) .none kV doc pm an (.ref c) ct) ["web","falls"] (spT (Mg PT (lamP (top 28)) sE) Ke):=by
 obtain⟨fh,fdh,HF,hbH,hkH,hmH⟩:=C_hf.ex
 refine Pu (N:=["web","falls"]) lk hcd Lp Dv (λA outer s H vs Q E hr h=>?_)
 obtain⟨ds,Pd,ti,r,⟨n,us,fa,rfl,n1,n8,lu,q⟩,k⟩:=h
 obtain⟨vw,v2,rfl,rw,r2⟩:=r.two
 have e2:=r2.int'
 subst e2
 refine⟨_,PSs.nox (gk (lC (Ak (X:=(BJ CX0 P w K mg base ["web","falls"] "best_family" (ak (top 28)) f (.ref c) A outer s H E).nox) (x:="heaviest_family") (c:=c) (P:=PT) (ys:=["web","falls"]) (qual:=sE) HF hr rfl hmH hkH hbH (ė (Í 0) Õ).h rfl rfl rfl rfl (hC base) (λ_=>hB) (λ_=>rfl) ?_ ?_))),?_⟩
 ·intro y b h
  show Ű y [(ð "falls",s.heap.objs.size+1+1),(ð "web",s.heap.objs.size+1)]=some b
  have h:Ű y [(ð "web",s.heap.objs.size+1),(ð "falls",s.heap.objs.size+1+1)]=some b:=h
  rw[ó,ó] at h ⊢
  have ne:(ð "web" == ð "falls")=false:=by decide +kernel
  cases e1:y == ð "web" with
  |true =>
   have e1:=eq_of_beq e1
   subst e1
   rw[ne]
   rw[beq_self_eq_true] at h
   exact h
  |false =>
   rw[e1] at h
   cases e2:y == ð "falls" with
   |true=>rw[e2] at h;exact h
   |false=>rw[e2] at h;cases h
 ·intro y hy
  rcases Ó.mp hy with rfl|hy
  ·exact⟨rfl,_,rfl⟩
  ·rw[ï.mp hy]
   exact⟨rfl,_,rfl⟩
 have r0:Rp (λ_=>False) H vw (aV n us):=rw.imm (qm n us)
 have lk':∀{base':Heap}{fl c':Addr}{cl:List (Str×Addr)}{pm ctv:Value},base'.get? fl=some (W.kla_obj "<lambda>" sE (WW (top 28)) (WT (top 28)) (JM (top 28)) cl pm c' ctv)->LamScope ["some"] ["web","falls"] (JM (top 28)) cl->Caps base' cl ["web","falls"] [vw,.int fa] ->
   Hand P w K mg base' 9 fl ["some"] (λH=>uN H c' sE/\Rp (λ_=>False) H vw (aV n us)) (fWt n.toNat (aQ us fa)):=λ{base' fl c' cl pm ctv} e S C=>by
  refine⟨_,R5 (cvs:=[vw,.int fa]) e (λ_ _ _ _ h=>h.1.1) S C (λvs H Q E h=>?_) (λA outer s H vs Q E hr h=>?_),⟨_,_,_,_,e⟩,.all λus hl=>?_,λH H' ⟨⟨x,φ,h1,h2⟩,h3⟩ sm=>⟨⟨x,φ,sm _ _ h1,h2⟩,h3.mono (λ_ o=>o) (λ_ _ o=>o.elim) λa xs h=>sm a _ h⟩⟩
  ·obtain⟨_,ds,Pd,r,⟨l,rfl,_⟩,_⟩:=h
   exact r.length
  ·obtain⟨⟨_,z⟩,ds,Pd2,r,⟨l,rfl,pr,p⟩,kk⟩:=h
   obtain⟨v1,rfl,r1⟩:∃v1,vs=[v1]/\Rp (λ_=>True) H v1 (.list (l.map Ã)):=by
    cases r with
    |cons h t=>cases t;exact⟨_,rfl,h⟩
   refine⟨_,(ũ (C_need base') hr (Â (Í 1) (Â (Í 2) (Â (Í 0) Ç)))).h,?_⟩
   refine⟨fM,H,λ_=>none,[.sh (.list (l.map Ã)),.im (aV n us),.im (.int fa)],λk d=>d=.int (aQ us fa l),?_,?_,λkd d v H' hd A rp=>?_⟩
   ·refine⟨λ_ _ e _=>e,trivial,(λ_ _ e=>(nomatch e)),λi s e=>?_,rfl,trivial⟩
    match i,e with
    |0,e=>cases e;exact⟨v1,rfl,r1.mono (λ_ _=>⟨λz=>z,rfl⟩) (λ_ _ _ e=>e) λ_ _ e=>e⟩
    |1,e=>cases e;exact⟨vw,rfl,z⟩
    |2,e=>cases e;exact⟨.int fa,rfl,.int fa⟩
   ·exact⟨n,us,l,fa,rfl,by rw[show((n.toNat:Nat):Int)=n by omega] at pr;exact pr,lu,rfl⟩
   ·subst hd
    have:=rp.int'
    subst this
    exact kk _ _ H' p (λb o e=>A.kp b o e λz=>z) (.int _)
  ·obtain⟨_,rfl⟩:∃a,us=[a]:=by
    match us,hl with
    |[a],_=>exact⟨a,rfl⟩
   rfl
 refine⟨fM,H,λ_=>none,[.im (aV n us),.im (.int fa)],λk d=>d=.int n,?_,⟨.int n,rfl,rfl⟩,λkd d v H1 hd A1 rp=>?_⟩
 ·refine⟨λ_ _ e _=>e,trivial,(λ_ _ e=>(nomatch e)),λi s e=>?_,rfl,trivial⟩
  match i,e with
  |0,e=>cases e;exact⟨vw,rfl,r0⟩
  |1,e=>cases e;exact⟨.int fa,rfl,.int fa⟩
 subst hd
 have ev:=rp.int'
 subst ev
 have s1:Same H H1:=λb o e=>A1.kp b o e λz=>z
 refine⟨(Mg PT (lamP (top 28)) sE).mono H H1 ti λb o _ e=>s1 b o e,[vw,.int fa],rfl,λj y v h1 h2=>⟨j,h1,?_⟩,λbase' fl c' H' lam T' kp=>?_⟩
 ·match j,h2 with
  |0,h2=>cases h2;rfl
  |1,h2=>cases h2;rfl
 have tp:∀a xs,H a=some (.tup xs)->H' a=some (.tup xs):=λa xs e=>kp a _ (s1 _ _ e) λz=>by
  obtain⟨ps,h,_⟩:=ti
  rw[z,h] at e
  cases e
 have S:LamScope ["some"] ["web","falls"] (JM (top 28)) [(ð "web",s.heap.objs.size+1),(ð "falls",s.heap.objs.size+1+1)]:=Ge _
 obtain⟨pm',ctv,hfn⟩:=lam.fn
 refine⟨n,fl,_,_,Pd,rfl,lk' hfn S lam.caps,⟨lam.kn,r0.mono (λ_ o=>o) (λ_ _ o=>o.elim) tp⟩,⟨n.toNat,aQ us fa,by omega,by omega,by omega,rfl,nj us fa,q⟩,λd v H2 hP sm rp2=>k d v H2 hP (λb o e nb=>sm b o (kp b o (s1 b o e) nb)) ((Mg PT (lamP (top 28)) sE).mono H' H2 T' λb o _ e=>sm b o e) (rp2.mono (λa ha=>?_) (λ_ _ _ e=>e) λ_ _ e=>e)⟩
 cases e:H a with
 |none=>rfl
 |some o =>
  by_cases z:a=PT
  ·obtain⟨ps,h,_⟩:=T'
   rw[z,h] at ha
   cases ha
  ·rw[kp a o (s1 a o e) z] at ha
   cases ha
end
def pW(l:List Int):dG (iD l)=l:=mj l
def Ea{n:Int}{L:List (List Int)}(h:∀l∈L,Proper n l)(nd:L.flatten.Nodup):sZ n (.list (L.map iD))=true:=by
 show((L.map iD).all (aG n)&&pQ ((L.map iD).flatMap dG))=true
 have e1:(L.map iD).all (aG n)=true:=ü.mpr λd hd=>by
  obtain⟨l,hl,rfl⟩:=Ý.mp hd
  exact qP (h l hl)
 have e2:(L.map iD).flatMap dG=L.flatten:=by
  rw[List.flatMap_map]
  have:(λl=>dG (iD l))=id:=funext pW
  rw[this,List.flatMap_id]
 rw[e1,e2]
 show pQ L.flatten=true
 exact decide_eq_true ((lK _).mpr nd)
def PK(ds:List D)(P:D->Prop):Prop:=∃(n:Int) (us:List Tie) (L:List (List Int)),ds=[aV n us,.list (L.map iD)]/\n<=16/\L.length<=60/\(∀l∈L,Proper n l)/\L.flatten.Nodup/\P .none
def PJ(ds:List D)(P:D->Prop):Prop:=∃t:Int,ds=[.int t]/\P (.int ((t+1) / 2))
def fBo(ds:List D)(P:D->Prop):Prop:=∃(n:Int) (us:List Tie) (fa:Int) (L:List (List Int)),ds=[aV n us,.int fa,.list (L.map iD)]/\n<=16/\us.length<=100/\0<=fa/\fa<=10/\L.length<=60/\(∀l∈L,Proper n l)/\L.flatten.Nodup/\P (.int (((L.map (aQ us fa)).sum+1) / 2))
def Fz{us:List Tie}{fa:Int}(h0:0<=fa)(h1:fa<=10)(l:List Int):-1000000<=aQ us fa l/\aQ us fa l<=1000000:=by
 unfold aQ
 split <;> omega
section
variable {P:Program}{w:World}{K:Ú}{mg:Str->Option Value}{base:Heap}{f:Addr}{fd:FuncData}{CN:Addr}
def iY:FnScope ["web","thing"] ["web","thing"] (ak (top 22)):=zC
def pP(F:Fun K "check_family" "check_family" (top 22) f fd)(B:ľ mg)(C_is_family:Ą P w K mg base 5 "is_family" ["n","thing"] (spD R9)):FnOk P w K mg base CX0 6 f fd ["web","thing"] (spD PK):=by
 refine F.ok iY ħ (λcdv A outer s H vs Q E hr h=>?_)
 have nd:=iY.nd
 refine⟨_,Ķ (Ĕ (Wr.cU (Wr.cD (Wr.bO (ũ C_is_family hr (Â (ė (Í 0) Õ) (Â (Í 1) Ç))))) (Ĕ Wr.nM) Ł)),aY h ?_⟩
 rintro ds P ⟨n,us,L,rfl,n16,ll,hL,nd,q⟩
 refine⟨[.im (aV n us),.sh (.list (L.map iD))],by show [bI (aV n us),_]=_;rw[cI];rfl,?_⟩
 refine⟨.int n,rfl,n,.list (L.map iD),rfl,λes e=>?_,n16,?_⟩
 ·cases e
  refine⟨by rw[Á];exact ll,λe he=>?_⟩
  obtain⟨l,hl,rfl⟩:=Ý.mp he
  intro es e2
  cases e2
  rw[Á]
  have:=(hL l hl).few
  omega
 ·rw[Ea hL nd]
  exact bD (A:=True) q
def fH:FnScope ["total"] ["total"] (ak (top 23)):=zC
def lO(F:Fun K "half_made_whole" "half_made_whole" (top 23) f fd)(B:ľ mg):FnOk P w K mg base CX0 1 f fd ["total"] (spD PJ):=by
 refine F.ok fH ħ (λcdv A outer s H vs Q E hr h=>?_)
 have nd:=fH.nd
 refine⟨_,Ķ (Ĕ (Ĩ (Wr.mX (ë (Í 0) Õ) Õ))),aY h ?_⟩
 rintro ds P ⟨t,rfl,q⟩
 refine⟨[.im (.int t)],rfl,?_⟩
 exact⟨⟨by decide,by decide⟩,rfl,q⟩
def xW:FnScope ["web","falls","family"] ["web","falls","family"] (ak (top 24)):=zC
def Ay:(["some","web","falls","family"]:List Str).Nodup:=by decide +kernel
def Jk(F:Fun K "bound" "bound" (top 24) f fd)(B:ľ mg)(m_sum:mg "sum"=none)(C_check_family:Ą P w K mg base 6 "check_family" ["web","thing"] (spD PK))(C_half_made_whole:Ą P w K mg base 1 "half_made_whole" ["total"] (spD PJ))(C_need:Ą P w K mg base 8 "need" ["web","falls","some"] (spD Ef)):FnOk P w K mg base CX0 9 f fd ["web","falls","family"] (spD fBo):=by
 refine F.ok xW ħ (λcdv A outer s H vs Q E hr h=>?_)
 have nd:=xW.nd
 refine⟨_,Ķ (å (Wr.qx (ũ C_check_family hr (Â (Í 0) (Â (Í 2) Ç))))
  (Ĕ (Ĩ (ũ C_half_made_whole hr (Â (Wr.vB rfl m_sum (Â (ŗ ["some"] rfl (ĭ (Í 2)) (λc=>(ú (i:=0) Ay rfl zQ)) (λc=>ń) (λc=>(ũ C_need hr (Â (Í 1) (Â (Í 2) (Â (Í 0) Ç)))))) Ç)) Ç))))),aY h ?_⟩
 rintro ds P ⟨n,us,fa,L,rfl,n16,lu,h0,h1,ll,hL,nd,q⟩
 refine⟨[.im (aV n us),.im (.int fa),.sh (.list (L.map iD))],by show [bI (aV n us),_,_]=_;rw[cI];rfl,?_⟩
 refine⟨n,us,L,rfl,n16,ll,hL,nd,?_⟩
 refine wB L iD (λl=>.int (aQ us fa l)) .imm rfl (by omega) (λl hl A B h=>aK (B:=True) ⟨n,us,l,fa,rfl,hL l hl,lu,rfl,h⟩) ?_
 refine⟨L.map (aQ us fa),by rw[õ];rfl,by rw[Á];omega,λx hx=>?_,_,rfl,rfl,q⟩
 obtain⟨l,_,rfl⟩:=Ý.mp hx
 exact Fz h0 h1 l
end
def Du{us:List Tie}{fa:Int}{l:List Int}:aQ us fa l=0↔fa<((us.filter (lv l)).length:Nat):=by
 unfold aQ
 split <;> omega
def SQ{n:Int}{us:List Tie}(ok:cV n us){l c:List Int}(h:∀x,0<=x->x<n->(x∈c↔x∉l)):(us.filter (lv c)).length=(us.filter (lv l)).length:=by
 congr 1
 refine List.filter_congr λt ht=>?_
 obtain⟨⟨a0,a1⟩,b0,b1⟩:=ok t ht
 have e1:=h t.1 a0 a1
 have e2:=h t.2 b0 b1
 unfold lv
 by_cases c1:t.1∈l <;> by_cases c2:t.2∈l <;> simp[e1,e2,c1,c2]
def CJ{m k:Nat}(h:k<2 ^ m):setOf (m+1) ((k:Nat):Int)=setOf m ((k:Nat):Int):=by
 unfold setOf
 rw[Ø]
 show(subs m++_).getD k []=_
 rw[Ê,Ê,ñ (by rw[aW];exact h)]
def Ln{m k:Nat}(h:k<2 ^ m):setOf (m+1) ((k+2 ^ m:Nat):Int)=setOf m ((k:Nat):Int)++[0+((m:Nat):Int)]:=by
 have e:=(jY (n:=m) (k:=((k:Nat):Int)) (by rw[Ø];exact h)).1
 rw[Ø] at e
 unfold setOf at e ⊢
 rw[Ø]
 show(subs m++(subs m).map _).getD (k+2 ^ m) []=_
 rw[Ê,ê (by rw[aW];omega),aW,Nat.add_sub_cancel,è,e]
 rfl
def uV{m:Nat}{us:List Tie}{fa:Int}(ok:cV ((m+1:Nat):Int) us):nU ((m+1:Nat):Int) us fa↔∀k:Nat,0<k->k+1<2 ^ (m+1)->aQ us fa (setOf (m+1) ((k:Nat):Int))=0:=by
 have em:(((m+1:Nat):Int) - 1).toNat=m:=by omega
 have pm:=ŋ m
 unfold nU
 rw[em]
 obtain⟨r,er,hr⟩:=jX m
 have dr:(subs m).drop 1=r:=by rw[er];rfl
 constructor
 ·intro h k k0 k1
  rw[ŀ] at k1
  rw[Du]
  rcases Ŏ k (2 ^ m) with z|z
  ·rw[CJ z]
   refine h _ ?_
   have e:=(jY (n:=m) (k:=((k:Nat):Int)) (by rw[Ø];exact z)).1
   rw[Ø] at e
   refine Ò (i:=k - 1) ?_
   rw[List.getElem?_drop,show 1+(k - 1)=k by omega]
   exact e
  ·obtain⟨q,rfl⟩:∃q,k=q+2 ^ m:=⟨k - 2 ^ m,by omega⟩
   rw[Ln (by omega)]
   have hq:q+1<2 ^ m:=by omega
   obtain⟨e,mm⟩:=jY (n:=m) (k:=((q:Nat):Int)) (by rw[Ø];omega)
   rw[Ø] at e
   obtain⟨o1,o2,o3⟩:=gb m _ mm
   have ce:∀x,x∈(iC m).filter (λx=>!decide (x∈setOf m ((q:Nat):Int)))↔(0<=x/\x<(m:Int))/\x∉setOf m ((q:Nat):Int):=λx=>by
    rw[Ċ,jF,Ž,decide_eq_false_iff_not]
   rw[←SQ ok (l:=setOf m ((q:Nat):Int)++[0+((m:Nat):Int)]) (c:=(iC m).filter λx=>!decide (x∈setOf m ((q:Nat):Int))) λx h0 h1=>by
    rw[ce,List.mem_append,List.mem_singleton]
    constructor
    ·rintro⟨⟨_,a⟩,b⟩ (c|c)
     ·exact b c
     ·omega
    ·intro c
     refine⟨⟨h0,?_⟩,λd=>c (.inl d)⟩
     have:x≠0+((m:Nat):Int):=λd=>c (.inr d)
     omega]
   refine h _ ?_
   have hm:=qp (λx=>!decide (x∈setOf m ((q:Nat):Int))) m
   rw[er] at hm
   rcases Ó.mp hm with z|z
   ·exfalso
    obtain⟨M,f,eM,hM⟩:=oA m
    have lm:M.length+1=2 ^ m:=by rw[←aW m,eM];simp
    have hlt:(setOf m ((q:Nat):Int)).length<m:=by
     rw[eM,ñ (by omega)] at e
     exact hM _ (Ò e)
    have all:∀x∈iC m,x∈setOf m ((q:Nat):Int):=λx hx=>Ć λnx=>by
     have:=(ce x).mpr ⟨jF.mp hx,nx⟩
     rw[z] at this
     cases this
    have nd:(iC m).Nodup:=by
     unfold iC
     exact List.Pairwise.map _ (λa b hab h=>hab (by omega)) List.nodup_range
    have:=nd.length_le_of_subset all
    unfold iC at this
    rw[Á,Ō] at this
    omega
   ·rw[dr];exact z
 ·intro h l hl
  obtain⟨i,hi⟩:=š hl
  rw[List.getElem?_drop] at hi
  have li:1+i<(subs m).length:=(Ö.mp hi).1
  rw[aW] at li
  have e:setOf (m+1) ((1+i:Nat):Int)=l:=by
   rw[CJ li]
   unfold setOf
   rw[Ø,Ê,hi]
   rfl
  have:=h (1+i) (by omega) (by rw[ŀ];omega)
  rw[e,Du] at this
  exact this
def qF{N k:Nat}{W:List Int->Int}(k0:0<k)(k1:k+1<2 ^ N):(fV N W).getD k 0=W (setOf N ((k:Nat):Int))/\setOf N ((k:Nat):Int)∈((subs N).drop 1).dropLast:=by
 have e:=(jY (n:=N) (k:=((k:Nat):Int)) (by rw[Ø];omega)).1
 rw[Ø] at e
 have em:(((subs N).drop 1).dropLast)[k - 1]?=some (setOf N ((k:Nat):Int)):=by
  rw[List.dropLast_eq_take,List.getElem?_take_of_lt (by rw[û,aW];omega),List.getElem?_drop,show 1+(k - 1)=k by omega]
  exact e
 refine⟨?_,Ò em⟩
 unfold fV
 rw[Ê,show k=(k - 1)+1 by omega,ű,ñ (by rw[Á,ĥ,û,aW];omega),è,em]
 rw[show k - 1+1=k by omega]
 rfl
def yp{a b:List Int}(h:a.Perm b):a.sum=b.sum:=by
 induction h with
 |nil=>rfl
 |cons x _ ih=>rw[ò,ò,ih]
 |swap x y l=>rw[ò,ò,ò,ò];omega
 |trans _ _ h1 h2=>exact h1.trans h2
def uy{N:Nat}{W:List Int->Int}{out:List (List Int)}(n1:1<=N)(n8:N<=8)(w0:∀l,0<=W l)(h:uO N W out):(∀l∈out,Proper ((N:Nat):Int) l)/\out.flatten.Nodup/\out.length<=60/\(((out.map W).sum+1) / 2=0↔∀k:Nat,0<k->k+1<2 ^ N->W (setOf N ((k:Nat):Int))=0):=by
 obtain⟨ks,ha,hp,_⟩:=h
 have kr:∀k∈ks,∃q:Nat,k=((q:Nat):Int)/\0<q/\q+1<2 ^ N:=λk hk=>by
  have:=ha.rng k hk
  exact⟨k.toNat,by omega,by omega,by omega⟩
 have mem:∀l∈out,∃q:Nat,l=setOf N ((q:Nat):Int)/\0<q/\q+1<2 ^ N:=λl hl=>by
  obtain⟨k,hk,rfl⟩:=Ý.mp (hp.mem_iff.mp hl)
  obtain⟨q,rfl,a,b⟩:=kr k hk
  exact⟨q,rfl,a,b⟩
 have pr:∀l∈out,Proper ((N:Nat):Int) l:=λl hl=>by
  obtain⟨q,rfl,a,b⟩:=mem l hl
  exact iM n1 n8 (qF (W:=W) a b).2
 have es:(out.map W).sum=pN (fV N W) ks:=by
  rw[yp (hp.map W)]
  unfold pN
  rw[õ]
  congr 1
  refine Ĭ λk hk=>?_
  obtain⟨q,rfl,a,b⟩:=kr k hk
  rw[Ø,(qF a b).1]
  rfl
 have ll:out.length<=60:=by rw[hp.length_eq,Á];have:=ha.len;omega
 obtain⟨f1,f2,f3,f4⟩:=qD (W:=W) n1 n8 w0
 refine⟨pr,?_,ll,?_⟩
 ·refine(hp.flatten).nodup_iff.mpr (List.pairwise_flatten.mpr ⟨λl hl=>?_,?_⟩)
  ·have:=(pr l (hp.mem_iff.mpr hl)).rise
   exact this.imp λz=>by omega
  ·exact List.pairwise_map.mpr (ha.apart.imp λz x hx y hy (e:x=y)=>z x hx (by rw[e];exact hy))
 ·have sn:∀l:List (List Int),0<=(l.map W).sum:=λl=>by
   induction l with
   |nil=>exact ć _
   |cons a l ih=>rw[ã,ò];have:=w0 a;omega
  have s0:=sn out
  constructor
  ·intro z k k0 k1
   have e:=(qF (N:=N) (W:=W) k0 k1).1
   have hm:(fV N W).getD k 0∈fV N W:=by
    rw[Ê,Ì (by rw[f1];omega)]
    exact Ħ _
   have:=ha.top _ hm
   rw[e,←es] at this
   have:=w0 (setOf N ((k:Nat):Int))
   omega
  ·intro z
   have:∀l:List (List Int),(∀x∈l,W x=0)->(l.map W).sum=0:=λl=>by
    induction l with
    |nil=>intro _;rfl
    |cons a l ih=>intro h;rw[ã,ò,h a À,ih λx hx=>h x (Ä _ hx)];rfl
   rw[this out λl hl=>by obtain⟨q,rfl,a,b⟩:=mem l hl;exact z q a b]
   rfl
section
variable {P:Program}{w:World}{K:Ú}{mg:Str->Option Value}{base:Heap}{f:Addr}{fd:FuncData}{CN:Addr}
end
abbrev bZ(PT:Addr):Pn:=Mg PT (lamP (top 28)) sE
def Hv(K:Ú)(T:Pn):Sp:=λvs H Q _=>∃(a:Addr) (ns:List Int),vs=[.ref a]/\SqL K H a (ns.map ż)/\T.PI H/\∀H',Q (.bl true) H'
def S8{p c PT:Addr}{ns:List Int}:Apart (Mh p c ns) (bZ PT):=λH ⟨a,r,h1,h2⟩ ⟨ps,h,_⟩ b hb hT=>by
 have hT:b=PT:=hT
 subst hT
 rcases hb with rfl|rfl
 ·rw[h1] at h;cases h
 ·rw[h2] at h;cases h
def Sv{K:Ú}{T:DS}{N:List Str}{H:Hp}{Q:VK}{sc PT:Addr}{ns:List Int}(hS:SqL K H sc (ns.map ż))(q:(bZ PT).PI H/\∀H',Q (.bl true) H')(hN:2<=N.length)(body:T { nx:=λ_=>False,rt:=λd=>d=.bool true } (.any::.pen (CT CP (bZ PT))::È (N.length - 2) .any)) :
  Tq (sO (pG (Ht K) [] E0 (pF (jf 0) Li)) (jJ 1)) (kY T) { nx:=λ_ H'=>Q .non H',rt:=Q } (L2.start N [.ref sc]) H:=by
 refine⟨_,rfl,sc,ns,rfl,hS,λp c ns' H' hpc hP sm=>?_⟩
 show kY T _ ((L2.start N [.ref sc]).set 1 (some (.ref p))) _
 refine⟨(Mh p c ns').plus (bZ PT),H',λ_=>none,_,_,?_,body,⟨λ_ _ _ _ _ _ n=>n.elim,λd v H' n w=>?_,λ_ _ _ _ _ _ n=>n.elim,λ_ _ _ _ _ _ n=>n.elim⟩⟩
 ·have hl:(L2.start N [.ref sc]).length=N.length:=by unfold L2.start;simp;omega
  refine⟨λb o e _=>e,⟨hP,(bZ PT).mono H H' q.1 λb o _ e=>sm b o e⟩,λa r e=>(nomatch e),λj s e=>?_,by rw[List.length_set,hl,Ù,Ù,Ģ];omega,trivial⟩
  rcases j with _|_|j
  ·cases e;trivial
  ·cases e
   exact⟨ē (by rw[hl];omega),Mh p c ns',⟨p,c,ns',hpc,rfl⟩,S8,rfl⟩
  ·rw[ű,ű] at e
   have e2:=(Ĵ.mp (Ò e)).2
   subst e2
   trivial
 ·have n:d=.bool true:=n
  subst n
  have r:=w.rp
  cases r
  exact q.2 H'
abbrev e0:En:=(0,[])
def zA{ws:List Int}{bs bs':List En}{top rest:Nat}(h:∀m,m<=rest->bs.getD m e0=bs'.getD m e0):bwF ws bs top rest=bwF ws bs' top rest:=by
 have hs:bQ ws bs top rest=bQ ws bs' top rest:=by
  funext f s
  unfold bQ
  rw[h (rest - s) (by omega)]
 unfold bwF
 rw[hs,h rest (É _)]
def oZ{α:Type}{l m:List α}{i:Nat}{d:α}(h:i<l.length):(l++m).getD i d=l.getD i d:=by
 rw[Ê,Ê,ñ h]
def getD_last{α:Type}{l:List α}{x d:α}{i:Nat}(h:i=l.length):(l++[x]).getD i d=x:=by
 subst h
 rw[Ê,ê (É _),Nat.sub_self]
 rfl
def j8(ws:List Int)(bs:List En)(top:Nat):∀i,(dJ ws bs top i).length=bs.length+i
 |0=>rfl
 |i+1=>by
  show(dJ ws bs top i++[_]).length=_
  rw[Æ,j8,Ü]
  omega
def nA(ws:List Int):∀j,(grow ws j).length=2 ^ j
 |0=>rfl
 |j+1=>by
  show(dJ ws (grow ws j) (2 ^ j) (2 ^ j)).length=_
  rw[j8,nA,ŀ]
  omega
def oY{ws:List Int}{bs:List En}{top m:Nat}(h:m<bs.length):∀i,(dJ ws bs top i).getD m e0=bs.getD m e0
 |0=>rfl
 |i+1=>by
  show(dJ ws bs top i++[_]).getD m e0=_
  rw[oZ (by rw[j8];omega),oY h i]
def yR{ws:List Int}{bs:List En}{top:Nat}(hb:bs.length=top)(h1:1<=top):∀i r,r<i->i<=top->(dJ ws bs top i).getD (r+top) e0=bwF ws (dJ ws bs top i) top r
 |0,r,h,_=>by omega
 |i+1,r,h,hi=>by
  have ln:=j8 ws bs top i
  show(dJ ws bs top i++[bwF ws (dJ ws bs top i) top i]).getD (r+top) e0=bwF ws (dJ ws bs top i++[bwF ws (dJ ws bs top i) top i]) top r
  have cg:bwF ws (dJ ws bs top i++[bwF ws (dJ ws bs top i) top i]) top r=bwF ws (dJ ws bs top i) top r:=zA λm hm=>oZ (by omega)
  rw[cg]
  rcases Ŏ r i with z|z
  ·rw[oZ (by omega)]
   exact yR hb h1 i r z (by omega)
  ·have:r=i:=by omega
   subst this
   exact getD_last (by omega)
def uq(ws:List Int):∀n,(grow ws n).getD 0 e0=e0
 |0=>rfl
 |n+1=>by
  have:=ŋ n
  show(dJ ws (grow ws n) (2 ^ n) (2 ^ n)).getD 0 e0=e0
  rw[oY (by rw[nA];exact this)]
  exact uq ws n
def uw(ws:List Int):∀n j r,j<n->r<2 ^ j->(grow ws n).getD (r+2 ^ j) e0=bwF ws (grow ws n) (2 ^ j) r
 |0,j,r,h,_=>by omega
 |n+1,j,r,h,hr=>by
  have p1:=ŋ n
  have p2:=ŋ j
  rcases Ŏ j n with z|z
  ·have pl:2 ^ (j+1)<=2 ^ n:=ā (by decide) (by omega)
   rw[ŀ] at pl
   have pre:∀m,m<2 ^ n->(grow ws (n+1)).getD m e0=(grow ws n).getD m e0:=λm hm=>oY (by rw[nA];exact hm) _
   rw[pre _ (by omega),zA (bs:=grow ws (n+1)) (bs':=grow ws n) λm hm=>pre m (by omega)]
   exact uw ws n j r z hr
  ·have:j=n:=by omega
   subst this
   exact yR (nA ws j) p1 (2 ^ j) r hr (É _)
def eV(ws:List Int)(n m:Nat):Int:=((grow ws n).getD m e0).1
def rQ{ws:List Int}{bs:List En}{top rest:Nat}:∀(l:List Nat) (e:En),e.1<=(l.foldl (bQ ws bs top rest) e).1/\(∀s∈l,ws.getD (s+top) 0+(bs.getD (rest - s) e0).1<=(l.foldl (bQ ws bs top rest) e).1)/\((l.foldl (bQ ws bs top rest) e).1=e.1\/∃s∈l,(l.foldl (bQ ws bs top rest) e).1=ws.getD (s+top) 0+(bs.getD (rest - s) e0).1)
 |[],e=>⟨ć _,λs h=>(nomatch h),.inl rfl⟩
 |s::l,e=>by
  obtain⟨h1,h2,h3⟩:=rQ l (bQ ws bs top rest e s)
  have k:e.1<=(bQ ws bs top rest e s).1/\ws.getD (s+top) 0+(bs.getD (rest - s) e0).1<=(bQ ws bs top rest e s).1/\((bQ ws bs top rest e s).1=e.1\/(bQ ws bs top rest e s).1=ws.getD (s+top) 0+(bs.getD (rest - s) e0).1):=by
   unfold bQ
   by_cases c:e.1<ws.getD (s+top) 0+(bs.getD (rest - s) (0,[])).1
   ·rw[if_pos c]
    exact⟨Int.le_of_lt c,ć _,.inr rfl⟩
   ·rw[if_neg c]
    exact⟨ć _,by show _+(bs.getD (rest - s) (0,[])).1<=_;omega,.inl rfl⟩
  rw[List.foldl_cons]
  refine⟨Int.le_trans k.1 h1,λx hx=>?_,?_⟩
  ·rcases Ó.mp hx with rfl|hx
   ·exact Int.le_trans k.2.1 h1
   ·exact h2 x hx
  ·rcases h3 with z|⟨x,hx,z⟩
   ·rcases k.2.2 with y|y
    ·exact .inl (z.trans y)
    ·exact .inr ⟨s,À,z.trans y⟩
   ·exact .inr ⟨x,Ä _ hx,z⟩
section
variable {ws:List Int}{n:Nat}
def tO{m n:Nat}(h0:0<m)(h:m<2 ^ n):∃j r,m=r+2 ^ j/\r<2 ^ j/\j<n:=by
 have a:=Nat.log2_self_le (n:=m) (by omega)
 have b:=Nat.lt_log2_self (n:=m)
 refine⟨m.log2,m - 2 ^ m.log2,by omega,by rw[ŀ] at b;omega,?_⟩
 rcases Ŏ m.log2 n with z|z
 ·exact z
 ·have:=ā (n:=2) (by decide) z
  omega
def wQ(hn:n<=8){j r:Nat}(hj:j<n)(hr:r<2 ^ j):eV ws n r<=eV ws n (r+2 ^ j)/\(∀s,inB s r=true->ws.getD (s+2 ^ j) 0+eV ws n (r - s)<=eV ws n (r+2 ^ j))/\(eV ws n (r+2 ^ j)=eV ws n r\/∃s,inB s r=true/\eV ws n (r+2 ^ j)=ws.getD (s+2 ^ j) 0+eV ws n (r - s)):=by
 have p8:=Fg (show j<8 by omega)
 obtain⟨h1,h2,h3⟩:=rQ (ws:=ws) (bs:=grow ws n) (top:=2 ^ j) (rest:=r) (chn 129 r r) ((grow ws n).getD r e0)
 have e:eV ws n (r+2 ^ j)=((chn 129 r r).foldl (bQ ws (grow ws n) (2 ^ j) r) ((grow ws n).getD r e0)).1:=by
  unfold eV
  rw[uw ws n j r hj hr]
  rfl
 rw[e]
 refine⟨h1,λs hs=>h2 s ((nR (by omega) s).mpr hs),?_⟩
 rcases h3 with z|⟨s,hs,z⟩
 ·exact .inl z
 ·exact .inr ⟨s,(nR (by omega) s).mp hs,z⟩
def Oo:eV ws n 0=0:=by
 unfold eV
 rw[uq]
def Vl:allB 128 (λr=>allB (r+1) λs=>!inB s r || (r - s == r ^^^ s))=true:=by decide +kernel
def P0{r s:Nat}(hr:r<128)(h:inB s r=true):r - s=r ^^^ s:=by
 have a:=allB_iff (allB_iff Vl r hr) s (by have:=cO h;omega)
 rw[h] at a
 simpa using a
def pJ{s r:Nat}:inB s r=true↔∀i,s.testBit i=true->r.testBit i=true:=by
 rw[eY]
 constructor
 ·intro h i hi
  rw[←h,Nat.testBit_and,Ë] at hi
  exact hi.2
 ·intro h
  refine Nat.eq_of_testBit_eq λi=>?_
  rw[Nat.testBit_and]
  cases c:s.testBit i with
  |false=>rfl
  |true=>rw[h i c];rfl
def VP{r s t:Nat}(hr:r<128)(hs:inB s r=true)(ht:inB t (r - s)=true):inB t r=true/\inB s (r - t)=true:=by
 have h1:inB t r=true:=pJ.mpr λi hi=>pJ.mp (Qa hr hs).2 i (pJ.mp ht i hi)
 refine⟨h1,?_⟩
 rw[P0 hr h1]
 rw[P0 hr hs] at ht
 refine pJ.mpr λi hi=>?_
 have a:=pJ.mp hs i hi
 rw[Nat.testBit_xor,a]
 cases c:t.testBit i with
 |false=>rfl
 |true =>
  have b:=pJ.mp ht i c
  rw[Nat.testBit_xor,a,hi] at b
  cases b
def Sd(hn:n<=8)(h0:ws.getD 0 0=0):∀m,m<2 ^ n->∀s,inB s m=true->ws.getD s 0+eV ws n (m - s)<=eV ws n m:=by
 intro m
 induction m using Nat.strongRecOn with
 |_ m ih =>
  intro hm s hs
  by_cases z:m=0
  ·subst z
   have:s=0:=by have:=cO hs;omega
   subst this
   rw[h0]
   show 0+eV ws n 0<=_
   omega
  ·obtain⟨j,r,rfl,hr,hj⟩:=tO (by omega) hm
   have p8:=Fg (show j<8 by omega)
   have sl:=cO hs
   obtain⟨r1,r2,r3⟩:=wQ (ws:=ws) hn hj hr
   rcases VN (by omega) hr (by rw[ŀ];omega) hs with ⟨c,z⟩|⟨c,z⟩
   ·have zl:=cO z
    obtain⟨q1,q2,q3⟩:=wQ (ws:=ws) hn hj (show r - s<2 ^ j by omega)
    have em:r+2 ^ j - s=(r - s)+2 ^ j:=by omega
    rw[em]
    rcases q3 with y|⟨t,ht,y⟩
    ·rw[y]
     have:=ih r (by omega) (by omega) s z
     omega
    ·rw[y]
     obtain⟨t1,t2⟩:=VP (by omega) z ht
     have:=ih (r - t) (by have:=cO t1;omega) (by omega) s t2
     have:=r2 t t1
     have e:r - s - t=r - t - s:=by omega
     rw[e]
     omega
   ·have:=r2 _ z
    rw[show s - 2 ^ j+2 ^ j=s by omega,show r - (s - 2 ^ j)=r+2 ^ j - s by omega] at this
    exact this
def Vx(hn:n<=8):∀m,m<2 ^ n->0<=eV ws n m:=by
 intro m
 induction m using Nat.strongRecOn with
 |_ m ih =>
  intro hm
  by_cases z:m=0
  ·subst z
   rw[Oo]
   exact ć _
  ·obtain⟨j,r,rfl,hr,hj⟩:=tO (by omega) hm
   have:=(wQ (ws:=ws) hn hj hr).1
   have:=ih r (by omega) (by omega)
   omega
end
abbrev Spr:=List (List Int×Int)
def mb(l:List Int)(v:Int):Bool:=decide (v∈l)
def psN(n:Nat):List (List Int):=((subs n).drop 1).dropLast
def wu(n:Nat)(X:Int->Bool):List Int:=(iC n).filter X
abbrev RgT(n:Nat)(us:List Tie):Prop:=∀t∈us,(0<=t.1/\t.1<(n:Int))/\(0<=t.2/\t.2<(n:Int))
abbrev RgE(n:Nat)(es:List Int):Prop:=∀e∈es,0<=e/\e<(n:Int)
def lU{n:Nat}{X:Int->Bool}{v:Int}(h:0<=v/\v<(n:Int)):mb (wu n X) v=X v:=by
 unfold mb wu
 rw[ě,decide_eq_true_iff,Ċ,jF]
 exact⟨λh=>h.2,λq=>⟨h,q⟩⟩
def Kv{n:Nat}{us:List Tie}(hu:RgT n us){X Y:Int->Bool}(h:∀v,0<=v/\v<(n:Int)->X v=Y v):Cut.dg us X=Cut.dg us Y:=by
 unfold Cut.dg
 refine List.countP_congr λt ht=>?_
 obtain⟨a,b⟩:=hu t ht
 rw[h _ a,h _ b]
def Vb{n:Nat}{es:List Int}(he:RgE n es){X Y:Int->Bool}(h:∀v,0<=v/\v<(n:Int)->X v=Y v):Cut.mg es X=Cut.mg es Y:=by
 unfold Cut.mg
 refine List.countP_congr λt ht=>?_
 rw[h _ (he t ht)]
def VF{n:Nat}{us:List Tie}{es:List Int}(hu:RgT n us)(he:RgE n es){X Y:Int->Bool}(h:∀v,0<=v/\v<(n:Int)->X v=Y v):Cut.dD us es X=Cut.dD us es Y:=by
 unfold Cut.dD
 rw[Kv hu h,Vb he h]
def Eh(us:List Tie)(l:List Int):((us.filter (lv l)).length:Nat)=Cut.dg us (mb l):=by
 unfold Cut.dg
 rw[←List.countP_eq_length_filter]
 refine List.countP_congr λt _=>?_
 unfold lv mb
 cases decide (t.1∈l) <;> cases decide (t.2∈l) <;> simp
def Dt(us:List Tie)(k:Nat)(l:List Int):aQ us ((k:Int) - 1) l=((k - Cut.dg us (mb l):Nat):Int):=by
 unfold aQ
 rw[Eh]
 split <;> omega
def Ii{n:Nat}{l:List Int}(h:Proper ((n:Nat):Int) l):Cut.Prp n (mb l):=by
 refine⟨?_,?_⟩
 ·cases l with
  |nil=>have:=h.one;simp at this
  |cons v r=>exact⟨v,h.rng v À,decide_eq_true À⟩
 ·apply Ć
  intro hn
  have all:∀x∈iC n,x∈l:=λx hx=>by
   apply Ć
   intro hx2
   exact hn ⟨x,jF.mp hx,decide_eq_false hx2⟩
  have nd:(iC n).Nodup:=by
   unfold iC
   exact List.Pairwise.map _ (λa b hab h=>hab (by omega)) List.nodup_range
  have:=nd.length_le_of_subset all
  have fw:=h.few
  unfold iC at this
  rw[Á,Ō] at this
  omega
def oJ{n:Nat}(n1:1<=n)(n8:n<=8){l:List Int}(h:l∈psN n):Cut.Prp n (mb l):=Ii (iM n1 n8 h)
def wO{n:Nat}(n8:n<=8){X:Int->Bool}(h:Cut.Prp n X):∃q:Nat,0<q/\q+1<2 ^ n/\setOf n ((q:Nat):Int)=wu n X/\∀i,i<n->q.testBit i=X ((i:Nat):Int):=by
 obtain⟨q,hq⟩:=š (qp X n)
 have hl:=(Ö.mp hq).1
 rw[aW] at hl
 have es:setOf n ((q:Nat):Int)=wu n X:=by
  unfold setOf
  rw[Ø,Ê,hq]
  rfl
 have sb:(subs n).getD q []=((Û n).filter (λi=>q.testBit i)).map λi:Nat=>0+((i:Nat):Int):=beq_iff_eq.mp (allB_iff (allB_iff Px n (by omega)) q hl)
 have tb:∀i,i<n->q.testBit i=X ((i:Nat):Int):=λi hi=>by
  have e:(((Û n).filter (λi=>q.testBit i)).map λi:Nat=>0+((i:Nat):Int))=wu n X:=by
   rw[←sb,←es]
   unfold setOf
   rw[Ø]
  have m:=congrArg (λl=>mb l ((i:Nat):Int)) e
  have m:mb (((Û n).filter (λi=>q.testBit i)).map λi:Nat=>0+((i:Nat):Int)) ((i:Nat):Int)=mb (wu n X) ((i:Nat):Int):=m
  rw[lU (by omega)] at m
  rw[←m]
  unfold mb
  rw[ě,decide_eq_true_iff,Ý]
  constructor
  ·exact λh=>⟨i,Ċ.mpr ⟨ċ.mpr hi,h⟩,by omega⟩
  ·rintro⟨j,hj,e⟩
   have:j=i:=by omega
   subst this
   exact(Ċ.mp hj).2
 refine⟨q,?_,?_,es,tb⟩
 ·obtain⟨v,⟨v0,v1⟩,hv⟩:=h.ins
  rcases Nat.eq_zero_or_pos q with z|z
  ·subst z
   have:=tb v.toNat (by omega)
   rw[Nat.zero_testBit,show((v.toNat:Nat):Int)=v by omega,hv] at this
   cases this
  ·exact z
 ·obtain⟨v,⟨v0,v1⟩,hv⟩:=h.out
  rcases Ŏ (q+1) (2 ^ n) with z|z
  ·exact z
  ·have e:q=2 ^ n - 1:=by omega
   have:=tb v.toNat (by omega)
   rw[e,Nat.testBit_two_pow_sub_one,show((v.toNat:Nat):Int)=v by omega,hv,decide_eq_true (by omega)] at this
   cases this
def Rz{n:Nat}(n8:n<=8){X:Int->Bool}(h:Cut.Prp n X):wu n X∈psN n:=by
 obtain⟨q,q0,q1,e,_⟩:=wO n8 h
 rw[←e]
 exact(qF (W:=λ_=>0) q0 q1).2
def R8:allB 256 (λr=>allB (r+1) λs=>!inB s r || (r - s == r ^^^ s))=true:=by decide +kernel
def S7{r s:Nat}(hr:r<256)(h:inB s r=true):r - s=r ^^^ s:=by
 have a:=allB_iff (allB_iff R8 r hr) s (by have:=cO h;omega)
 rw[h] at a
 simpa using a
def Kf{n:Nat}{ws:List Int}(n8:n<=8)(h0:ws.getD 0 0=0):∀(qs:List Nat) (m:Nat),m<2 ^ n->(∀q∈qs,inB q m=true)->qs.Pairwise (λa b=>a &&& b=0)->(qs.map λq=>ws.getD q 0).sum<=eV ws n m
 |[],m,hm,_,_=>Vx n8 m hm
 |q::qs,m,hm,hi,hp=>by
  have p8:2 ^ n<=256:=ā (n:=2) (by decide) n8
  have iq:=hi q À
  have hp:=Ń.mp hp
  have:=Kf n8 h0 qs (m - q) (by omega) (λx hx=>by
   rw[S7 (by omega) iq]
   refine pJ.mpr λi hx2=>?_
   have a:=pJ.mp (hi x (Ä _ hx)) i hx2
   have b:=congrArg (λv=>Nat.testBit v i) (hp.1 x hx)
   simp only[Nat.testBit_and,Nat.zero_testBit,hx2,Bool.and_true] at b
   rw[Nat.testBit_xor,a,b]
   rfl) hp.2
  have s:=Sd n8 h0 m hm q iq
  rw[ã,ò]
  omega
def xP{α:Type}(l:List α)(f:α->Nat):(l.map λx=>((f x:Nat):Int)).sum=(((l.map f).sum:Nat):Int):=by
 induction l with
 |nil=>rfl
 |cons x l ih=>rw[ã,ò,ã,ò,ih];omega
def Ca{n k:Nat}{us:List Tie}(n1:1<=n)(n8:n<=8)(hu:RgT n us){Gs:List (Int->Bool)}(hd:Gs.Pairwise (Cut.Dj n))(hp:∀X∈Gs,Cut.Prp n X) :
  (((Gs.map λX=>k - Cut.dg us X).sum:Nat):Int)<=eV (fV n (aQ us ((k:Int) - 1))) n (2 ^ n - 1):=by
 have p2:=jW n1 n8
 have ms:∃qs:List Nat,qs.length=Gs.length/\(∀q∈qs,0<q/\q+1<2 ^ n)/\qs.Pairwise (λa b=>a &&& b=0)/\(qs.map λq=>(fV n (aQ us ((k:Int) - 1))).getD q 0)=Gs.map λX=>((k - Cut.dg us X:Nat):Int):=by
  have gen:∀Gs:List (Int->Bool),Gs.Pairwise (Cut.Dj n)->(∀X∈Gs,Cut.Prp n X)->∃qs:List Nat,(∀q∈qs,(0<q/\q+1<2 ^ n)/\∃X∈Gs,∀i,i<n->q.testBit i=X ((i:Nat):Int))/\qs.Pairwise (λa b=>a &&& b=0)/\qs.length=Gs.length/\(qs.map λq=>(fV n (aQ us ((k:Int) - 1))).getD q 0)=Gs.map λX=>((k - Cut.dg us X:Nat):Int):=λGs hd=>by
   induction hd with
   |nil=>intro _;exact⟨[],λq h=>(nomatch h),.nil,rfl,rfl⟩
   |@cons X l hX hl ih =>
    intro hp
    obtain⟨qs,h1,h2,h3,h4⟩:=ih λY hY=>hp Y (Ä _ hY)
    obtain⟨q,q0,q1,e,tb⟩:=wO n8 (hp X À)
    refine⟨q::qs,λx hx=>?_,.cons (λx hx=>?_) h2,by rw[Ù,Ù,h3],?_⟩
    ·rcases Ó.mp hx with rfl|hx
     ·exact⟨⟨q0,q1⟩,X,À,tb⟩
     ·obtain⟨a,Y,hY,b⟩:=h1 x hx
      exact⟨a,Y,Ä _ hY,b⟩
    ·obtain⟨⟨_,xl⟩,Y,hY,b⟩:=h1 x hx
     refine Nat.eq_of_testBit_eq λi=>?_
     rw[Nat.testBit_and,Nat.zero_testBit]
     rcases Ŏ i n with z|z
     ·rw[tb i z,b i z]
      cases c:X ((i:Nat):Int) with
      |false=>rfl
      |true=>rw[hX Y hY _ (by omega) c];rfl
     ·have:q.testBit i=false:=Nat.testBit_lt_two_pow (æ (show q<2 ^ n by omega) (ā (by decide) z))
      rw[this]
      rfl
    ·rw[ã,ã,h4,(qF q0 q1).1,e,Dt,Kv hu λv hv=>lU hv]
  obtain⟨qs,h1,h2,h3,h4⟩:=gen Gs hd hp
  exact⟨qs,h3,λq hq=>(h1 q hq).1,h2,h4⟩
 obtain⟨qs,_,h1,h2,h4⟩:=ms
 obtain⟨w1,w2,w3,w4⟩:=qD (W:=aQ us ((k:Int) - 1)) n1 n8 (nj us _)
 have h0:(fV n (aQ us ((k:Int) - 1))).getD 0 0=0:=rfl
 have:=Kf (ws:=fV n (aQ us ((k:Int) - 1))) n8 h0 qs (2 ^ n - 1) (by omega) (λq hq=>eY.mpr (by
  have:=h1 q hq
  rw[Nat.and_two_pow_sub_one_eq_mod,Nat.mod_eq_of_lt (by omega)])) h2
 rw[h4,xP] at this
 exact this
def KZ{n k:Nat}{us:List Tie}{es:List Int}{out:List (List Int)}(n1:1<=n)(n8:n<=8)(hu:RgT n us)(he:RgE n es)(hC:∀X,Cut.Prp n X->k<=Cut.dD us es X)(tg:∀e∈es,∃X,Cut.Prp n X/\X e=true/\Cut.dD us es X=k)(ho:uO n (aQ us ((k:Int) - 1)) out)(hs:(out.map (aQ us ((k:Int) - 1))).sum=eV (fV n (aQ us ((k:Int) - 1))) n (2 ^ n - 1)):(out.map (aQ us ((k:Int) - 1))).sum=((es.length:Nat):Int):=by
 obtain⟨pr,nd,ll,_⟩:=uy n1 n8 (nj us _) ho
 have up:(out.map (aQ us ((k:Int) - 1))).sum<=((es.length:Nat):Int):=by
  have e:out.map (aQ us ((k:Int) - 1))=(out.map mb).map λX=>((k - Cut.dg us X:Nat):Int):=by
   rw[õ]
   exact Ĭ λl _=>Dt us k l
  rw[e,xP]
  have:=Cut.Gn he hC (Gs:=out.map mb) (List.pairwise_map.mpr ?_) λX hX=>by
   obtain⟨l,hl,rfl⟩:=Ý.mp hX
   exact Ii (pr l hl)
  ·omega
  ·have:=(List.pairwise_flatten.mp nd).2
   exact this.imp λh v _ ha=>decide_eq_false λhb=>h v (of_decide_eq_true ha) v hb rfl
 obtain⟨Gs,g1,g2,g3⟩:=Cut.Gp he hC tg
 have lo:=Ca (k:=k) n1 n8 hu g1 g2
 rw[g3,←hs] at lo
 omega
def mnF(k:Int):List Int->Int
 |[]=>k
 |x::l=>if x<mnF k l then x else mnF k l
def v9(k:Int):∀l,mnF k l∈k::l
 |[]=>À
 |x::l=>by
  show(if x<mnF k l then x else mnF k l)∈_
  split
  ·exact Ä _ À
  ·rcases Ó.mp (v9 k l) with z|z
   ·rw[z];exact À
   ·exact Ä _ (Ä _ z)
def yG(k:Int):∀l,∀a∈k::l,mnF k l<=a
 |[],a,h=>by rw[ï.mp h];exact ć _
 |x::l,a,h=>by
  show(if x<mnF k l then x else mnF k l)<=a
  have ih:=yG k l
  rcases Ó.mp h with rfl|h
  ·have:=ih a À
   split <;> omega
  ·rcases Ó.mp h with rfl|h
   ·split <;> omega
   ·have:=ih a (Ä _ h)
    split <;> omega
def M9{k M:Int}{l:List Int}(h1:M∈k::l)(h2:∀a∈k::l,M<=a):M=mnF k l:=by
 have a:=h2 _ (v9 k l)
 have b:=yG k l M h1
 omega
def bL(n:Nat)(us:List Tie):Spr:=(psN n).map λl=>(l,(((us.filter (lv l)).length:Nat):Int))
def aB(n k:Nat)(us:List Tie)(es:List Int):Spr:=(psN n).map λl=>(l,((Cut.dD us es (mb l):Nat):Int) - (k:Int))
def xT(rows:Spr)(es:List Int)(k:Int):Spr:=rows.map λr=>(r.1,r.2+(((es.filter (mb r.1)).length:Nat):Int) - k)
def jc(sp:Spr)(v:Int)(k:Int):Int:=mnF k ((sp.filter λr=>mb r.1 v).map (·.2))
def pI(sp:Spr)(v lost:Int):Spr:=sp.map λr=>(r.1,if mb r.1 v=true then r.2 - lost else r.2)
def eE(sp0:Spr)(k:Int):Nat->Spr×List Int
 |0=>(sp0,[])
 |i+1=>(pI (eE sp0 k i).1 i (jc (eE sp0 k i).1 i k),(eE sp0 k i).2++È (k - jc (eE sp0 k i).1 i k).toNat ((i:Nat):Int))
def rst(n k i:Nat):List Int:=((Û n).drop i).flatMap λv=>È k ((v:Nat):Int)
def kE(n k:Nat)(rows:Spr):List Int:=(eE (xT rows (rst n k 0) k) k n).2
def uW(n k:Nat)(us:List Tie)(es:List Int):xT (bL n us) es k=aB n k us es:=by
 unfold xT bL aB
 rw[õ]
 refine Ĭ λl _=>?_
 show(l,(((us.filter (lv l)).length:Nat):Int)+(((es.filter (mb l)).length:Nat):Int) - (k:Int))=_
 rw[Eh,←List.countP_eq_length_filter]
 unfold Cut.dD Cut.mg
 simp
def oV(a b:List Int)(X:Int->Bool):Cut.mg (a++b) X=Cut.mg a X+Cut.mg b X:=List.countP_append
def Az(m:Nat)(v:Int)(X:Int->Bool):Cut.mg (È m v) X=if X v=true then m else 0:=by
 unfold Cut.mg
 rw[List.countP_replicate]
def HW{n k i:Nat}(h:i<n):rst n k i=È k ((i:Nat):Int)++rst n k (i+1):=by
 unfold rst
 rw[Ŧ (by rw[Ō];exact h),ź,List.getElem_range]
def Lr(n k:Nat):rst n k n=[]:=by
 unfold rst
 rw[List.drop_of_length_le (by rw[Ō];exact É _)]
 rfl
def HS(n k i:Nat):RgE n (rst n k i):=λe he=>by
 unfold rst at he
 obtain⟨v,hv,hm⟩:=List.mem_flatMap.mp he
 have:=ċ.mp (Š hv)
 rw[(Ĵ.mp hm).2]
 omega
def Uh{n k:Nat}{X:Int->Bool}(h:Cut.Prp n X):k<=Cut.mg (rst n k 0) X:=by
 obtain⟨v,⟨v0,v1⟩,hv⟩:=h.ins
 have m:v.toNat∈Û n:=ċ.mpr (by omega)
 obtain⟨s,t,e⟩:=List.append_of_mem m
 unfold rst
 rw[List.drop_zero,e,List.flatMap_append,ź,oV,oV,Az,show((v.toNat:Nat):Int)=v by omega,if_pos hv]
 omega
def Jv{n k:Nat}{us:List Tie}{es:List Int}(n8:n<=8)(hu:RgT n us)(he:RgE n es){X:Int->Bool}(h:Cut.Prp n X):(wu n X,((Cut.dD us es X:Nat):Int) - (k:Int))∈aB n k us es:=by
 refine Ý.mpr ⟨wu n X,Rz n8 h,?_⟩
 rw[VF hu he λv hv=>lU hv]
structure FewP(n k:Nat)(us:List Tie)(L E:List Int):Prop where
 rg:RgE n E
 C:∀X,Cut.Prp n X->k<=Cut.dD us E X
 tg:∀v∈L,∃X,Cut.Prp n X/\X v=true/\Cut.dD us E X=k
def qu{n k:Nat}{us:List Tie}(n1:1<=n)(n8:n<=8)(hu:RgT n us):∀i,i<=n->∃L:List Int,eE (aB n k us (rst n k 0)) k i=(aB n k us (L++rst n k i),L)/\FewP n k us L (L++rst n k i)/\L.Pairwise (·<=·)/\(∀v∈L,v<(i:Int))/\L.length<=i * k
 |0,_=>⟨[],rfl,⟨HS n k 0,λX hX=>by have:=Uh (k:=k) hX;unfold Cut.dD;rw[List.nil_append];omega,λv h=>(nomatch h)⟩,.nil,λv h=>(nomatch h),ô _⟩
 |i+1,hi=>by
  obtain⟨L,e,F,so,lt,ln⟩:=qu n1 n8 hu i (by omega)
  have hin:i<n:=by omega
  generalize hlost:jc (aB n k us (L++rst n k i)) ((i:Nat):Int) (k:Int)=lost
  have l1:lost<=(k:Int):=by rw[←hlost];exact yG _ _ _ À
  have l2:∀X,Cut.Prp n X->X ((i:Nat):Int)=true->lost<=((Cut.dD us (L++rst n k i) X:Nat):Int) - (k:Int):=λX hX hXi=>by
   rw[←hlost]
   refine yG _ _ _ (Ä _ (Ý.mpr ⟨_,Ċ.mpr ⟨Jv n8 hu F.rg hX,?_⟩,rfl⟩))
   rw[lU (by omega),hXi]
  have l3:lost=(k:Int)\/∃l∈psN n,mb l ((i:Nat):Int)=true/\lost=((Cut.dD us (L++rst n k i) (mb l):Nat):Int) - (k:Int):=by
   have:=v9 (k:Int) (((aB n k us (L++rst n k i)).filter λr=>mb r.1 ((i:Nat):Int)).map (·.2))
   rw[show mnF (k:Int) (((aB n k us (L++rst n k i)).filter λr=>mb r.1 ((i:Nat):Int)).map (·.2))=lost from hlost] at this
   rcases Ó.mp this with z|z
   ·exact .inl z
   ·obtain⟨r,hr,e⟩:=Ý.mp z
    obtain⟨h1,h2⟩:=Ċ.mp hr
    obtain⟨l,hl,rfl⟩:=Ý.mp h1
    exact .inr ⟨l,hl,h2,e.symm⟩
  have l0:0<=lost:=by
   rcases l3 with z|⟨l,hl,_,z⟩
   ·omega
   ·have:=F.C _ (oJ n1 n8 hl)
    omega
  obtain⟨q,rfl⟩:∃q:Nat,lost=((q:Nat):Int):=⟨lost.toNat,by omega⟩
  have qk:q<=k:=by omega
  have dd:∀X:Int->Bool,Cut.dD us ((L++È (k - q) ((i:Nat):Int))++rst n k (i+1)) X+(if X ((i:Nat):Int)=true then q else 0)=Cut.dD us (L++rst n k i) X:=λX=>by
   unfold Cut.dD
   rw[HW hin,oV,oV,oV,oV,Az,Az]
   split <;> omega
  refine⟨L++È (k - q) ((i:Nat):Int),?_,⟨λv hv=>?_,λX hX=>?_,λv hv=>?_⟩,?_,λv hv=>?_,?_⟩
  ·show(pI (eE _ _ i).1 _ (jc (eE _ _ i).1 _ _),_++È ((k:Int) - jc (eE _ _ i).1 _ _).toNat _)=_
   rw[e]
   show(pI (aB n k us (L++rst n k i)) _ (jc (aB n k us (L++rst n k i)) _ _),L++È ((k:Int) - jc (aB n k us (L++rst n k i)) _ _).toNat _)=_
   rw[hlost,show((k:Int) - ((q:Nat):Int)).toNat=k - q by omega]
   refine Prod.ext ?_ rfl
   show pI _ _ _=aB _ _ _ _
   unfold pI aB
   rw[õ]
   refine Ĭ λl _=>?_
   have:=dd (mb l)
   refine Prod.ext rfl ?_
   show(if mb l ((i:Nat):Int)=true then ((Cut.dD us (L++rst n k i) (mb l):Nat):Int) - (k:Int) - ((q:Nat):Int) else ((Cut.dD us (L++rst n k i) (mb l):Nat):Int) - (k:Int))=((Cut.dD us ((L++È (k - q) ((i:Nat):Int))++rst n k (i+1)) (mb l):Nat):Int) - (k:Int)
   split
   ·rename_i c;rw[if_pos c] at this;omega
   ·rename_i c;rw[if_neg c] at this;omega
  ·rcases ä.mp hv with z|z
   ·rcases ä.mp z with z|z
    ·exact F.rg v (Ě _ z)
    ·rw[(Ĵ.mp z).2];omega
   ·exact HS n k _ v z
  ·have a:=F.C X hX
   have b:=dd X
   by_cases c:X ((i:Nat):Int)=true
   ·have:=l2 X hX c
    rw[if_pos c] at b
    omega
   ·rw[if_neg c] at b
    omega
  ·rcases ä.mp hv with z|z
   ·obtain⟨X,x1,x2,x3⟩:=F.tg v z
    refine⟨X,x1,x2,?_⟩
    have b:=dd X
    by_cases c:X ((i:Nat):Int)=true
    ·have:=l2 X x1 c
     rw[if_pos c] at b
     omega
    ·rw[if_neg c] at b
     omega
   ·obtain⟨hne,rfl⟩:=Ĵ.mp z
    rcases l3 with y|⟨l,hl,y1,y2⟩
    ·omega
    ·refine⟨mb l,oJ n1 n8 hl,y1,?_⟩
     have b:=dd (mb l)
     rw[if_pos y1] at b
     have:=F.C _ (oJ n1 n8 hl)
     omega
  ·refine Ş.mpr ⟨so,List.pairwise_replicate.mpr (.inr (ć _)),λx hx y hy=>?_⟩
   rw[(Ĵ.mp hy).2]
   have:=lt x hx
   omega
  ·rcases ä.mp hv with z|z
   ·have:=lt v z;omega
   ·rw[(Ĵ.mp z).2];omega
  ·rw[Æ,Ģ,Nat.add_mul]
   omega
def Br{n k:Nat}{us:List Tie}(n1:1<=n)(n8:n<=8)(hu:RgT n us):FewP n k us (kE n k (bL n us)) (kE n k (bL n us))/\(kE n k (bL n us)).Pairwise (·<=·)/\(kE n k (bL n us)).length<=n * k:=by
 obtain⟨L,e,F,so,_,ln⟩:=qu (k:=k) n1 n8 hu n (É _)
 have:kE n k (bL n us)=L:=by
  unfold kE
  rw[uW,e]
 rw[this]
 rw[Lr,ø] at F
 exact⟨F,so,ln⟩
def iU(sp:Spr)(a b:Int):Bool:=!decide (a=b)&&((sp.filter λr=>mb r.1 a&&mb r.1 b).map λr=>decide (2<=r.2)).all id
def ji(sp:Spr)(a b:Int):Spr:=sp.map λr=>(r.1,if (mb r.1 a&&mb r.1 b)=true then r.2 - 2 else r.2)
def lB:Nat->Spr->List Int->List Tie
 |0,_,_=>[]
 |_+1,_,[]=>[]
 |f+1,sp,a::rest=>match (a::rest).find? (iU sp a) with
  |some b=>(a,b)::lB f (ji sp a b) (rest.erase b)
  |none=>[]
def ux:Nat->Spr->List Int->Prop
 |_,_,[]=>True
 |0,_,_::_=>False
 |f+1,sp,a::rest=>∃b,(a::rest).find? (iU sp a)=some b/\b∈rest/\ux f (ji sp a b) (rest.erase b)
def Nb{a b:List Int}(h:a.Perm b)(X:Int->Bool):Cut.mg a X=Cut.mg b X:=h.countP_eq X
def uR{us:List Tie}{a b:Int}{rest:List Int}(hb:b∈rest)(X:Int->Bool):Cut.dD ((a,b)::us) (rest.erase b) X+(if (X a&&X b)=true then 2 else 0)=Cut.dD us (a::rest) X:=by
 unfold Cut.dD
 rw[Cut.qz,Cut.eO,Nb (List.perm_cons_erase hb) X,Cut.eO]
 cases X a <;> cases X b <;> simp <;> omega
def Lg{n k:Nat}{us:List Tie}{a b:Int}{rest:List Int}(hb:b∈rest):ji (aB n k us (a::rest)) a b=aB n k ((a,b)::us) (rest.erase b):=by
 unfold ji aB
 rw[õ]
 refine Ĭ λl _=>?_
 have:=uR (us:=us) (a:=a) hb (mb l)
 refine Prod.ext rfl ?_
 show(if (mb l a&&mb l b)=true then ((Cut.dD us (a::rest) (mb l):Nat):Int) - (k:Int) - 2 else ((Cut.dD us (a::rest) (mb l):Nat):Int) - (k:Int))=((Cut.dD ((a,b)::us) (rest.erase b) (mb l):Nat):Int) - (k:Int)
 split
 ·rename_i c;rw[if_pos c] at this;omega
 ·rename_i c;rw[if_neg c] at this;omega
def Er{n k:Nat}{us:List Tie}{es:List Int}(n1:1<=n)(n8:n<=8)(hu:RgT n us)(he:RgE n es){a b:Int}(ha:0<=a/\a<(n:Int))(hb:0<=b/\b<(n:Int)):iU (aB n k us es) a b=true↔a≠b/\∀X,Cut.Prp n X->X a=true->X b=true->k+2<=Cut.dD us es X:=by
 unfold iU
 rw[Ë,Ž,decide_eq_false_iff_not,ü]
 refine and_congr Iff.rfl ⟨λh X hX xa xb=>?_,λh y hy=>?_⟩
 ·have:=h (decide (2<=((Cut.dD us es X:Nat):Int) - (k:Int))) (Ý.mpr ⟨_,Ċ.mpr ⟨Jv n8 hu he hX,by rw[lU ha,lU hb,xa,xb];rfl⟩,rfl⟩)
  have:=of_decide_eq_true this
  omega
 ·obtain⟨r,hr,rfl⟩:=Ý.mp hy
  obtain⟨h1,h2⟩:=Ċ.mp hr
  obtain⟨l,hl,rfl⟩:=Ý.mp h1
  rw[Ë] at h2
  have:=h _ (oJ n1 n8 hl) h2.1 h2.2
  refine decide_eq_true ?_
  show(2:Int)<=((Cut.dD us es (mb l):Nat):Int) - (k:Int)
  omega
def qy{a b:List Tie}(h:a.Perm b)(X:Int->Bool):Cut.dg a X=Cut.dg b X:=h.countP_eq _
def Hl{n k:Nat}(n1:1<=n)(n8:n<=8)(k2:2<=k):∀(f:Nat) (us:List Tie) (es:List Int),es.length<=f->RgT n us->RgE n es->es.Pairwise (·<=·)->es.length % 2=0->(∀X,Cut.Prp n X->k<=Cut.dD us es X)->(∀v,2<=es.count v->∃X,Cut.Prp n X/\X v=true/\Cut.dD us es X<=k+1) ->
  ux f (aB n k us es) es/\(lB f (aB n k us es) es).length * 2=es.length/\(∀t∈lB f (aB n k us es) es,0<=t.1/\t.1<t.2/\t.2<(n:Int))/\∀X,Cut.Prp n X->k<=Cut.dg (lB f (aB n k us es) es++us) X
 |f,us,[],_,_,_,_,_,hC,_=>by
  have e:lB f (aB n k us []) []=[]:=by cases f <;> rfl
  rw[e]
  refine⟨by cases f <;> trivial,rfl,λt h=>(nomatch h),λX hX=>?_⟩
  have:=hC X hX
  unfold Cut.dD at this
  exact this
 |0,us,a::rest,hf,_,_,_,_,_,_=>by simp at hf
 |f+1,us,a::rest,hf,hu,he,so,ev,hC,two=>by
  have ha:=he a À
  obtain⟨b0,m0,n0,h0⟩:=Cut.split k2 he hC ev rfl λhm=>two a (by
   rw[List.count_cons_self]
   have:=List.count_pos_iff.mpr hm
   omega)
  have hfind:∃b,(a::rest).find? (iU (aB n k us (a::rest)) a)=some b:=by
   cases c:(a::rest).find? (iU (aB n k us (a::rest)) a) with
   |some b=>exact⟨b,rfl⟩
   |none =>
    have:=List.find?_eq_none.mp c b0 (Ä _ m0)
    exact absurd ((Er n1 n8 hu he ha (he b0 (Ä _ m0))).mpr ⟨ġ n0,h0⟩) this
  obtain⟨b,hb⟩:=hfind
  have cb:=List.find?_some hb
  have mb':=List.mem_of_find?_eq_some hb
  have rb:=he b mb'
  obtain⟨nab,hX⟩:=(Er n1 n8 hu he ha rb).mp cb
  have mr:b∈rest:=(Ó.mp mb').elim (λz=>absurd z.symm nab) id
  have sub:(rest.erase b).Sublist rest:=List.erase_sublist
  have lr:(rest.erase b).length+1=rest.length:=by
   have:=List.length_erase_of_mem mr
   have:0<rest.length:=List.length_pos_of_mem mr
   omega
  have lt:a<b:=by
   have:=(Ń.mp so).1 b mr
   omega
  obtain⟨g1,g2,g3,g4⟩:=Hl n1 n8 k2 f ((a,b)::us) (rest.erase b) (by rw[Ù] at hf;omega) (λt ht=>by
   rcases Ó.mp ht with rfl|ht
   ·exact⟨ha,rb⟩
   ·exact hu t ht) (λe h=>he e (Ä _ (sub.mem h))) ((Ń.mp so).2.sublist sub) (by rw[Ù] at ev;omega) (λX hp=>by
    have d:=uR (us:=us) (a:=a) mr X
    have c:=hC X hp
    by_cases z:(X a&&X b)=true
    ·rw[if_pos z] at d
     rw[Ë] at z
     have:=hX X hp z.1 z.2
     omega
    ·rw[if_neg z] at d
     omega) (λv hv=>by
    obtain⟨X,x1,x2,x3⟩:=two v (by
     have a1:=sub.count_le v
     have a2:rest.count v<=(a::rest).count v:=(List.sublist_cons_self a rest).count_le v
     omega)
    refine⟨X,x1,x2,?_⟩
    have d:=uR (us:=us) (a:=a) mr X
    omega)
  rw[←Lg mr] at g1 g2 g3 g4
  have e:lB (f+1) (aB n k us (a::rest)) (a::rest)=(a,b)::lB f (ji (aB n k us (a::rest)) a b) (rest.erase b):=by
   show(match (a::rest).find? (iU (aB n k us (a::rest)) a) with|some b=>_|none=>_)=_
   rw[hb]
  rw[e]
  refine⟨⟨b,hb,mr,g1⟩,?_,λt ht=>?_,λX hp=>?_⟩
  ·rw[Ù,Ù]
   omega
  ·rcases Ó.mp ht with rfl|ht
   ·exact⟨ha.1,lt,rb.2⟩
   ·exact g3 t ht
  ·rw[List.cons_append,←qy (List.perm_middle (a:=(a,b)) (l₁:=lB f (ji (aB n k us (a::rest)) a b) (rest.erase b)) (l₂:=us)) X]
   exact g4 X hp
def rwD(r:List Int×Int):D:=.tuple [iD r.1,.int r.2]
def fZ(sp:Spr):D:=.list (sp.map rwD)
def fPS(ds:List D)(P:D->Prop):Prop:=∃n:Nat,ds=[.int ((n:Nat):Int)]/\1<=n/\n<=8/\P (.list ((psN n).map iD))
def fWS(ds:List D)(P:D->Prop):Prop:=∃(rows:Spr) (es:List Int) (k:Int),ds=[fZ rows,iD es,.int k]/\rows.length<=300/\es.length<=300/\P (fZ (xT rows es k))
def fFE(ds:List D)(P:D->Prop):Prop:=∃(n k:Nat) (us:List Tie),ds=[.int ((n:Nat):Int),fZ (bL n us),.int ((k:Nat):Int)]/\1<=n/\n<=8/\k<=3/\RgT n us/\P (iD (kE n k (bL n us)))
def fCB(ds:List D)(P:D->Prop):Prop:=∃(sp:Spr) (a b:Int),ds=[fZ sp,.int a,.int b,.int 2]/\sp.length<=300/\P (.bool (iU sp a b))
def fTd(ds:List D)(P:D->Prop):Prop:=∃(sp:Spr) (a b:Int),ds=[fZ sp,.int a,.int b,.int 2]/\sp.length<=300/\P (fZ (ji sp a b))
def fTE(ds:List D)(P:D->Prop):Prop:=∃(sp:Spr) (es:List Int),ds=[fZ sp,iD es]/\sp.length<=300/\es.length<=100/\ux es.length sp es/\P (.list ((lB es.length sp es).map pD))
section
variable {P:Program}{w:World}{K:Ú}{mg:Str->Option Value}{base:Heap}{f:Addr}{fd:FuncData}{CN PT:Addr}
def jk:FnScope ["n"] ["n"] (ak (top 15)):=zC
def qY(F:Fun K "proper_sets" "proper_sets" (top 15) f fd)(B:ľ mg)(C_sets_below:Ą P w K mg base 1 "sets_below" ["count"] (spD fSB)):FnOk P w K mg base CX0 2 f fd ["n"] (spD fPS):=by
 refine F.ok jk ħ (λcdv A outer s H vs Q E hr h=>?_)
 have nd:=jk.nd
 refine⟨_,Ķ (Ĕ (Ĩ (Wr.mV (ũ C_sets_below hr (Â (Í 0) Ç)) (ų Õ) (ų (Wr.gG Õ))))),aY h ?_⟩
 rintro ds P ⟨n,rfl,n1,n8,q⟩
 refine⟨[.im (.int ((n:Nat):Int))],rfl,?_⟩
 have p2:=jW n1 n8
 refine⟨((n:Nat):Int),rfl,by omega,by omega,.inr ⟨rfl,?_⟩⟩
 rw[Ø,Eo _ (by rw[Á,aW];omega),←Ő,←Ź]
 exact q
def jj:FnScope ["rows","ends","most"] ["rows","ends","most"] (ak (top 37)):=zC
def gW:(["some","count","rows","ends","most"]:List Str).Nodup:=by decide +kernel
def oO:(["v","some","count","rows","ends","most"]:List Str).Nodup:=by decide +kernel
def qX(F:Fun K "with_spares" "with_spares" (top 37) f fd)(B:ľ mg):FnOk P w K mg base CX0 1 f fd ["rows","ends","most"] (spR fWS):=by
 refine F.ok jj nq (λcdv A outer s H vs Q E hr h=>?_)
 have nd:=jj.nd
 refine⟨_,Dl.WR.h (Dl.qN (ŗ ["some","count"] rfl (ĭ (Í 0)) (λc=>(Wr.fU (n:=2) rfl (Ġ (ú (i:=0) gW rfl zQ) (Ġ (ú (i:=1) gW rfl zQ) Wr.dU)))) (λc=>ń) (λc=>(Č (Â (Í 0) (Â (Wr.cX (ë (Í 1) (Wr.fK B.len (Â (ŗ ["v"] rfl (ĭ (Í 3)) (λc=>(ú (i:=0) oO rfl zQ)) (λc=>(Wr.eZ (Wr.d9 hr.units (Í 0) (Í 1)))) (λc=>(Í 0))) Ç))) (Í 4)) Ç)))))),rR h ?_⟩
 rintro ds P ⟨rows,es,k,rfl,lr,le,q⟩
 refine⟨[.sh (fZ rows),.sh (iD es),.im (.int k)],rfl,?_⟩
 refine wB rows rwD (λr=>rwD (r.1,r.2+(((es.filter (mb r.1)).length:Nat):Int) - k)) .shr rfl (by omega) (λr hr A B hA=>⟨rfl,aK (B:=B) ?_⟩) ?_
 ·refine Dy es Ã (mb r.1) Ã .imm rfl (by omega) (λv hv A B hA hB=>?_) ?_
  ·refine⟨rfl,d7 r.1,?_⟩
   show if (((r.1.map Ã).any λe=>ý e (.int v)):Bool)=true then _ else _
   rw[ţ]
   cases c:mb r.1 v with
   |true =>
    rw[show decide (v∈r.1)=true from c]
    exact aK (B:=True) ⟨rfl,hA c⟩
   |false =>
    rw[show decide (v∈r.1)=false from c]
    exact bD (A:=True) (hB c)
  ·refine⟨zK,?_,?_⟩
   ·rfl
   ·show A (.tuple [iD r.1,.int (r.2+(((Ĥ Ã (List.filter (mb r.1) es)).length:Nat):Int) - k)])
    rw[Á]
    exact hA
 ·unfold fZ xT at q
  rw[õ] at q
  exact q
def nH(m:Nat)(v:Int):(È m [Ã v]).flatten=(È m v).map Ã:=by
 induction m with
 |zero=>rfl
 |succ m ih=>rw[Ğ,ļ,ih,Ğ];rfl
def Cy(rows:Spr)(es:List Int)(k:Int):(xT rows es k).length=rows.length:=Á _
def DY(sp0:Spr)(k:Int):∀i,(eE sp0 k i).1.length=sp0.length
 |0=>rfl
 |i+1=>by
  show(pI _ _ _).length=_
  unfold pI
  rw[Á,DY]
def J5{n k i:Nat}{us:List Tie}(n1:1<=n)(n8:n<=8)(hu:RgT n us)(hi:i<n):0<=jc (eE (aB n k us (rst n k 0)) k i).1 ((i:Nat):Int) k/\jc (eE (aB n k us (rst n k 0)) k i).1 ((i:Nat):Int) k<=k:=by
 obtain⟨L,e,F,_⟩:=qu (k:=k) n1 n8 hu i (by omega)
 rw[e]
 refine⟨?_,yG _ _ _ À⟩
 show 0<=mnF _ _
 rcases Ó.mp (v9 (k:Int) (((aB n k us (L++rst n k i)).filter λr=>mb r.1 ((i:Nat):Int)).map (·.2))) with z|z
 ·rw[z];omega
 ·obtain⟨r,hr,e⟩:=Ý.mp z
  obtain⟨l,hl,rfl⟩:=Ý.mp (Ċ.mp hr).1
  have:=F.C _ (oJ n1 n8 hl)
  rw[←e]
  show 0<=((Cut.dD us (L++rst n k i) (mb l):Nat):Int) - (k:Int)
  omega
def R6{n k i:Nat}{us:List Tie}(n1:1<=n)(n8:n<=8)(hu:RgT n us)(hi:i<=n):(eE (aB n k us (rst n k 0)) k i).2.length<=i * k:=by
 obtain⟨L,e,_,_,_,ln⟩:=qu (k:=k) n1 n8 hu i hi
 rw[e]
 exact ln
def yc{n:Nat}(n1:1<=n)(n8:n<=8)(us:List Tie):(bL n us).length<=254:=by
 have p2:=jW n1 n8
 unfold bL psN
 rw[Á,ĥ,û,aW]
 omega
def jo:FnScope ["n","rows","most","ends","v","spares","left","lost"] ["n","rows","most"] (ak (top 38)):=zC
def cF:(["some","spare","n","rows","most","ends","v","spares","left","lost"]:List Str).Nodup:=by decide +kernel
def rm(F:Fun K "fewest_ends" "fewest_ends" (top 38) f fd)(B:ľ mg)(C_with_spares:Ą P w K mg base 1 "with_spares" ["rows","ends","most"] (spR fWS)):FnOk P w K mg base CX0 2 f fd ["n","rows","most"] (spD fFE):=by
 refine F.ok jo ħ (λcdv A outer s H vs Q E hr h=>?_)
 have nd:=jo.nd
 refine⟨_,Ķ (å (ö (some 0) (i:=3) nd rfl zQ (ì Ç))
  (å (Wr.eF Ē rfl (Wr.bT B.range (Â (Í 0) Ç)) (ú (i:=4) nd rfl zQ) (å (Wr.dW (Wr.wv 3) (Â (Wr.gQ (ì (Â (Í 4) Ç)) (Í 2)) Ç)) (Ĺ [4] Ł)))
  (Ĺ [4] (Wr.Bv 3 (å (ö none (i:=5) nd rfl zQ (Dl.dcR C_with_spares hr (Â (Í 1) (Â (Í 3) (Â (Í 2) Ç)))))
  (å (ö (some 1) (i:=6) nd rfl zQ (ì Ç))
  (å (Wr.eF Ē rfl (Wr.bT B.range (Â (Í 0) Ç)) (ú (i:=4) nd rfl zQ) (å (ö none (i:=7) nd rfl zQ (Wr.vI rfl B.min (Â (ë (ì (Â (Í 2) Ç)) (ŗ ["some","spare"] rfl (ĭ (Í 5)) (λc=>(Wr.fU (n:=2) rfl (Ġ (ú (i:=0) cF rfl zQ) (Ġ (ú (i:=1) cF rfl zQ) Wr.dU)))) (λc=>(Wr.eZ (Wr.d9 hr.units (Í 6) (Í 0)))) (λc=>(Í 1)))) Ç)))
  (å (Wr.yX none ["some","spare"] (i:=5) rfl nd rfl zQ (ĭ (Í 5)) (λc=>(Wr.fU (n:=2) rfl (Ġ (ú (i:=0) cF rfl zQ) (Ġ (ú (i:=1) cF rfl zQ) Wr.dU)))) (λc=>ń) (λc=>(Č (Â (Í 0) (Â (Wr.jz (Wr.d9 hr.units (Í 6) (Í 0)) (Wr.cX (Í 1) (Í 9)) (Í 1)) Ç)))))
  (å (Wr.dW (Wr.wv 6) (Â (Wr.gQ (ì (Â (Í 4) Ç)) (Wr.cX (Í 2) (Í 7))) Ç)) (Ĺ [4,7] Ł)))))
  (Ĺ [4,5,7] (Ĕ (Ĩ (Í 6))))))))))),aY h ?_⟩
 rintro ds P ⟨n,k,us,rfl,n1,n8,k3,hu,q⟩
 have lr:=yc n1 n8 us
 have lost:=λi=>J5 (k:=k) (i:=i) n1 n8 hu
 have lnI:=λi=>R6 (k:=k) (i:=i) n1 n8 hu
 have spe:=uW n k us (rst n k 0)
 unfold kE at q
 rw[spe] at q
 have lsp:(aB n k us (rst n k 0)).length<=254:=by rw[←spe,Cy];exact lr
 have lfi:=DY (aB n k us (rst n k 0)) k
 generalize bL n us=rows at spe lr
 refine⟨[.im (.int ((n:Nat):Int)),.sh (fZ rows),.im (.int ((k:Nat):Int)),.any,.any,.any,.any,.any],rfl,?_⟩
 have pre:∀i,((Û (i+1)).flatMap λv=>È k ((v:Nat):Int))=((Û i).flatMap λv=>È k ((v:Nat):Int))++È k ((i:Nat):Int):=λi=>by
  rw[List.range_succ,List.flatMap_append,ź,List.flatMap_nil,ø]
 have lpre:∀i,((Û i).flatMap λv=>È k ((v:Nat):Int)).length=i * k:=λi=>by
  induction i with
  |zero=>simp
  |succ i ih=>rw[List.range_succ,List.flatMap_append,Æ,ih];simp[Nat.add_mul]
 have nk:n * k<=24:=Nat.mul_le_mul n8 k3
 have ik:∀i,i<=n->i * k<=24:=λi hi=>î (Nat.mul_le_mul_right k hi) nk
 refine⟨zK,⟨by omega,by omega⟩,rfl,λ(i:Nat) ρ=>ρ=[.im (.int ((n:Nat):Int)),.sh (fZ rows),.im (.int ((k:Nat):Int)),.dw 0 (iD ((Û i).flatMap λv=>È k ((v:Nat):Int))),.any,.any,.any,.any],rfl,?_,?_⟩
 ·rintro i d ρ hd rfl
  obtain⟨hi,rfl⟩:=cG hd
  rw[Ø] at hi
  rw[Int.zero_add]
  have l1:=lpre i
  have l2:=ik i (by omega)
  refine⟨zK,by omega,by omega,?_,.inr ⟨rfl,?_,?_⟩⟩
  ·show 1 * (((k:Nat):Int)).toNat<=1000
   omega
  ·rw[Ø]
   show(Ĥ Ã _).length+(È k [Ã ((i:Nat):Int)]).flatten.length<=1000
   rw[nH,Á,Á,Ģ,l1]
   omega
  ·rw[Ø]
   show [_,_,_,Sl.dw 0 (.list (Ĥ Ã _++(È k [Ã ((i:Nat):Int)]).flatten)),_,_,_,_]=[_,_,_,Sl.dw 0 (iD ((Û (i+1)).flatMap λv=>È k ((v:Nat):Int))),_,_,_,_]
   rw[nH,pre i]
   show _=[_,_,_,Sl.dw 0 (.list (Ĥ Ã (_++_))),_,_,_,_]
   rw[Þ]
   rfl
 rintro ρ rfl
 rw[Ň,Ø]
 have e0:((Û n).flatMap λv=>È k ((v:Nat):Int))=rst n k 0:=by
  unfold rst
  rw[List.drop_zero]
 have l0:=lpre n
 rw[e0] at l0 ⊢
 refine⟨rfl,?_⟩
 refine⟨rfl,rows,rst n k 0,((k:Nat):Int),rfl,by omega,by omega,?_⟩
 rw[spe]
 generalize hsp:aB n k us (rst n k 0)=sp0 at q lost lnI lsp lfi
 refine⟨zK,⟨by omega,by omega⟩,rfl,λ(i:Nat) ρ=>ρ=[.im (.int ((n:Nat):Int)),.sh (fZ rows),.im (.int ((k:Nat):Int)),.sn (iD (rst n k 0)),.any,.sh (fZ (eE sp0 k i).1),.dw 1 (iD (eE sp0 k i).2),.any],rfl,?_,?_⟩
 ·rintro i d ρ hd rfl
  obtain⟨hi,rfl⟩:=cG hd
  rw[Ø] at hi
  rw[Int.zero_add]
  have b:=lost i hi
  have l2:=ik i (by omega)
  have ll:=lnI i (by omega)
  have lf:=lfi i
  have eS:(eE sp0 k (i+1)).1=pI (eE sp0 k i).1 i (jc (eE sp0 k i).1 i k):=rfl
  have eL:(eE sp0 k (i+1)).2=(eE sp0 k i).2++È ((k:Int) - jc (eE sp0 k i).1 i k).toNat ((i:Nat):Int):=rfl
  generalize (eE sp0 k i).1=sp at b lf eS eL ⊢
  generalize (eE sp0 k i).2=L at ll eL ⊢
  refine⟨zK,?_⟩
  refine Dy sp rwD (λr=>mb r.1 ((i:Nat):Int)) (λr=>.int r.2) .imm rfl (by omega) (λr hr A B hA hB=>⟨rfl,?_⟩) ?_
  ·refine⟨rfl,d7 r.1,?_⟩
   show if (((r.1.map Ã).any λe=>ý e (.int ((i:Nat):Int))):Bool)=true then _ else _
   rw[ţ]
   cases c:mb r.1 ((i:Nat):Int) with
   |true =>
    rw[show decide (((i:Nat):Int)∈r.1)=true from c]
    exact aK (B:=True) ⟨rfl,hA c⟩
   |false =>
    rw[show decide (((i:Nat):Int)∈r.1)=false from c]
    exact bD (A:=True) (hB c)
  have lfl:(sp.filter λr=>mb r.1 ((i:Nat):Int)).length<=sp.length:=List.length_filter_le _ _
  refine⟨?_,.inr ⟨((k:Nat):Int)::(sp.filter λr=>mb r.1 ((i:Nat):Int)).map (·.2),?_,by simp,λM h1 h2=>?_⟩⟩
  ·show 1+(Ĥ _ _).length<=1000
   rw[Á]
   omega
  ·show Ã ((k:Nat):Int)::Ĥ (λr:List Int×Int=>Ã r.2) _=Ã ((k:Nat):Int)::Ĥ Ã (Ĥ _ _)
   rw[õ]
   rfl
  have eM:M=jc sp ((i:Nat):Int) k:=M9 h1 h2
  rw[←eM] at b eS eL
  refine wB sp rwD (λr=>rwD (r.1,if mb r.1 ((i:Nat):Int)=true then r.2 - M else r.2)) .shr rfl (by omega) (λr hr A B hA=>⟨rfl,aK (B:=B) ⟨rfl,d7 r.1,?_⟩⟩) ?_
  ·show if (((r.1.map Ã).any λe=>ý e (.int ((i:Nat):Int))):Bool)=true then _ else _
   rw[ţ]
   cases c:mb r.1 ((i:Nat):Int) with
   |true =>
    rw[show decide (((i:Nat):Int)∈r.1)=true from c]
    rw[c] at hA
    exact aK (B:=True) ⟨zK,rfl,hA⟩
   |false =>
    rw[show decide (((i:Nat):Int)∈r.1)=false from c]
    rw[c] at hA
    exact bD (A:=True) ⟨zK,rfl,hA⟩
  refine⟨zK,by omega,by omega,?_,.inr ⟨rfl,?_,?_⟩⟩
  ·show 1 * (((k:Nat):Int) - M).toNat<=1000
   omega
  ·show(Ĥ Ã _).length+(È (((k:Nat):Int) - M).toNat [Ã ((i:Nat):Int)]).flatten.length<=1000
   rw[nH,Á,Á,Ģ]
   omega
  ·show [_,_,_,_,_,Sl.sh (.list (sp.map λr=>rwD (r.1,if mb r.1 ((i:Nat):Int)=true then r.2 - M else r.2))),Sl.dw 1 (.list (Ĥ Ã L++(È (((k:Nat):Int) - M).toNat [Ã ((i:Nat):Int)]).flatten)),_]=[_,_,_,_,_,Sl.sh (fZ (eE sp0 k (i+1)).1),Sl.dw 1 (iD (eE sp0 k (i+1)).2),_]
   rw[nH,eS,eL]
   show _=[_,_,_,_,_,Sl.sh (.list (Ĥ rwD (Ĥ _ sp))),Sl.dw 1 (.list (Ĥ Ã (_++_))),_]
   rw[Þ,õ]
   rfl
 rintro ρ rfl
 rw[Ň,Ø]
 exact⟨rfl,q⟩
def jq:FnScope ["spares","a","b","taken"] ["spares","a","b","taken"] (ak (top 39)):=zC
def gY:(["some","spare","spares","a","b","taken"]:List Str).Nodup:=by decide +kernel
def rB(F:Fun K "can_be_tied" "can_be_tied" (top 39) f fd)(B:ľ mg):FnOk P w K mg base CX0 1 f fd ["spares","a","b","taken"] (spD fCB):=by
 refine F.ok jq ħ (λcdv A outer s H vs Q E hr h=>?_)
 have nd:=jq.nd
 refine⟨_,Ķ (Ĕ (Ĩ (Wr.gJ (Wr.vH hr.units (Í 1) (Í 2)) (Wr.iH (Wr.jA rfl B.all Dl.boot_all (Â (ŗ ["some","spare"] rfl (ĭ (Í 0)) (λc=>(Wr.fU (n:=2) rfl (Ġ (ú (i:=0) gY rfl zQ) (Ġ (ú (i:=1) gY rfl zQ) Wr.dU)))) (λc=>(Wr.eZ (Wr.wpt (Wr.mR (Wr.d9 hr.units (Í 3) (Í 0)) (Wr.jx (Wr.d9 hr.units (Í 4) (Í 0))))))) (λc=>(Wr.IV (Í 1) (Í 5)))) Ç)))))),aY h ?_⟩
 rintro ds P ⟨sp,a,b,rfl,ls,q⟩
 refine⟨[.sh (fZ sp),.im (.int a),.im (.int b),.im (.int 2)],rfl,?_⟩
 by_cases c:a=b
 ·subst c
  have:iU sp a a=false:=by
   unfold iU
   rw[decide_eq_true rfl]
   rfl
  rw[this] at q
  show if (!decide (a=a))=true then _ else _
  rw[decide_eq_true rfl]
  exact bD (A:=True) ⟨rfl,q⟩
 show if (!decide (a=b))=true then _ else _
 rw[decide_eq_false c]
 refine aK (B:=True) ?_
 refine Dy sp rwD (λr=>mb r.1 a&&mb r.1 b) (λr=>.bool (decide (2<=r.2))) .imm rfl (by omega) (λr hr A B hA hB=>⟨rfl,?_⟩) ?_
 ·refine⟨rfl,d7 r.1,?_⟩
  show if (((r.1.map Ã).any λe=>ý e (.int a)):Bool)=true then _ else _
  rw[ţ]
  cases ca:mb r.1 a with
  |false =>
   rw[show decide (a∈r.1)=false from ca]
   exact bD (A:=True) (bD (A:=True) (hB (by rw[ca];rfl)))
  |true =>
   rw[show decide (a∈r.1)=true from ca]
   refine aK (B:=True) ⟨rfl,d7 r.1,?_⟩
   show if (((r.1.map Ã).any λe=>ý e (.int b)):Bool)=true then _ else _
   rw[ţ]
   cases cb:mb r.1 b with
   |false =>
    rw[show decide (b∈r.1)=false from cb]
    exact bD (A:=True) (hB (by rw[ca,cb];rfl))
   |true =>
    rw[show decide (b∈r.1)=true from cb]
    exact aK (B:=True) ⟨rfl,hA (by rw[ca,cb];rfl)⟩
 ·refine⟨(sp.filter λr=>mb r.1 a&&mb r.1 b).map λr=>decide (2<=r.2),by rw[õ];rfl,rfl,?_⟩
  have:iU sp a b=((sp.filter λr=>mb r.1 a&&mb r.1 b).map λr=>decide (2<=r.2)).all id:=by
   unfold iU
   rw[decide_eq_false c]
   rfl
  rw[this] at q
  exact q
def CK:FnScope ["spares","a","b","taken"] ["spares","a","b","taken"] (ak (top 40)):=zC
def ud:(["some","spare","spares","a","b","taken"]:List Str).Nodup:=by decide +kernel
def Mz(F:Fun K "tied" "tied" (top 40) f fd)(B:ľ mg):FnOk P w K mg base CX0 1 f fd ["spares","a","b","taken"] (spR fTd):=by
 refine F.ok CK nq (λcdv A outer s H vs Q E hr h=>?_)
 have nd:=CK.nd
 refine⟨_,Dl.WR.h (Dl.qN (ŗ ["some","spare"] rfl (ĭ (Í 0)) (λc=>(Wr.fU (n:=2) rfl (Ġ (ú (i:=0) ud rfl zQ) (Ġ (ú (i:=1) ud rfl zQ) Wr.dU)))) (λc=>ń) (λc=>(Č (Â (Í 0) (Â (Wr.jz (Wr.wpt (Wr.mR (Wr.d9 hr.units (Í 3) (Í 0)) (Wr.jx (Wr.d9 hr.units (Í 4) (Í 0))))) (Wr.cX (Í 1) (Í 5)) (Í 1)) Ç)))))),rR h ?_⟩
 rintro ds P ⟨sp,a,b,rfl,ls,q⟩
 refine⟨[.sh (fZ sp),.im (.int a),.im (.int b),.im (.int 2)],rfl,?_⟩
 refine wB sp rwD (λr=>rwD (r.1,if (mb r.1 a&&mb r.1 b)=true then r.2 - 2 else r.2)) .shr rfl (by omega) (λr hr A B hA=>⟨rfl,aK (B:=B) ⟨rfl,d7 r.1,?_⟩⟩) ?_
 ·show if (((r.1.map Ã).any λe=>ý e (.int a)):Bool)=true then _ else _
  rw[ţ]
  cases ca:mb r.1 a with
  |false =>
   rw[show decide (a∈r.1)=false from ca]
   rw[ca] at hA
   exact bD (A:=True) (bD (A:=True) ⟨zK,rfl,hA⟩)
  |true =>
   rw[show decide (a∈r.1)=true from ca]
   refine aK (B:=True) ⟨rfl,d7 r.1,?_⟩
   show if (((r.1.map Ã).any λe=>ý e (.int b)):Bool)=true then _ else _
   rw[ţ]
   cases cb:mb r.1 b with
   |false =>
    rw[show decide (b∈r.1)=false from cb]
    rw[ca,cb] at hA
    exact bD (A:=True) ⟨zK,rfl,hA⟩
   |true =>
    rw[show decide (b∈r.1)=true from cb]
    rw[ca,cb] at hA
    exact aK (B:=True) ⟨zK,rfl,hA⟩
 ·unfold fZ ji at q
  rw[õ] at q
  exact q
def pH:FnScope ["spares","ends","added","a","b"] ["spares","ends"] (ak (top 41)):=zC
def sW:(["v","spares","ends","added","a","b"]:List Str).Nodup:=by decide +kernel
def yw(F:Fun K "tie_ends" "tie_ends" (top 41) f fd)(B:ľ mg)(C_can_be_tied:Ą P w K mg base 1 "can_be_tied" ["spares","a","b","taken"] (spD fCB))(C_tied:Ą P w K mg base 1 "tied" ["spares","a","b","taken"] (spR fTd)):FnOk P w K mg base CX0 2 f fd ["spares","ends"] (spD fTE):=by
 refine F.ok pH ħ (λcdv A outer s H vs Q E hr h=>?_)
 have nd:=pH.nd
 refine⟨_,Ķ (å (ö (some 0) (i:=2) nd rfl zQ (ì Ç))
  (å (Wr.jM Ē (Wr.vo (Í 1)) (å (ö none (i:=3) nd rfl zQ (ė (Í 1) Õ))
  (å (ö none (i:=4) nd rfl zQ (ė (ŗ ["v"] rfl (ĭ (Í 1)) (λc=>(ú (i:=0) sW rfl zQ)) (λc=>(Wr.eZ (Wr.bO (ũ C_can_be_tied hr (Â (Í 1) (Â (Í 4) (Â (Í 0) (Â Õ Ç)))))))) (λc=>(Í 0))) Õ))
  (å (ö none (i:=0) nd rfl zQ (Dl.dcR C_tied hr (Â (Í 0) (Â (Í 3) (Â (Í 4) (Â Õ Ç))))))
  (å (Wr.dX (Wr.wv 2) (Â (Č (Â (Í 3) (Â (Í 4) Ç))) Ç))
  (å (ö (some 1) (i:=1) nd rfl zQ (Wr.mV (Í 1) (ų Õ) Wr.dO))
  (å (Wr.o7 (Wr.wv 1) (Â (Í 4) Ç)) (Ĺ [3,4] Ł))))))))
  (Ĺ [0,1,3,4] (Ĕ (Ĩ (Í 2)))))),aY h ?_⟩
 rintro ds P ⟨sp,es,rfl,ls,le,g,q⟩
 refine⟨[.sh (fZ sp),.sh (iD es),.any,.any,.any],rfl,?_⟩
 refine⟨zK,λm ρ=>∃(sp':Spr) (es':List Int) (ad:List Tie) (g:Nat) (s1:Sl),ρ=[.sh (fZ sp'),s1,.dw 0 (.list (ad.map pD)),.any,.any]/\(s1=.sh (iD es')\/s1=.dw 1 (iD es'))/\sp'.length<=300/\ad.length+es'.length<=100/\ux g sp' es'/\ad++lB g sp' es'=lB es.length sp es/\m=es'.length,⟨_,sp,es,[],es.length,_,rfl,.inl rfl,ls,by simpa using le,g,rfl,rfl⟩,?_⟩
 rintro m ρ ⟨sp',es',ad,g,s1,rfl,hs,ls',le',gd,et,rfl⟩
 cases es' with
 |nil =>
  have e0:lB g sp' []=[]:=by cases g <;> rfl
  rw[e0,ø] at et
  rw[←et] at q
  rcases hs with rfl|rfl
  all_goals exact bD (A:=True) ⟨rfl,q⟩
 |cons a rest =>
  cases g with
  |zero=>exact gd.elim
  |succ g =>
  obtain⟨b,hb,mr,gd⟩:=gd
  have et':lB (g+1) sp' (a::rest)=(a,b)::lB g (ji sp' a b) (rest.erase b):=by
   show(match (a::rest).find? (iU sp' a) with|some b=>_|none=>_)=_
   rw[hb]
  have hx:atI (((a::rest).filter (iU sp' a)).map Ã) 0=some (.int b):=by
   have h1:((a::rest).filter (iU sp' a)).head?=some b:=by rw[List.head?_filter,hb]
   have h2:((a::rest).filter (iU sp' a))[0]?=some b:=by rw[←List.head?_eq_getElem?];exact h1
   exact gC (j:=0) (by rw[è,h2];rfl)
  have h0:atI ((a::rest).map Ã) 0=some (.int a):=gC (j:=0) rfl
  have lt:(ji sp' a b).length=sp'.length:=Á _
  have lre:(rest.erase b).length+1=rest.length:=by
   have:=List.length_erase_of_mem mr
   have:0<rest.length:=List.length_pos_of_mem mr
   omega
  rw[Ù] at le'
  have ec:eG ((a::rest).map Ã) (some 1) none=rest.map Ã:=by
   rw[jP]
   rfl
  rcases hs with rfl|rfl
  all_goals
   refine aK (B:=True) ⟨_,h0,?_⟩
   refine Dy (a::rest) Ã (iU sp' a) Ã .imm rfl (by rw[Ù];omega) (λv hv A B hA hB=>⟨sp',a,v,rfl,ls',?_⟩) ?_
   ·show if iU sp' a v=true then _ else _
    cases c:iU sp' a v with
    |true=>exact aK (B:=True) ⟨rfl,hA c⟩
    |false=>exact bD (A:=True) (hB c)
   refine⟨_,hx,rfl,sp',a,b,rfl,ls',zK,rfl,by rw[Á];omega,?_⟩
   refine .inl ⟨?_,1,rest,?_,mr,?_⟩
   ·rw[ec]
    exact œ rest
   ·rw[ec]
    rfl
   ·refine⟨(rest.erase b).length,by rw[Ù];omega,ji sp' a b,rest.erase b,ad++[(a,b)],g,_,?_,.inr rfl,by omega,by rw[Æ,Ü];omega,gd,by rw[Ż,←et,et'];rfl,rfl⟩
    rw[Þ]
    rfl
end
def endsF(n k:Nat)(us:List Tie):List Int:=if (kE n k (bL n us)).length % 2=1 then 0::kE n k (bL n us) else kE n k (bL n us)
def GZ(n k:Nat)(us:List Tie):List Tie:=lB (endsF n k us).length (aB n k us (endsF n k us)) (endsF n k us)
structure PutsOk(n k:Nat)(us A:List Tie)(F:List (List Int)):Prop where
 fam:uO n (aQ us ((k:Int) - 1)) F
 perm:A.Perm (GZ n k us)
 so:A.Pairwise λa b=>aH a<=aH b
def tQ:∀{l1 l2:List Tie},(∀t∈l1,pC t)->l1.Perm l2->l1.Pairwise (λa b=>aH a<=aH b)->l2.Pairwise (λa b=>aH a<=aH b)->l1=l2
 |[],l2,_,p,_,_=>p.nil_eq
 |a::l1,[],_,p,_,_=>absurd p.length_eq (by simp)
 |a::l1,b::l2,hn,p,s1,s2=>by
  have s1:=Ń.mp s1
  have s2:=Ń.mp s2
  have hb:b∈a::l1:=p.mem_iff.mpr À
  have ha:a∈b::l2:=p.mem_iff.mp À
  have e1:aH a<=aH b:=by
   rcases Ó.mp hb with z|z
   ·rw[z];exact ć _
   ·exact s1.1 b z
  have e2:aH b<=aH a:=by
   rcases Ó.mp ha with z|z
   ·rw[z];exact ć _
   ·exact s2.1 a z
  have e:a=b:=code_inj (hn a À) (hn b hb) (by omega)
  subst e
  rw[tQ (λt ht=>hn t (Ä _ ht)) ((List.perm_cons a).mp p) s1.2 s2.2]
def wU{n k:Nat}{us:List Tie}(n1:1<=n)(n8:n<=8)(k3:k<=3)(hu:RgT n us):RgE n (endsF n k us)/\(endsF n k us).Pairwise (·<=·)/\(endsF n k us).length % 2=0/\(∀X,Cut.Prp n X->k<=Cut.dD us (endsF n k us) X)/\(∀v,2<=(endsF n k us).count v->∃X,Cut.Prp n X/\X v=true/\Cut.dD us (endsF n k us) X<=k+1)/\(endsF n k us).length<=25:=by
 obtain⟨F,so,ln⟩:=Br (k:=k) n1 n8 hu
 have nk:n * k<=24:=Nat.mul_le_mul n8 k3
 unfold endsF
 generalize kE n k (bL n us)=L at F so ln
 split
 ·rename_i c
  have dd:∀X:Int->Bool,Cut.dD us (0::L) X=Cut.dD us L X+(X 0).toNat:=λX=>by
   unfold Cut.dD
   rw[Cut.eO]
   omega
  have bt:∀b:Bool,b.toNat<=1:=by decide
  refine⟨λe he=>?_,.cons (λx hx=>(F.rg x hx).1) so,by rw[Ù];omega,λX hX=>?_,λv hv=>?_,by rw[Ù];omega⟩
  ·rcases Ó.mp he with rfl|he
   ·omega
   ·exact F.rg e he
  ·have:=F.C X hX
   rw[dd]
   omega
  ·have mv:v∈L:=by
    apply Ć
    intro hn
    have h0:=List.count_eq_zero.mpr hn
    rw[List.count_cons,h0] at hv
    split at hv <;> omega
   obtain⟨X,x1,x2,x3⟩:=F.tg v mv
   refine⟨X,x1,x2,?_⟩
   have:=bt (X 0)
   rw[dd]
   omega
 ·rename_i c
  refine⟨F.rg,so,by omega,F.C,λv hv=>?_,by omega⟩
  have mv:v∈L:=List.count_pos_iff.mp (by omega)
  obtain⟨X,x1,x2,x3⟩:=F.tg v mv
  exact⟨X,x1,x2,by omega⟩
def K8{n k:Nat}{us:List Tie}(n1:1<=n)(n8:n<=8)(k2:2<=k)(k3:k<=3)(hu:RgT n us):ux (endsF n k us).length (aB n k us (endsF n k us)) (endsF n k us)/\(GZ n k us).length * 2=(endsF n k us).length/\(∀t∈GZ n k us,0<=t.1/\t.1<t.2/\t.2<(n:Int))/\∀X,Cut.Prp n X->k<=Cut.dg (GZ n k us++us) X:=by
 obtain⟨e1,e2,e3,e4,e5,e6⟩:=wU (k:=k) n1 n8 k3 hu
 exact Hl n1 n8 k2 _ us _ (É _) hu e1 e2 e3 e4 e5
def T5{L out:List Int}(so:L.Pairwise (·<=·))(h0:∀x∈L,0<=x)(hp:out.Perm (L++[0]))(hs:out.Pairwise (·<=·)):out=0::L:=by
 have p2:out.Perm (0::L):=hp.trans (List.perm_append_comm (l₁:=L) (l₂:=[0]))
 have s2:(0::L).Pairwise (·<=·):=.cons h0 so
 exact p2.eq_of_pairwise (le:=λa b:Int=>a<=b) (λa b _ _ h1 h2=>Int.le_antisymm h1 h2) hs s2
def Pz(ds:List D)(P:D->Prop):Prop:=∃(n k:Nat) (us:List Tie),ds=[aV ((n:Nat):Int) us,.int ((k:Int) - 1)]/\1<=n/\n<=8/\2<=k/\k<=3/\us.length<=100/\RgT n us/\∀A F,PutsOk n k us A F->P (.tuple [.list (A.map pD),.list (F.map iD)])
section
variable {P:Program}{w:World}{K:Ú}{mg:Str->Option Value}{base:Heap}{f:Addr}{fd:FuncData}{CN PT:Addr}
def CQ:FnScope ["web","falls","rows","ends","added"] ["web","falls"] (ak (top 42)):=zC
def FJ:(["some","web","falls","rows","ends","added"]:List Str).Nodup:=by decide +kernel
def MJ(F:Fun K "puts" "puts" (top 42) f fd)(B:ľ mg)(C_proper_sets:Ą P w K mg base 2 "proper_sets" ["n"] (spD fPS))(C_leaving:Ą P w K mg base 7 "leaving" ["web","some"] (spD Ka))(C_fewest_ends:Ą P w K mg base 2 "fewest_ends" ["n","rows","most"] (spD fFE))(C_tie_ends:Ą P w K mg base 2 "tie_ends" ["spares","ends"] (spD fTE))(C_with_spares:Ą P w K mg base 1 "with_spares" ["rows","ends","most"] (spR fWS))(C_best_family:Ą P w K mg base 11 "best_family" ["web","falls"] (spT (bZ PT) Ke)):FnOk P w K mg base CX0 12 f fd ["web","falls"] (spT (bZ PT) Pz):=by
 refine F.ok CQ Dv (λcdv A outer s H vs Q E hr h=>?_)
 have nd:=CQ.nd
 letI:=grU (bZ PT)
 refine⟨_,Ķ (å (Wr.yX none ["some"] (i:=2) rfl nd rfl zQ (ĭ (ũ C_proper_sets hr (Â (ė (Í 0) Õ) Ç))) (λc=>(ú (i:=0) FJ rfl zQ)) (λc=>ń) (λc=>(Č (Â (Í 0) (Â (ũ C_leaving hr (Â (Í 1) (Â (Í 0) Ç))) Ç)))))
  (å (ö none (i:=3) nd rfl zQ (ũ C_fewest_ends hr (Â (ė (Í 0) Õ) (Â (Í 2) (Â (ë (Í 1) Õ) Ç)))))
  (å (Wr.cU (Wr.vp hr.units (Wr.Ao (Wr.fK B.len (Â (Í 3) Ç)) Õ) Õ) (Ĕ (ö none (i:=3) nd rfl zQ (Wr.mU B.sorted (Â (ë (Í 3) (ì (Â Õ Ç))) Ç)))) Ł)
  (å (ö none (i:=4) nd rfl zQ (ũ C_tie_ends hr (Â (Dl.dcR C_with_spares hr (Â (Í 2) (Â (Í 3) (Â (ë (Í 1) Õ) Ç)))) (Â (Í 3) Ç))))
  (Ĕ (Ĩ (Č (Â (Wr.gR B.sorted (Â (Í 4) Ç)) (Â (Wr.dcU C_best_family hr (Â (Í 0) (Â (Í 1) Ç))) Ç))))))))),Sq h ?_⟩
 rintro ds P ⟨n,k,us,rfl,n1,n8,k2,k3,lu,hu,q⟩
 refine⟨[.im (aV ((n:Nat):Int) us),.im (.int ((k:Int) - 1)),.any,.any,.any],by show [bI (aV _ us),_,_,_,_]=_;rw[cI];rfl,?_⟩
 have lr:=yc n1 n8 us
 obtain⟨g1,g2,g3,g4⟩:=K8 n1 n8 k2 k3 hu
 obtain⟨e1,e2,e3,e4,e5,e6⟩:=wU (k:=k) n1 n8 k3 hu
 obtain⟨F,so,ln⟩:=Br (k:=k) n1 n8 hu
 have nk:n * k<=24:=Nat.mul_le_mul n8 k3
 have ek:(k:Int) - 1+1=(k:Int):=by omega
 refine⟨_,rfl,n,rfl,n1,n8,?_⟩
 refine wB (psN n) iD (λl=>rwD (l,(((us.filter (lv l)).length:Nat):Int))) .snw rfl (by unfold bL at lr;rw[Á] at lr;omega) (λl hl A B hA=>aK (B:=B) ⟨((n:Nat):Int),us,l,rfl,iM n1 n8 hl,lu,zK,rfl,hA⟩) ?_
 have er:ÿ ((psN n).map λl=>rwD (l,(((us.filter (lv l)).length:Nat):Int)))=fZ (bL n us):=by
  unfold fZ bL
  rw[õ]
  rfl
 rw[er]
 have fin:rY (wY 4 none (tFn fTE (bM (TJ fWS (bM (tV 2) (bM (tV 3) (bM (t2 yS (tV 1) (tK (Ã 1))) iy)))) (bM (tV 3) iy)))) (Gx (zZ (bM (tCl wK (bM (tV 4) iy)) (bM (Lj Ke (bM (tV 0) (bM (tV 1) iy))) iy)))) { nx:=λ_=>P .none,rt:=P } [.im (aV ((n:Nat):Int) us),.im (.int ((k:Int) - 1)),.sn (fZ (bL n us)),.sn (iD (endsF n k us)),.any]:=by
  have gs:ux (endsF n k us).length (xT (bL n us) (endsF n k us) ((k:Int) - 1+1)) (endsF n k us):=by rw[ek,uW];exact g1
  refine⟨rfl,bL n us,endsF n k us,(k:Int) - 1+1,rfl,by omega,by omega,xT (bL n us) (endsF n k us) ((k:Int) - 1+1),endsF n k us,rfl,by rw[Cy];omega,by omega,gs,?_⟩
  rw[ek,uW]
  refine⟨GZ n k us,.inl rfl,by omega,λt ht=>?_,λA hp hs=>⟨((n:Nat):Int),us,(k:Int) - 1,rfl,by omega,by omega,lu,λout ho=>⟨zK,?_,?_⟩⟩⟩
  ·have:=g3 t ht
   exact⟨by omega,by omega⟩
  ·rfl
  ·rw[Ø] at ho
   exact q A out ⟨ho,hp,hs⟩
 refine⟨_,rfl,n,k,us,by rw[ek];rfl,n1,n8,k3,hu,(show(0:Int)<2 by decide),?_⟩
 show if decide ((((kE n k (bL n us)).map Ã).length:Nat) % (2:Int)=1)=true then _ else _
 rw[Á]
 by_cases c:(kE n k (bL n us)).length % 2=1
 ·rw[decide_eq_true (by omega)]
  refine aK (B:=True) ⟨zK,?_,.inr ⟨kE n k (bL n us)++[0],?_,?_,λout hp hs=>?_⟩⟩
  ·rw[Á]
   show _+1<=1000
   omega
  ·rw[Þ]
   rfl
  ·rw[Æ,Ü]
   omega
  ·have eo:=T5 so (λx hx=>(F.rg x hx).1) hp hs
   have ee:out=endsF n k us:=by
    unfold endsF
    rw[if_pos c]
    exact eo
   subst ee
   exact fin
 ·rw[decide_eq_false (by omega)]
  have ee:kE n k (bL n us)=endsF n k us:=by
   unfold endsF
   rw[if_neg c]
  refine bD (A:=True) ?_
  rw[ee]
  exact fin
end
def Ab{n:Nat}{us:List Tie}{fa:Int}(n1:1<=n)(n8:n<=8)(hu:RgT n us):nU ((n:Nat):Int) us fa↔∀X,Cut.Prp n X->fa<((Cut.dg us X:Nat):Int):=by
 obtain⟨m,rfl⟩:∃m,n=m+1:=⟨n - 1,by omega⟩
 rw[uV (λt ht=>hu t ht)]
 constructor
 ·intro h X hX
  obtain⟨q,q0,q1,e,_⟩:=wO n8 hX
  have:=h q q0 q1
  rw[Du,e,Eh,Kv hu λv hv=>lU hv] at this
  exact this
 ·intro h q q0 q1
  rw[Du,Eh]
  exact h _ (oJ n1 n8 (qF (W:=λ_=>0) q0 q1).2)
def Em(l:List Int)(h:1<=l.length):eG (l.map Ã) none (some 1)=(l.take 1).map Ã:=by
 have e:=uD (l.map Ã) (m:=1) (by omega) (by rw[Á];omega)
 rw[e,List.map_take]
 rfl
def KC(l:List Int)(h:1<=l.length):eG (l.map Ã) (some (-1)) none=(l.drop (l.length - 1)).map Ã:=by
 unfold eG
 have e1:HT.sIx (l.map Ã).length 0 (some (-1))=l.length - 1:=by
  show(if (-1:Int)<0 then ((-1:Int)+(((l.map Ã).length:Nat):Int)).toNat else min (-1:Int).toNat (l.map Ã).length)=_
  rw[if_pos (by decide),Á]
  omega
 have e3:HT.sIx (l.map Ã).length (l.map Ã).length none=(l.map Ã).length:=rfl
 rw[e1,e3,Ő,Ÿ]
 rw[û]
 exact É _
def JT(l:List Int)(n:Int):cJ (l.map Ã++[Ã n])=true:=by
 have:=œ (l++[n])
 rw[Þ] at this
 exact this
def noA(n:Int)(l:List Int):List D:=[.list [],.list (fQ 0 (n - 0).toNat),.tuple (l.map .int),.list (l.map .int++(l.take 1).map .int),.list (l.map .int++(l.drop (l.length - 1)).map .int),.list [.int 1,.int 0],.list [.int 0,.int 0],.list (l.map .int++[.int n])]
def noB(l:List Int):List D:=[.list ([.int (-1)]++l.map .int),.list [.bool true],.list [.bool false],.list [.none],.list [.str "0"],.list [.list [.int 0]],.list [.tuple [.int 0]],.list [.list (l.map .int)],.list [.dict []],.none,.int 0,.bool true,.str ""]
def noC(n:Int):List D:=[.str "01",.dict [],.tuple [],.list [.int n],.list [.int (10 ^ (29:Int).toNat)],.list [.int (0 - 10 ^ (29:Int).toNat)],.dict (kvD [(0,.bool true)]),.list (fQ 0 ((300:Int) - 0).toNat),.list (È (300:Int).toNat [Ã 0]).flatten]
def iK(n:Int)(l:List Int):List D:=((noA n l++noB l)++noC n)++[.list ((l.take 1).map .int++[.none])]
def fNS(ds:List D)(P:D->Prop):Prop:=∃(n:Int) (l:List Int),ds=[.int n,iD l]/\1<=n/\n<=8/\1<=l.length/\l.length<=16/\P (.list (iK n l))
section
variable {P:Program}{w:World}{K:Ú}{mg:Str->Option Value}{base:Heap}{f:Addr}{fd:FuncData}
def jm:FnScope ["_law_n","_law_some","_law_found"] ["_law_n","_law_some"] (ak (top 50)):=zC
def q9(F:Fun K "_law_no_sets" "_law_no_sets" (top 50) f fd)(B:ľ mg):FnOk P w K mg base CX0 1 f fd ["_law_n","_law_some"] (spR fNS):=by
 refine F.ok jm nq (λcdv A outer s H vs Q E hr h=>?_)
 have nd:=jm.nd
 refine⟨_,Dl.WR.h (Œ (ö none (i:=2) nd rfl zQ (ì (Â (ì Ç) (Â (Wr.iI rfl B.list B.range (Â (Í 0) Ç)) (Â (Wr.gq B.tuple (Â (Í 1) Ç)) (Â (ë (Í 1) (Wr.mV (Í 1) Wr.dO (ų Õ))) (Â (ë (Í 1) (Wr.mV (Í 1) (ų (Wr.gG Õ)) Wr.dO)) (Wr.dZ 2 ["_law_n","_law_some","_law_found"] (ak (top 50)) (.cons (.lst (.cons (.int 1) (.cons (.int 0) .nil))) (.cons (.lst (.cons (.int 0) (.cons (.int 0) .nil))) .nil)) (Â (ë (Í 1) (ì (Â (Í 0) Ç))) Ç) (by decide +kernel)))))))))
  (Œ (ö none (i:=2) nd rfl zQ (ë (Í 2) (ì (Â (ë (ì (Â (Wr.gG Õ) Ç)) (Í 1)) (Wr.dZ 12 ["_law_n","_law_some","_law_found"] (ak (top 50)) (.cons (.lst (.cons (.bl true) .nil)) (.cons (.lst (.cons (.bl false) .nil)) (.cons (.lst (.cons .non .nil)) (.cons (.lst (.cons (.str "0") .nil)) (.cons (.lst (.cons (.lst (.cons (.int 0) .nil)) .nil)) (.cons (.lst (.cons (.tup (.cons (.int 0) .nil)) .nil)) (.cons (.lst (.cons (.var 1) .nil)) (.cons (.lst (.cons .dct .nil)) (.cons .non (.cons (.int 0) (.cons (.bl true) (.cons (.str "") .nil)))))))))))) Ç (by decide +kernel))))))
  (Œ (ö none (i:=2) nd rfl zQ (ë (Í 2) (ì (Wr.dZ 4 ["_law_n","_law_some","_law_found"] (ak (top 50)) (.cons (.str "01") (.cons .dct (.cons (.tup .nil) (.cons (.lst (.cons (.var 0) .nil)) .nil)))) (Â (ì (Â (Wr.qU Õ Õ) Ç)) (Â (ì (Â (Wr.cX Õ (Wr.qU Õ Õ)) Ç)) (Â (Wr.qW Õ Wr.gU) (Â (Wr.iI rfl B.list B.range (Â Õ Ç)) (Â (Wr.gQ (ì (Â Õ Ç)) Õ) Ç))))) (by decide +kernel)))))
  (Dl.qN (ë (Í 2) (ì (Â (ë (Wr.mV (Í 1) Wr.dO (ų Õ)) (ì (Â Wr.lH Ç))) Ç))))))),rR h ?_⟩
 rintro ds P ⟨n,l,rfl,n1,n8,l1,l16,q⟩
 refine⟨[.im (.int n),.sh (iD l),.any],rfl,?_⟩
 have ll:(l.map Ã).length=l.length:=Á ..
 have i1:=œ l
 have en:∀k,norm k (č (l.map Ã))=.imm:=λk=>ř i1
 have c1:=Em l l1
 have c2:=KC l l1
 have lt1:((l.take 1).map Ã).length<=1:=by rw[Á,ă];omega
 have ld1:((l.drop (l.length - 1)).map Ã).length<=1:=by rw[Á,û];omega
 refine⟨zK,⟨by omega,by omega⟩,.inl ⟨by rw[c1];exact œ _,by rw[c1];omega,.inl ⟨by rw[c1,←Þ];exact œ _,?_⟩⟩⟩
 refine .inl ⟨by rw[c2];exact œ _,by rw[c2];omega,.inl ⟨by rw[c2,←Þ];exact œ _,?_⟩⟩
 refine⟨_,rfl,zK,(show(l.map Ã).length+1<=1000 by omega),.inl ⟨JT l n,zK,?_⟩⟩
 simp only[en,c1,c2]
 refine⟨zK,(show 1+(l.map Ã).length<=1000 by omega),.inl ⟨œ ((-1)::l),_,rfl,zK,zK,.inr ?_⟩⟩
 refine⟨_,rfl,⟨by decide,by decide,by decide⟩,zK,⟨by decide,by decide,by decide⟩,zK,rfl,⟨by decide,by decide⟩,zK,by decide,by decide,(show 1 * 300<=1000 by decide),.inl ⟨rfl,zK,zK,.inr ?_⟩⟩
 refine .inl ⟨by rw[c1];exact œ _,zK,by rw[c1];exact(show((l.take 1).map Ã).length+1<=1000 by omega),.inl ⟨?_,zK,zK,.inr ?_⟩⟩
 ·rw[c1]
  cases l with
  |nil=>rfl
  |cons x l=>rfl
 ·rw[c1]
  exact q
end
def CW:∀{l:List Int},mK l=true->l.Pairwise (·<·)
 |[],_=>.nil
 |[a],_=>by simp
 |a::b::r,h=>by
  have h:(decide (a<b)&&mK (b::r))=true:=h
  rw[Ë,decide_eq_true_eq] at h
  have ih:=CW h.2
  refine List.pairwise_cons.mpr ⟨λx hx=>?_,ih⟩
  rcases Ó.mp hx with rfl|hx
  ·exact h.1
  ·have:=(Ń.mp ih).1 x hx
   omega
def Ij{n:Int}{d:D}(n16:n<=16)(h:aG n d=true):∃l:List Int,d=iD l/\Proper n l:=by
 unfold aG at h
 rw[Ë] at h
 cases d with
 |list es =>
  have h1:(es.all (aN n)&&mK (es.map toI))=true:=h.1
  rw[Ë] at h1
  have h2:(decide ((1:Int)<=(es.length:Nat))&&decide (((es.length:Nat):Int)<n))=true:=h.2
  rw[Ë,decide_eq_true_eq,decide_eq_true_eq] at h2
  have ei:=ints_of h1.1
  refine⟨es.map toI,congrArg _ ei,by rw[Á];omega,by rw[Á];omega,λx hx=>?_,CW h1.2,n16⟩
  obtain⟨e,he,rfl⟩:=Ý.mp hx
  have hb:=ü.mp h1.1 e he
  obtain⟨i,rfl⟩:=fD hb
  exact of_decide_eq_true hb
 |_=>cases h.1
def Bk{a b:List Int}(h:iD a=iD b):a=b:=by
 have e:ÿ (a.map Ã)=.list (b.map .int):=h
 injection e with e
 have:=congrArg (Ĥ toI) e
 rwa [mj,mj] at this
def np{n:Int}{d:D}(n16:n<=16)(h:∀l',d=iD l'->Proper n l'->False):aG n d=false:=by
 cases hb:aG n d with
 |false=>rfl
 |true=>obtain⟨l',e,p⟩:=Ij n16 hb;exact(h l' e p).elim
def cu{n:Int}{es:List D}{e:D}(n16:n<=16)(he:e∈es)(hb:∀i:Int,e=.int i->¬(0<=i/\i<n)):aG n (.list es)=false:=np n16 λl' e' p=>by
 have e':ÿ es=.list (l'.map Ã):=e'
 injection e' with e'
 rw[e'] at he
 obtain⟨i,hi,e2⟩:=Ý.mp he
 exact hb i e2.symm (p.rng i hi)
def vZ{n:Int}{a:List Int}(n16:n<=16)(h:¬a.Pairwise (·<·)):aG n (.list (a.map Ã))=false:=np n16 λl' e p=>h (Bk (a:=a) e ▸ p.rise)
def vW{n:Int}{es:List D}(n16:n<=16)(h:n<=(es.length:Nat)):aG n (.list es)=false:=np n16 λl' e' p=>by
 have e':ÿ es=.list (l'.map Ã):=e'
 injection e' with e'
 rw[e',Á] at h
 have:=p.few
 omega
def Sh(k m:Nat)(d:D):Prop:=d.showable=true/\d.leavesShort 40=true/\d.depth<=k/\d.bulk<=m
instance (k m:Nat)(d:D):Decidable (Sh k m d):=by unfold Sh;exact inferInstance
def Sh.mono{k m k' m':Nat}{d:D}(h:Sh k m d)(h1:k<=k')(h2:m<=m'):Sh k' m' d:=⟨h.1,h.2.1,î h.2.2.1 h1,î h.2.2.2 h2⟩
def Sh.int{k m:Nat}{i:Int}(h0:-1000<=i)(h1:i<=1000):Sh k m (.int i):=by
 refine⟨?_,?_,ô _,ô _⟩
 ·simp only[PyData.showable,decide_eq_true_eq]
  have:=Nat.log2_le_self i.natAbs
  omega
 ·simp only[PyData.leavesShort,decide_eq_true_eq]
  have:=PyData.shown_int_le (i:=i) (by omega)
  omega
def Ae{k m:Nat}:∀{ds:List D},(∀d∈ds,Sh k m d)->PyData.showableAll ds=true/\PyData.leavesShortAll 40 ds=true/\ī ds<=k/\PyData.bulkAll ds<=ds.length * (m+1)
 |[],_=>⟨rfl,rfl,ô _,ô _⟩
 |d::ds,h=>by
  obtain⟨h1,h2,h3,h4⟩:=Ae (ds:=ds) λe he=>h e (Ä _ he)
  obtain⟨g1,g2,g3,g4⟩:=h d À
  refine⟨?_,?_,?_,?_⟩
  ·show(d.showable&&PyData.showableAll ds)=true
   rw[g1,h1];rfl
  ·show(d.leavesShort 40&&PyData.leavesShortAll 40 ds)=true
   rw[g2,h2];rfl
  ·show max d.depth (ī ds)<=k
   omega
  ·show d.bulk+1+PyData.bulkAll ds<=(ds.length+1) * (m+1)
   rw[Nat.add_mul]
   omega
def Sh.list{k m c:Nat}{ds:List D}(h:∀d∈ds,Sh k m d)(hc:ds.length * (m+1)<=c):Sh (k+1) c (.list ds):=by
 obtain⟨h1,h2,h3,h4⟩:=Ae h
 exact⟨h1,h2,Nat.succ_le_succ h3,î h4 hc⟩
def Sh.tuple{k m c:Nat}{ds:List D}(h:∀d∈ds,Sh k m d)(hc:ds.length * (m+1)<=c):Sh (k+1) c (.tuple ds):=by
 obtain⟨h1,h2,h3,h4⟩:=Ae h
 exact⟨h1,h2,Nat.succ_le_succ h3,î h4 hc⟩
def Sh.ok{k m:Nat}{d:D}(h:Sh k m d)(hk:k<=50)(hm:m<=100000):Jm d:=by
 obtain⟨h1,h2,h3,h4⟩:=h
 refine⟨h1,by omega,?_⟩
 have b:=PyData.shown_le_bulk 40 (by decide) d h2
 have h24:=é
 have:(40+2) * d.bulk<=42 * 100000:=Nat.mul_le_mul (by decide) (by omega)
 omega
def fmn{p:D->Prop}:∀x∈([]:List D),p x:=λ_ h=>nomatch h
def fmc{p:D->Prop}{a:D}{l:List D}(h:p a)(t:∀x∈l,p x):∀x∈a::l,p x:=λx hx=>(Ó.mp hx).elim (λe=>e ▸ h) (t x)
def fma{p:D->Prop}{a b:List D}(h:∀x∈a,p x)(t:∀x∈b,p x):∀x∈a++b,p x:=λx hx=>(ä.mp hx).elim (h x) (t x)
def iB{k m:Nat}{l:List Int}(h:∀x∈l,-1000<=x/\x<=1000):∀d∈l.map Ã,Sh k m d:=λd hd=>by
 obtain⟨x,hx,rfl⟩:=Ý.mp hd
 exact Sh.int (h x hx).1 (h x hx).2
def Hx{k m c:Nat}(hc:c<=1000):∀d∈fQ 0 c,Sh k m d:=λd hd=>by
 unfold fQ at hd
 obtain⟨x,hx,rfl⟩:=Ý.mp hd
 have:=ċ.mp hx
 exact Sh.int (by omega) (by omega)
structure Bad(n:Int)(d:D):Prop where
 np:aG n d=false
 few:Few d
 sh:Sh 3 1000 d
def Bad.list{n:Int}{es:List D}(h:aG n (.list es)=false)(hl:es.length<=400){m:Nat}(hs:∀d∈es,Sh 2 m d)(hm:es.length * (m+1)<=1000):Bad n (.list es) :=
 ⟨h,λes' e=>by injection e with e;rw[←e];exact hl,Sh.list hs hm⟩
def Bad.odd{n:Int}{d:D}(h:∀es,d≠.list es)(n16:n<=16)(hs:Sh 3 1000 d):Bad n d:=⟨Nf.np n16 λl' e _=>h _ e,λes e=>(h es e).elim,hs⟩
structure LS(n:Int)(l:List Int):Prop where
 one:1<=l.length
 few:l.length<=16
 rng:∀x∈l,0<=x/\x<n
 rise:l.Pairwise (·<·)
def yF{n:Int}{l:List Int}(n1:1<=n)(n8:n<=8)(h:LS n l):∀b∈iK n l,Bad n b:=by
 have n16:n<=16:=by omega
 have h1:=h.one
 have h2:=h.few
 have sl:∀x∈l,-1000<=x/\x<=1000:=λx hx=>by have:=h.rng x hx;omega
 have ll:(l.map Ã).length=l.length:=Á ..
 have si:∀{k m:Nat},∀d∈l.map Ã,Sh k m d:=iB sl
 have st:∀{k m:Nat},∀d∈(l.take 1).map Ã,Sh k m d:=iB λx hx=>sl x (ş hx)
 have sd:∀{k m:Nat},∀d∈(l.drop (l.length - 1)).map Ã,Sh k m d:=iB λx hx=>sl x (Š hx)
 have lt:((l.take 1).map Ã).length<=1:=by rw[Á,ă];omega
 have ld:((l.drop (l.length - 1)).map Ã).length<=1:=by rw[Á,û];omega
 have i1:∀{k m:Nat}{i:Int},-1000<=i->i<=1000->∀d∈[Ã i],Sh k m d:=λa b=>fmc (Sh.int a b) fmn
 have d1:aG n (.list (l.map Ã++(l.take 1).map Ã))=false:=by
  rw[←Þ]
  refine vZ n16 λz=>?_
  cases l with
  |nil=>exact absurd h1 (by decide)
  |cons x r =>
   have:=(Ş.mp z).2.2 x À x À
   omega
 have d2:aG n (.list (l.map Ã++(l.drop (l.length - 1)).map Ã))=false:=by
  rw[←Þ]
  refine vZ n16 λz=>?_
  have hlt:l.length - 1<l.length:=by omega
  have hm:l[l.length - 1]∈l.drop (l.length - 1):=by rw[Ŧ hlt];exact À
  have:=(Ş.mp z).2.2 _ (Ħ hlt) _ hm
  omega
 have z:((10:Int) ^ (29:Int).toNat)=100000000000000000000000000000:=by decide +kernel
 have lr:(fQ 0 (n - 0).toNat).length=(n - 0).toNat:=Ň ..
 refine fma (fma (fma ?_ ?_) ?_) ?_
 ·exact fmc (Bad.list (np n16 λl' e p=>by
    have:=p.one
    rw[←Bk (a:=[]) e] at this
    exact absurd this (by decide)) (ô _) (m:=0) fmn (ô _))
   (fmc (Bad.list (vW n16 (by rw[lr];omega)) (by rw[lr];omega) (m:=0) (Hx (by omega)) (by rw[lr];omega))
   (fmc (Bad.odd (λ_ e=>by cases e) n16 (Sh.tuple (k:=2) (m:=0) si (by omega)))
   (fmc (Bad.list d1 (by rw[Æ];omega) (m:=0) (fma si st) (by rw[Æ];omega))
   (fmc (Bad.list d2 (by rw[Æ];omega) (m:=0) (fma si sd) (by rw[Æ];omega))
   (fmc (Bad.list (vZ (a:=[1,0]) n16 (by decide)) (by decide) (m:=0) (by decide +kernel) (by decide))
   (fmc (Bad.list (vZ (a:=[0,0]) n16 (by decide)) (by decide) (m:=0) (by decide +kernel) (by decide))
   (fmc (Bad.list (cu (e:=.int n) n16 (â _ À) λi e=>by injection e;omega) (by rw[Æ,ll];exact(show l.length+1<=400 by omega)) (m:=0) (fma si (i1 (by omega) (by omega))) (by rw[Æ,ll];exact(show(l.length+1) * 1<=1000 by omega))) fmn)))))))
 ·exact fmc (Bad.list (cu (e:=.int (-1)) n16 (Ě _ À) λi e=>by injection e;omega) (by rw[Æ,ll];exact(show 1+l.length<=400 by omega)) (m:=0) (fma (i1 (by decide) (by decide)) si) (by rw[Æ,ll];exact(show(1+l.length) * 1<=1000 by omega)))
   (fmc (Bad.list (cu (e:=.bool true) n16 À λi e=>by cases e) (by decide) (m:=0) (by decide +kernel) (by decide))
   (fmc (Bad.list (cu (e:=.bool false) n16 À λi e=>by cases e) (by decide) (m:=0) (by decide +kernel) (by decide))
   (fmc (Bad.list (cu (e:=.none) n16 À λi e=>by cases e) (by decide) (m:=0) (by decide +kernel) (by decide))
   (fmc (Bad.list (cu (e:=.str "0") n16 À λi e=>by cases e) (by decide) (m:=1) (by decide +kernel) (by decide))
   (fmc (Bad.list (cu (e:=.list [.int 0]) n16 À λi e=>by cases e) (by decide) (m:=1) (by decide +kernel) (by decide))
   (fmc (Bad.list (cu (e:=.tuple [.int 0]) n16 À λi e=>by cases e) (by decide) (m:=1) (by decide +kernel) (by decide))
   (fmc (Bad.list (cu (e:=.list (l.map .int)) n16 À λi e=>by cases e) (show 1<=400 by decide) (m:=16) (fmc (Sh.list (k:=1) (m:=0) si (by omega)) fmn) (show 1 * 17<=1000 by decide))
   (fmc (Bad.list (cu (e:=.dict []) n16 À λi e=>by cases e) (by decide) (m:=0) (by decide +kernel) (by decide))
   (fmc (Bad.odd (λ_ e=>by cases e) n16 (by decide +kernel))
   (fmc (Bad.odd (λ_ e=>by cases e) n16 (by decide +kernel))
   (fmc (Bad.odd (λ_ e=>by cases e) n16 (by decide +kernel))
   (fmc (Bad.odd (λ_ e=>by cases e) n16 (by decide +kernel)) fmn))))))))))))
 ·exact fmc (Bad.odd (λ_ e=>by cases e) n16 (by decide +kernel))
   (fmc (Bad.odd (λ_ e=>by cases e) n16 (by decide +kernel))
   (fmc (Bad.odd (λ_ e=>by cases e) n16 (by decide +kernel))
   (fmc (Bad.list (cu (e:=.int n) n16 À λi e=>by injection e;omega) (show 1<=400 by decide) (m:=0) (i1 (by omega) (by omega)) (show 1 * 1<=1000 by decide))
   (fmc (Bad.list (cu (e:=.int (10 ^ (29:Int).toNat)) n16 À λi e=>by injection e with e;omega) (by decide) (m:=0) (by decide +kernel) (by decide))
   (fmc (Bad.list (cu (e:=.int (0 - 10 ^ (29:Int).toNat)) n16 À λi e=>by injection e with e;omega) (by decide) (m:=0) (by decide +kernel) (by decide))
   (fmc (Bad.odd (λ_ e=>by cases e) n16 (by decide +kernel))
   (fmc (Bad.list (vW n16 (by rw[Ň];omega)) (by rw[Ň];decide) (m:=0) (Hx (by decide)) (by rw[Ň];decide))
   (fmc (Bad.list (vW n16 (by rw[show(È (300:Int).toNat [Ã 0]).flatten.length=300 by decide +kernel];omega)) (by decide +kernel) (m:=0) (λd hd=>by
    obtain⟨a,ha,hd⟩:=List.mem_flatten.mp hd
    rw[(Ĵ.mp ha).2] at hd
    rw[ï.mp hd]
    exact Sh.int (by decide) (by decide)) (by decide +kernel)) fmn))))))))
 ·exact fmc (Bad.list (cu (e:=.none) n16 (â _ À) λi e=>by cases e) (by rw[Æ];exact(show((l.take 1).map Ã).length+1<=400 by omega)) (m:=0) (fma st (by decide +kernel)) (by rw[Æ];exact(show(((l.take 1).map Ã).length+1) * 1<=1000 by omega))) fmn
def GdN(n:Nat)(A:List Tie):Prop:=∀t∈A,(0<=t.1/\t.1<(n:Int))/\(0<=t.2/\t.2<(n:Int))/\t.1≠t.2
def Tc(A:List Tie):Prop:=A.Pairwise λa b=>aH a<=aH b
def Ahd(A:List Tie):Prop:=∀t∈A,t.1<t.2
def Ci(n:Int)(F:List (List Int)):Prop:=(∀l∈F,Proper n l)/\F.flatten.Nodup
def V5(n k:Nat)(us A:List Tie)(F:List (List Int)):Prop:=(Tc A/\Ahd A)/\Ci ((n:Nat):Int) F/\((A.length:Nat):Int)<=((F.map (aQ us ((k:Int) - 1))).sum+1) / 2/\∀X,Cut.Prp n X->(k:Int) - 1<((Cut.dg (us++A) X:Nat):Int)
def GdN.rg{n:Nat}{A:List Tie}(h:GdN n A):RgT n A:=λt ht=>by have:=h t ht;exact⟨⟨by omega,by omega⟩,by omega,by omega⟩
def GdN.nice{n:Nat}{A:List Tie}(h:GdN n A)(n8:n<=8):∀t∈A,pC t:=λt ht=>by have:=h t ht;exact⟨by omega,by omega⟩
def pO(n:Int):D->Bool
 |.tuple [a,b]=>aN n a&&(aN n b&&!decide (toI a=toI b))
 |_=>false
def Qj{n:Nat}{d:D}(h:pO ((n:Nat):Int) d=true):∃t:Tie,d=pD t/\(0<=t.1/\t.1<(n:Int))/\(0<=t.2/\t.2<(n:Int))/\t.1≠t.2:=by
 unfold pO at h
 split at h
 ·rename_i a b
  rw[Ë,Ë] at h
  obtain⟨i,rfl⟩:=fD h.1
  obtain⟨j,rfl⟩:=fD h.2.1
  refine⟨(i,j),rfl,of_decide_eq_true h.1,of_decide_eq_true h.2.1,λz=>?_⟩
  have z:i=j:=z
  have h2:(!decide (i=j))=true:=h.2.2
  rw[decide_eq_true z] at h2
  cases h2
 ·cases h
def Cp{n:Nat}{t:Tie}(h:(0<=t.1/\t.1<(n:Int))/\(0<=t.2/\t.2<(n:Int))/\t.1≠t.2):pO ((n:Nat):Int) (pD t)=true:=by
 show(decide (0<=t.1/\t.1<(n:Int))&&(decide (0<=t.2/\t.2<(n:Int))&&!decide (t.1=t.2)))=true
 rw[decide_eq_true h.1,decide_eq_true h.2.1,decide_eq_false h.2.2]
 rfl
def Lf{n:Nat}{es:List D}(h:es.all (pO ((n:Nat):Int))=true):∃A:List Tie,es=A.map pD/\GdN n A:=by
 have al:=ü.mp h
 clear h
 induction es with
 |nil=>exact⟨[],rfl,λt ht=>nomatch ht⟩
 |cons a es ih =>
  obtain⟨A,rfl,g⟩:=ih λx hx=>al x (Ä _ hx)
  obtain⟨t,rfl,ht⟩:=Qj (al a À)
  exact⟨t::A,rfl,λu hu=>by
   rcases Ó.mp hu with rfl|hu
   ·exact ht
   ·exact g u hu⟩
def vM{A B:List Tie}(h:ÿ (A.map pD)=.list (B.map pD)):A=B:=by
 injection h with h
 have e:∀L:List Tie,(L.map pD).map (λd=>match d with|.tuple [.int a,.int b]=>(a,b)|_=>(0,0))=L:=λL=>by
  rw[õ]
  exact List.map_id'' (λ_=>rfl) L
 rw[←e A,h,e B]
def G4(d:D):Prop:=∀es,d=.list es->es.length<=60
def LdP(n:Nat)(d:D):Prop:=∃A:List Tie,d=.list (A.map pD)/\GdN n A/\Tc A
def AdP(n:Nat)(d:D):Prop:=∃A:List Tie,d=.list (A.map pD)/\GdN n A/\Tc A/\Ahd A
def Vu(ds:List D)(P:D->Prop):Prop:=∃(n:Int) (d:D),ds=[.int n,d]/\P (.bool (pO n d))
def Vv(ds:List D)(P:D->Prop):Prop:=∃(n:Nat) (us:List Tie) (d:D),ds=[aV ((n:Nat):Int) us,d]/\n<=8/\G4 d/\∀b:Bool,(b=true↔LdP n d)->P (.bool b)
def Vw(ds:List D)(P:D->Prop):Prop:=∃(n:Nat) (us:List Tie) (d:D),ds=[aV ((n:Nat):Int) us,d]/\n<=8/\G4 d/\∀b:Bool,(b=true↔AdP n d)->P (.bool b)
def G5(n k:Nat)(us:List Tie)(d e:D):Prop:=∃(A:List Tie) (F:List (List Int)),d=.list (A.map pD)/\e=.list (F.map iD)/\GdN n A/\V5 n k us A F
def Vq(ds:List D)(P:D->Prop):Prop:=∃(n:Nat) (us vs:List Tie),ds=[aV ((n:Nat):Int) us,.list (vs.map pD)]/\us.length+vs.length<64/\n<=16/\RgT n us/\RgT n vs/\∀ws:List Tie,ws.Perm (us++vs)->P (aV ((n:Nat):Int) ws)
def Vt(ds:List D)(P:D->Prop):Prop:=∃(n k:Nat) (us:List Tie) (d e:D),ds=[aV ((n:Nat):Int) us,.int ((k:Int) - 1),d,e]/\1<=n/\n<=8/\2<=k/\k<=3/\us.length<=50/\RgT n us/\G4 d/\K9 e/\∀b:Bool,(b=true↔G5 n k us d e)->P (.bool b)
def wM{n:Int}{F:List (List Int)}(n16:n<=16):sZ n (.list (F.map iD))=true↔Ci n F:=by
 refine⟨λh=>?_,λh=>Ea h.1 h.2⟩
 have h:((F.map iD).all (aG n)&&pQ ((F.map iD).flatMap dG))=true:=h
 rw[Ë] at h
 have e2:(F.map iD).flatMap dG=F.flatten:=by
  rw[List.flatMap_map]
  have:(λl=>dG (iD l))=id:=funext pW
  rw[this,List.flatMap_id]
 rw[e2] at h
 refine⟨λl hl=>?_,(lK _).mp (of_decide_eq_true h.2)⟩
 obtain⟨l',e,p⟩:=Ij n16 (ü.mp h.1 _ (Ý.mpr ⟨l,hl,rfl⟩))
 rw[Bk e]
 exact p
def R7{n:Int}{d:D}(n16:n<=16)(h:sZ n d=true):∃F:List (List Int),d=.list (F.map iD)/\Ci n F:=by
 cases d with
 |list es =>
  have h':(es.all (aG n)&&pQ (es.flatMap dG))=true:=h
  rw[Ë] at h'
  have:∃F:List (List Int),es=F.map iD:=by
   have al:=ü.mp h'.1
   clear h h'
   induction es with
   |nil=>exact⟨[],rfl⟩
   |cons a es ih =>
    obtain⟨F,rfl⟩:=ih λx hx=>al x (Ä _ hx)
    obtain⟨l,rfl,_⟩:=Ij n16 (al a À)
    exact⟨l::F,rfl⟩
  obtain⟨F,rfl⟩:=this
  exact⟨F,rfl,(wM n16).mp h⟩
 |_=>cases h
def Eb{n:Int}{F:List (List Int)}(n8:n<=8)(h:Ci n F):F.length<=8:=by
 have h1:F.length<=F.flatten.length:=by
  have:∀F:List (List Int),(∀l∈F,1<=l.length)->F.length<=F.flatten.length:=λF=>by
   induction F with
   |nil=>exact λ_=>É _
   |cons a F ih =>
    intro h
    have a1:=h a À
    have:=ih λl hl=>h l (Ä _ hl)
    rw[ļ,Æ,Ù]
    omega
  exact this F λl hl=>(h.1 l hl).one
 have h2:F.flatten.length<=(iC 8).length:=h.2.length_le_of_subset λx hx=>by
  obtain⟨l,hl,hx'⟩:=List.mem_flatten.mp hx
  have:=(h.1 l hl).rng x hx'
  exact jF.mpr (by omega)
 have:(iC 8).length=8:=by decide
 omega
def Oa{F G:List (List Int)}(h:ÿ (F.map iD)=.list (G.map iD)):F=G:=by
 injection h with h
 have e:∀L:List (List Int),(L.map iD).map dG=L:=λL=>by
  rw[õ]
  exact List.map_id'' (λl=>pW l) L
 rw[←e F,h,e G]
def M8{us:List Tie}{k:Nat}(k3:k<=3)(l:List Int):aQ us ((k:Int) - 1) l<=3:=by
 unfold aQ
 split <;> omega
def Cu(W:List Int->Int)(h:∀l,W l<=3):∀F:List (List Int),(F.map W).sum<=3 * ((F.length:Nat):Int)
 |[]=>by simp
 |l::F=>by
  have:=Cu W h F
  have:=h l
  rw[ã,ò,Ù]
  omega
section
variable {P:Program}{w:World}{K:Ú}{mg:Str->Option Value}{base:Heap}{f:Addr}{fd:FuncData}{CN PT:Addr}
def tU:FnScope ["n","thing"] ["n","thing"] (ak (top 6)):=zC
def Fy(F:Fun K "is_tie" "is_tie" (top 6) f fd)(B:ľ mg)(C_is_below:Ą P w K mg base 2 "is_below" ["limit","thing"] (spD Bt)):FnOk P w K mg base CX0 3 f fd ["n","thing"] (spD Vu):=by
 refine F.ok tU ħ (λcdv A outer s H vs Q E hr h=>?_)
 have nd:=tU.nd
 refine⟨_,Ķ (å (Wr.cU (Wr.wpt (Wr.jw (Wr.cD (Wr.bO (Wr.dz kit_tuple B.isinstance (Í 1) (Wr.wty rfl B.tuple boot_tuple)))) (Wr.gn (Wr.qe hr.units (Wr.fK B.len (Â (Í 1) Ç)) Õ)))) (Ĕ (Ĩ Wr.gU)) Ł)
  (Ĕ (Ĩ (Wr.gJ (ũ C_is_below hr (Â (Í 0) (Â (ė (Í 1) Õ) Ç))) (Wr.gJ (ũ C_is_below hr (Â (Í 0) (Â (ė (Í 1) Õ) Ç))) (Wr.iH (Wr.vH hr.units (ė (Í 1) Õ) (ė (Í 1) Õ)))))))),aY h ?_⟩
 rintro ds P ⟨n,d,rfl,q⟩
 refine⟨[.im (.int n),bI d],rfl,?_⟩
 cases d with
 |tuple es =>
  rcases gD (.tuple es) with e|e
  all_goals
   rw[e]
   refine bD (A:=True) ?_
   match es,q with
   |[],q=>exact aK (B:=True) ⟨rfl,q⟩
   |[_],q=>exact aK (B:=True) ⟨rfl,q⟩
   |a::b::c::r,q =>
    exact aK (B:=True) ⟨rfl,q⟩
   |[a,b],q =>
    have q:P (.bool (aN n a&&(aN n b&&!decide (toI a=toI b)))):=q
    refine bD (A:=True) ⟨a,rfl,n,a,rfl,?_⟩
    show if aN n a=true then _ else _
    refine gZ (λc=>?_) (λc=>?_)
    ·rw[c] at q
     refine⟨b,rfl,n,b,rfl,?_⟩
     show if aN n b=true then _ else _
     refine gZ (λc2=>?_) (λc2=>?_)
     ·rw[c2] at q
      obtain⟨i,rfl⟩:=fD c
      obtain⟨j,rfl⟩:=fD c2
      exact⟨.int i,rfl,.int j,rfl,rfl,q⟩
     ·have c2:aN n b=false:=by simpa using c2
      rw[c2] at q
      exact⟨rfl,q⟩
    ·have c:aN n a=false:=by simpa using c
     rw[c] at q
     exact⟨rfl,q⟩
 |_=>exact aK (B:=True) ⟨rfl,q⟩
def mq:FnScope ["web","added"] ["web","added"] (ak (top 7)):=zC
def vO(F:Fun K "with_ties" "with_ties" (top 7) f fd)(B:ľ mg):FnOk P w K mg base CX0 1 f fd ["web","added"] (spD Vq):=by
 refine F.ok mq ħ (λcdv A outer s H vs Q E hr h=>?_)
 have nd:=mq.nd
 refine⟨_,Ķ (Ĕ (Ĩ (Č (Â (ė (Í 0) Õ) (Â (Wr.gq B.tuple (Â (Wr.gR B.sorted (Â (ë (ė (Í 0) Õ) (Wr.gq B.tuple (Â (Í 1) Ç))) Ç)) Ç)) Ç))))),aY h ?_⟩
 rintro ds P ⟨n,us,vs,rfl,lu,n16,oku,okv,q⟩
 refine⟨[.im (aV ((n:Nat):Int) us),.sh (.list (vs.map pD))],?_,?_⟩
 ·show [bI (aV _ us),bI (.list (vs.map pD))]=_
  rw[cI]
  rfl
 have lm:∀xs:List Tie,(xs.map pD).length=xs.length:=λxs=>Á ..
 have ok:RgT n (us++vs):=λt ht=>(ä.mp ht).elim (oku t) (okv t)
 refine⟨.int ((n:Nat):Int),rfl,.tuple (us.map pD),rfl,by rw[lm,lm];omega,us++vs,.inr ?_,by rw[Æ];omega,λt ht=>?_,λws hp hs=>⟨zK,?_,q ws hp⟩⟩
 ·rw[Þ]
 ·have:=ok t ht
  exact⟨by omega,by omega⟩
 ·have e:=qm ((n:Nat):Int) ws
  show(norm _ (aV ((n:Nat):Int) ws)).le .n0=true
  rw[ř e]
  rfl
def mF:FnScope ["web","thing"] ["web","thing"] (ak (top 33)):=zC
def rF:(["tie","web","thing"]:List Str).Nodup:=by decide +kernel
def vQ(F:Fun K "are_leads" "are_leads" (top 33) f fd)(B:ľ mg)(C_is_tie:Ą P w K mg base 3 "is_tie" ["n","thing"] (spD Vu)):FnOk P w K mg base CX0 4 f fd ["web","thing"] (spD Vv):=by
 refine F.ok mF ħ (λcdv A outer s H vs Q E hr h=>?_)
 have nd:=mF.nd
 refine⟨_,Ķ (å (Wr.cU (Wr.wpt (Wr.jw (Wr.cD (Wr.bO (Wr.dz rK B.isinstance (Í 1) (Wr.wty rfl B.list boot_list)))) (Wr.gn (Wr.cD (Wr.bO (Wr.jA rfl B.all Dl.boot_all (Â (ŗ ["tie"] rfl (ĭ (Í 1)) (λc=>(ú (i:=0) rF rfl zQ)) (λc=>ń) (λc=>(ũ C_is_tie hr (Â (ė (Í 1) Õ) (Â (Í 0) Ç))))) Ç))))))) (Ĕ (Ĩ Wr.gU)) Ł)
  (Ĕ (Ĩ (Wr.Av hr.units (Wr.gR B.sorted (Â (Í 1) Ç)) (Í 1))))),aY h ?_⟩
 rintro ds P ⟨n,us,d,rfl,n8,fd,q⟩
 refine⟨[.im (aV ((n:Nat):Int) us),bI d],by show [bI (aV _ us),_]=_;rw[cI],?_⟩
 have no:¬LdP n d->P (.bool false):=λz=>q false ⟨λy=>(nomatch y),λy=>absurd y z⟩
 cases d with
 |list es =>
  have hl:=fd es rfl
  refine bD (A:=True) ⟨by omega,.imm,λi ys=>ys=(es.take i).map λd=>PyData.bool (pO ((n:Nat):Int) d),rfl,λi d ys hd hy=>?_,λys hy=>?_⟩
  ·subst hy
   by_cases hi:d8 d=true
   ·have en:∀k,norm k d=.imm:=λk=>ř hi
    unfold gNm
    simp only[en]
    exact aK (B:=True) ⟨_,rfl,((n:Nat):Int),d,rfl,rfl,(cY _ hd).symm⟩
   ·have en:∀k,norm k d=k:=λk=>bR hi
    unfold gNm
    simp only[en]
    exact aK (B:=True) ⟨_,rfl,((n:Nat):Int),d,rfl,rfl,(cY _ hd).symm⟩
  ·dsimp only at hy
   rw[ĉ] at hy
   refine⟨es.map (pO ((n:Nat):Int)),by rw[hy,õ];rfl,?_⟩
   rw[List.all_map]
   show if (!es.all (pO ((n:Nat):Int)))=true then _ else _
   cases ha:es.all (pO ((n:Nat):Int)) with
   |false =>
    refine aK (B:=True) ⟨rfl,no λ⟨A,e,g,_⟩=>?_⟩
    injection e with e
    rw[e,List.all_map,List.all_eq_false] at ha
    obtain⟨t,ht,hn⟩:=ha
    exact hn (Cp (g t ht))
   |true =>
    obtain⟨A,rfl,gA⟩:=Lf ha
    rw[Á] at hl
    refine bD (A:=True) ⟨A,.inl rfl,by omega,gA.nice n8,λws hp hs=>?_⟩
    refine⟨oN ws,oN A,rfl,?_⟩
    show P (.bool (ý (.list (ws.map pD)) (.list (A.map pD))))
    rw[Oq]
    refine q _ ⟨λh=>?_,λ⟨B,e,g,h⟩=>?_⟩
    ·have e:ws=A:=of_decide_eq_true h
     rw[←e] at gA ⊢
     exact⟨ws,rfl,gA,hs⟩
    ·rw[←vM e] at h
     exact decide_eq_true (tQ (gA.nice n8) hp.symm h hs).symm
 |tuple es=>rcases gD (.tuple es) with e|e <;> rw[e] <;> exact aK (B:=True) ⟨rfl,no λ⟨A,e,_⟩=>by cases e⟩
 |_=>exact aK (B:=True) ⟨rfl,no λ⟨A,e,_⟩=>by cases e⟩
def mG:FnScope ["web","thing"] ["web","thing"] (ak (top 34)):=zC
def rG:(["tie","web","thing"]:List Str).Nodup:=by decide +kernel
def vR(F:Fun K "are_added" "are_added" (top 34) f fd)(B:ľ mg)(C_are_leads:Ą P w K mg base 4 "are_leads" ["web","thing"] (spD Vv)):FnOk P w K mg base CX0 5 f fd ["web","thing"] (spD Vw):=by
 refine F.ok mG ħ (λcdv A outer s H vs Q E hr h=>?_)
 have nd:=mG.nd
 refine⟨_,Ķ (Ĕ (Ĩ (Wr.gJ (ũ C_are_leads hr (Â (Í 0) (Â (Í 1) Ç))) (Wr.iH (Wr.jA rfl B.all Dl.boot_all (Â (ŗ ["tie"] rfl (ĭ (Í 1)) (λc=>(ú (i:=0) rG rfl zQ)) (λc=>ń) (λc=>(Wr.tW (ė (Í 0) Õ) (ė (Í 0) Õ)))) Ç)))))),aY h ?_⟩
 rintro ds P ⟨n,us,d,rfl,n8,fd,q⟩
 refine⟨[.im (aV ((n:Nat):Int) us),bI d],by show [bI (aV _ us),_]=_;rw[cI],?_⟩
 have no:¬AdP n d->P (.bool false):=λz=>q false ⟨λy=>(nomatch y),λy=>absurd y z⟩
 rcases gD d with e|e
 all_goals
  rw[e]
  refine⟨n,us,d,rfl,n8,fd,λb hb=>?_⟩
  cases b with
  |false=>exact bD (A:=True) ⟨rfl,no λ⟨A,e,g,r,_⟩=>absurd (hb.mpr ⟨A,e,g,r⟩) Ð⟩
  |true =>
   obtain⟨A,rfl,g,r⟩:=hb.mp rfl
   have lA:=fd _ rfl
   rw[Á] at lA
   refine aK (B:=True) ?_
   refine wB A pD (λt=>.bool (decide (t.1<t.2))) .imm rfl (by omega) (λt ht A' B hA=>aK (B:=B) ⟨.int t.1,rfl,.int t.2,rfl,rfl,hA⟩) ?_
   refine⟨A.map λt=>decide (t.1<t.2),by rw[õ];rfl,rfl,q _ ?_⟩
   rw[List.all_map,ü]
   refine⟨λh=>⟨A,rfl,g,r,λt ht=>of_decide_eq_true (h t ht)⟩,λ⟨B,e,_,_,h⟩ t ht=>?_⟩
   rw[←vM e] at h
   exact decide_eq_true (h t ht)
def qL:FnScope ["web","falls","added","family"] ["web","falls","added","family"] (ak (top 35)):=zC
def Aw(F:Fun K "lets_by" "lets_by" (top 35) f fd)(B:ľ mg)(C_is_family:Ą P w K mg base 5 "is_family" ["n","thing"] (spD R9))(C_are_added:Ą P w K mg base 5 "are_added" ["web","thing"] (spD Vw))(C_stands:Ą P w K mg base 10 "stands" ["web","falls"] (spD Ec))(C_with_ties:Ą P w K mg base 1 "with_ties" ["web","added"] (spD Vq))(C_bound:Ą P w K mg base 9 "bound" ["web","falls","family"] (spD fBo)):FnOk P w K mg base CX0 11 f fd ["web","falls","added","family"] (spD Vt):=by
 refine F.ok qL ħ (λcdv A outer s H vs Q E hr h=>?_)
 have nd:=qL.nd
 refine⟨_,Ķ (å (Wr.cU (Wr.wpt (Wr.jw (Wr.cD (Wr.bO (ũ C_are_added hr (Â (Í 0) (Â (Í 2) Ç))))) (Wr.gn (Wr.cD (Wr.bO (ũ C_is_family hr (Â (ė (Í 0) Õ) (Â (Í 3) Ç)))))))) (Ĕ (Ĩ Wr.gU)) Ł)
  (Ĕ (Ĩ (Wr.gJ (Wr.Iz (Wr.fK B.len (Â (Í 2) Ç)) (ũ C_bound hr (Â (Í 0) (Â (Í 1) (Â (Í 3) Ç))))) (Wr.iH (ũ C_stands hr (Â (ũ C_with_ties hr (Â (Í 0) (Â (Í 2) Ç))) (Â (Í 1) Ç)))))))),aY h ?_⟩
 rintro ds P ⟨n,k,us,d,e,rfl,n1,n8,k2,k3,l1,hu,fd,fe,q⟩
 refine⟨[.im (aV ((n:Nat):Int) us),.im (.int ((k:Int) - 1)),bI d,bI e],by show [bI (aV _ us),_,_,_]=_;rw[cI];rfl,?_⟩
 have no:¬G5 n k us d e->P (.bool false):=λz=>q false ⟨λy=>(nomatch y),λy=>absurd y z⟩
 by_cases hd:AdP n d
 ·obtain⟨A,rfl,gA,rA,aA⟩:=hd
  have lA:=fd _ rfl
  rw[Á] at lA
  refine⟨n,us,_,rfl,n8,fd,λb hb=>?_⟩
  have:=hb.mpr ⟨A,rfl,gA,rA,aA⟩
  subst this
  refine bD (A:=True) ?_
  cases hf:sZ ((n:Nat):Int) e with
  |false =>
   have no2:¬G5 n k us (.list (A.map pD)) e:=λ⟨B,F,_,e2,_,z⟩=>by
    rw[e2,(wM (by omega)).mpr z.2.1] at hf
    cases hf
   rcases gD e with ee|ee
   all_goals
    rw[ee]
    refine⟨.int ((n:Nat):Int),rfl,((n:Nat):Int),e,rfl,fe,by omega,?_⟩
    rw[hf]
    exact aK (B:=True) ⟨rfl,no no2⟩
  |true =>
   obtain⟨F,rfl,fk⟩:=R7 (by omega) hf
   have lF:=(fe _ rfl).1
   rw[Á] at lF
   refine⟨.int ((n:Nat):Int),rfl,((n:Nat):Int),.list (F.map iD),rfl,fe,by omega,?_⟩
   rw[hf]
   have ff:=Eb (by omega) fk
   refine bD (A:=True) ⟨((n:Nat):Int),us,(k:Int) - 1,F,rfl,by omega,by omega,by omega,by omega,lF,fk.1,fk.2,?_⟩
   show if decide ((((A.map pD).length:Nat):Int)<=((F.map (aQ us ((k:Int) - 1))).sum+1) / 2)=true then _ else _
   rw[Á]
   have go:∀b:Bool,(b=true↔V5 n k us A F)->P (.bool b):=λb hb=>q b ⟨λz=>⟨A,F,rfl,rfl,gA,hb.mp z⟩,λ⟨B,G,e1,e2,_,z⟩=>by
    rw[←vM e1,←Oa e2] at z
    exact hb.mpr z⟩
   by_cases c:((A.length:Nat):Int)<=((F.map (aQ us ((k:Int) - 1))).sum+1) / 2
   ·rw[decide_eq_true c]
    have sl:=Cu _ (M8 (us:=us) k3) F
    refine aK (B:=True) ⟨n,us,A,rfl,by omega,by omega,hu,gA.rg,λws hp=>⟨((n:Nat):Int),ws,(k:Int) - 1,rfl,by omega,by omega,by rw[hp.length_eq,Æ];omega,λb hb2=>⟨rfl,go b ?_⟩⟩⟩
    have hw:RgT n ws:=λt ht=>(ä.mp (hp.mem_iff.mp ht)).elim (hu t) (gA.rg t)
    have sp:=Ab (fa:=(k:Int) - 1) n1 n8 hw
    refine⟨λz=>⟨⟨rA,aA⟩,fk,c,λX hX=>?_⟩,λz=>hb2.mpr (sp.mpr λX hX=>?_)⟩
    ·have:=sp.mp (hb2.mp z) X hX
     rw[qy hp] at this
     exact this
    ·rw[qy hp]
     exact z.2.2.2 X hX
   ·rw[decide_eq_false c]
    exact bD (A:=True) ⟨rfl,go false ⟨λy=>(nomatch y),λz=>absurd z.2.2.1 c⟩⟩
 ·have no2:¬G5 n k us d e:=λ⟨A,F,e1,_,g,z⟩=>hd ⟨A,e1,g,z.1.1,z.1.2⟩
  rcases gD d with ed|ed
  all_goals
   rw[ed]
   refine⟨n,us,d,rfl,n8,fd,λb hb=>?_⟩
   have:b=false:=by rw[←Bool.not_eq_true];exact λz=>hd (hb.mp z)
   subst this
   exact aK (B:=True) ⟨rfl,no no2⟩
end
abbrev lT(A:List Tie):D:=.list (A.map pD)
abbrev lF(F:List (List Int)):D:=.list (F.map iD)
def ntA(A:List Tie):List D:=[.none,.int 0,.bool true,.str "",.str "(0, 1)",.tuple [],.tuple (A.map pD),.dict [],U4,.list [.none],.list [.int 0],.list [.list [.int 0,.int 1]],.list [.str "01"]]
def ntB(n:Int):List D:=[.list [.tuple []],.list [.tuple [.int 0]],.list [.tuple [.int 0,.int 1,.int 1]],.list [.tuple [.int 1,.int 0]],.list [.tuple [.int 0,.int 0]],.list [.tuple [.int 0,.int n]],.list [.tuple [.int (-1),.int 0]],.list [.tuple [.bool false,.int 1]],.list [.tuple [.int 0,.bool true]]]
def ntC:List D:=[.list [.tuple [.int 0,.str "1"]],.list [.tuple [.tuple [.int 0],.int 1]],.list [.tuple [.int 0,.none]],.list [.tuple [.list [.int 0],.list [.int 1]]],.list [.tuple [.int 0,.int 2],.tuple [.int 0,.int 1]],.list [.tuple [.int 1,.int 2],.tuple [.int 0,.int 1]]]
def ntD(n:Int)(A:List Tie):List D:=[.list [.tuple [.int 0,.int 1],.tuple [.int 0,.int 0]],.list (A.map pD++[.none]),.list ([.tuple []]++A.map pD),.list (A.map pD++[.tuple [.int 0,.int (10 ^ (29:Int).toNat)]]),.list ([.tuple [.int n,.int (n+1)]]++A.map pD)]
def ntE:List D:=[.list [.tuple [.int 0,.int 1],.tuple [.int 0,.none]],.list [.tuple [.int 0,.int 1],.tuple [.int 0,.str "1"]],.list [.tuple [.int 0,.int 1],.tuple [.str "0",.int 1]],.list [.tuple [.int 0,.int 1],.none],.list [.tuple [.int 0,.int 1],.list [.int 0,.int 1]]]
def ntF:List D:=[.list [.tuple [.int 0,.int 1],.int 7],.list [.tuple [.int 0,.int 1],.tuple []],.list [.tuple [.none,.int 1],.tuple [.int 0,.int 1]]]
def ntG(A:List Tie):List D:=[.list ((A.map λt=>ÿ [.int t.1,.int t.2])++[.int 0])]
def iJ(n:Int)(A:List Tie):List D:=(((((ntA A++ntB n)++ntC)++ntD n A)++ntE)++ntF)++ntG A
def fNT(ds:List D)(P:D->Prop):Prop:=∃(n:Int) (A:List Tie),ds=[.int n,lT A]/\1<=n/\n<=8/\A.length<=13/\P (.list (iJ n A))
def Ey{n:Int}{a b:D}(h:aN n a=false):pO n (.tuple [a,b])=false:=by
 show(aN n a&&_)=false
 rw[h]
 rfl
def xM{n:Int}{a b:D}(h:aN n b=false):pO n (.tuple [a,b])=false:=by
 show(aN n a&&(aN n b&&_))=false
 rw[h,Bool.false_and,Bool.and_false]
def VJ{n i:Int}(h:¬(0<=i/\i<n)):aN n (.int i)=false:=decide_eq_false h
structure BadT(n:Nat)(d:D):Prop where
 no:¬AdP n d
 few:G4 d
 sh:Sh 3 1000 d
def iV{n:Nat}{d:D}(h:∀es,d≠.list es)(s:Sh 3 1000 d):BadT n d:=⟨λ⟨A,e,_⟩=>h _ e,λes e=>absurd e (h es),s⟩
def jK{es:List D}(h:es.length<=60):G4 (.list es):=λes' e=>by injection e with e;rw[←e];exact h
def aM{n:Nat}{es:List D}{e:D}(he:e∈es)(hb:pO ((n:Nat):Int) e=false)(s:Sh 3 1000 (.list es))(hl:es.length<=60:=by decide):BadT n (.list es):=⟨λ⟨A,e2,g,_⟩=>by
 injection e2 with e2
 rw[e2] at he
 obtain⟨t,ht,rfl⟩:=Ý.mp he
 rw[Cp (g t ht)] at hb
 exact Bool.noConfusion hb,jK hl,s⟩
def BZ{n:Nat}{es:List D}{a b:Int}(he:č [.int a,.int b]∈es)(hab:¬a<b)(s:Sh 3 1000 (.list es))(hl:es.length<=60:=by decide):BadT n (.list es):=⟨λ⟨A,e2,_,_,h⟩=>by
 injection e2 with e2
 rw[e2] at he
 obtain⟨t,ht,e⟩:=Ý.mp he
 have e:č [.int t.1,.int t.2]=.tuple [.int a,.int b]:=e
 have:=h t ht
 injection e with e
 injection e with e1 e
 injection e with e3 _
 injection e1 with e1
 injection e3 with e3
 omega,jK hl,s⟩
def KQ{n:Nat}{a b:Tie}(h:¬aH a<=aH b)(s:Sh 3 1000 (.list [pD a,pD b])):BadT n (.list [pD a,pD b]):=⟨λ⟨A,e,_,r,_⟩=>by
 have e:=vM (A:=[a,b]) e
 subst e
 exact h ((Ń.mp r).1 b (ï.mpr rfl)),jK (by show 2<=60;decide),s⟩
def yE{n:Nat}{A:List Tie}(n1:1<=n)(n8:n<=8)(g:GdN n A)(lA:A.length<=13):∀b∈iJ ((n:Nat):Int) A,BadT n b:=by
 have lm:(A.map pD).length=A.length:=Á ..
 have z:((10:Int) ^ (29:Int).toNat)=100000000000000000000000000000:=by decide +kernel
 have sA:∀d∈A.map pD,Sh 2 10 d:=λd hd=>by
  obtain⟨t,ht,rfl⟩:=Ý.mp hd
  have:=g t ht
  exact Sh.tuple (k:=1) (m:=0) (fmc (Sh.int (by omega) (by omega)) (fmc (Sh.int (by omega) (by omega)) fmn)) (by show 2 * 1<=10;decide)
 have sn:Sh 2 10 (.tuple [.int 0,.int ((n:Nat):Int)]):=Sh.tuple (k:=1) (m:=0) (fmc (Sh.int (by omega) (by omega)) (fmc (Sh.int (by omega) (by omega)) fmn)) (by show 2 * 1<=10;decide)
 have sm:Sh 2 10 (.tuple [.int ((n:Nat):Int),.int (((n:Nat):Int)+1)]):=Sh.tuple (k:=1) (m:=0) (fmc (Sh.int (by omega) (by omega)) (fmc (Sh.int (by omega) (by omega)) fmn)) (by show 2 * 1<=10;decide)
 have l1:∀e:D,(A.map pD++[e]).length<=14:=λe=>by rw[Æ,lm];show A.length+1<=14;omega
 have l2:∀e:D,([e]++A.map pD).length<=14:=λe=>by rw[Æ,lm];show 1+A.length<=14;omega
 have ls:∀{es:List D},(∀d∈es,Sh 2 10 d)->es.length<=14->Sh 3 1000 (.list es):=λh hl=>Sh.list (k:=2) (m:=10) h (by omega)
 have bi:∀i:Int,¬(0<=i/\i<((n:Nat):Int))->aN ((n:Nat):Int) (.int i)=false:=λi h=>VJ h
 refine fma (fma (fma (fma (fma (fma ?_ ?_) ?_) ?_) ?_) ?_) ?_
 ·exact fmc (iV (λ_ e=>by cases e) (by decide +kernel)) (fmc (iV (λ_ e=>by cases e) (by decide +kernel)) (fmc (iV (λ_ e=>by cases e) (by decide +kernel))
   (fmc (iV (λ_ e=>by cases e) (by decide +kernel)) (fmc (iV (λ_ e=>by cases e) (by decide +kernel)) (fmc (iV (λ_ e=>by cases e) (by decide +kernel))
   (fmc (iV (λ_ e=>by cases e) (Sh.tuple (k:=2) (m:=10) sA (by omega))) (fmc (iV (λ_ e=>by cases e) (by decide +kernel)) (fmc (iV (λ_ e=>by cases e) (by decide +kernel))
   (fmc (aM À rfl (by decide +kernel)) (fmc (aM À rfl (by decide +kernel)) (fmc (aM À rfl (by decide +kernel)) (fmc (aM À rfl (by decide +kernel)) fmn))))))))))))
 ·exact fmc (aM À rfl (by decide +kernel)) (fmc (aM À rfl (by decide +kernel)) (fmc (aM À rfl (by decide +kernel))
   (fmc (BZ À (by decide) (by decide +kernel)) (fmc (BZ À (by decide) (by decide +kernel))
   (fmc (aM À (xM (bi _ (by omega))) (ls (fmc sn fmn) (by show 1<=14;decide)) (by show 1<=60;decide)) (fmc (aM À (Ey (bi _ (by omega))) (by decide +kernel))
   (fmc (aM À (Ey rfl) (by decide +kernel)) (fmc (aM À (xM rfl) (by decide +kernel)) fmn))))))))
 ·exact fmc (aM À (xM rfl) (by decide +kernel)) (fmc (aM À (Ey rfl) (by decide +kernel)) (fmc (aM À (xM rfl) (by decide +kernel)) (fmc (aM À (xM rfl) (by decide +kernel))
   (fmc (KQ (a:=(0,2)) (b:=(0,1)) (by decide +kernel) (by decide +kernel)) (fmc (KQ (a:=(1,2)) (b:=(0,1)) (by decide +kernel) (by decide +kernel)) fmn)))))
 ·exact fmc (BZ (a:=0) (b:=0) (Ä _ À) (by decide) (by decide +kernel))
   (fmc (aM (e:=.none) (â _ À) rfl (ls (fma sA (fmc (by decide +kernel) fmn)) (l1 _)) (by have:=l1 .none;omega))
   (fmc (aM (e:=.tuple []) (Ě _ À) rfl (ls (fma (fmc (by decide +kernel) fmn) sA) (l2 _)) (by have:=l2 (.tuple []);omega))
   (fmc (aM (e:=.tuple [.int 0,.int (10 ^ (29:Int).toNat)]) (â _ À) (xM (bi _ (by omega))) (ls (fma sA (fmc (by decide +kernel) fmn)) (l1 _)) (by have:=l1 .none;exact î (l1 _) (by decide)))
   (fmc (aM (e:=.tuple [.int ((n:Nat):Int),.int (((n:Nat):Int)+1)]) (Ě _ À) (Ey (bi _ (by omega))) (ls (fma (fmc sm fmn) sA) (l2 _)) (î (l2 _) (by decide))) fmn))))
 ·exact fmc (aM (Ä _ À) (xM rfl) (by decide +kernel)) (fmc (aM (Ä _ À) (xM rfl) (by decide +kernel)) (fmc (aM (Ä _ À) (Ey rfl) (by decide +kernel))
   (fmc (aM (Ä _ À) rfl (by decide +kernel)) (fmc (aM (Ä _ À) rfl (by decide +kernel)) fmn))))
 ·exact fmc (aM (Ä _ À) rfl (by decide +kernel)) (fmc (aM (Ä _ À) rfl (by decide +kernel)) (fmc (aM À (Ey rfl) (by decide +kernel)) fmn))
 ·refine fmc (aM (e:=.int 0) (â _ À) rfl (ls (fma (λd hd=>?_) (fmc (by decide +kernel) fmn)) ?_) ?_) fmn
  ·obtain⟨t,ht,rfl⟩:=Ý.mp hd
   have:=g t ht
   exact Sh.list (k:=1) (m:=0) (fmc (Sh.int (by omega) (by omega)) (fmc (Sh.int (by omega) (by omega)) fmn)) (by show 2 * 1<=10;decide)
  ·rw[Æ,Á]
   show A.length+1<=14
   omega
  ·rw[Æ,Á]
   show A.length+1<=60
   omega
def oW:∀{xs ys:List D},cJ xs=true->cJ ys=true->cJ (xs++ys)=true
 |[],_,_,h=>h
 |x::xs,ys,h,g=>by
  have h:(d8 x&&cJ xs)=true:=h
  rw[Ë] at h
  show(d8 x&&cJ (xs++ys))=true
  rw[h.1,oW h.2 g]
  rfl
section
variable {P:Program}{w:World}{K:Ú}{mg:Str->Option Value}{base:Heap}{f:Addr}{fd:FuncData}
def jl:FnScope ["_law_n","_law_added","_law_found"] ["_law_n","_law_added"] (ak (top 51)):=zC
def oR:(["_law_one","_law_n","_law_added","_law_found"]:List Str).Nodup:=by decide +kernel
def qZ(F:Fun K "_law_no_ties" "_law_no_ties" (top 51) f fd)(B:ľ mg):FnOk P w K mg base CX0 1 f fd ["_law_n","_law_added"] (spR fNT):=by
 refine F.ok jl nq (λcdv A outer s H vs Q E hr h=>?_)
 have nd:=jl.nd
 refine⟨_,Dl.WR.h (Œ (ö none (i:=2) nd rfl zQ (ì (Wr.dZ 6 ["_law_n","_law_added","_law_found"] (ak (top 51)) (.cons .non (.cons (.int 0) (.cons (.bl true) (.cons (.str "") (.cons (.str "(0, 1)") (.cons (.tup .nil) .nil)))))) (Â (Wr.gq B.tuple (Â (Í 1) Ç)) (Â Wr.qg (Â (Wr.oK hr.units (Č (Â Õ (Â Õ Ç))) Wr.gU) (Wr.dZ 4 ["_law_n","_law_added","_law_found"] (ak (top 51)) (.cons (.lst (.cons .non .nil)) (.cons (.lst (.cons (.int 0) .nil)) (.cons (.lst (.cons (.lst (.cons (.int 0) (.cons (.int 1) .nil))) .nil)) (.cons (.lst (.cons (.str "01") .nil)) .nil)))) Ç (by decide +kernel))))) (by decide +kernel))))
  (Œ (ö none (i:=2) nd rfl zQ (ë (Í 2) (Wr.jy ["_law_n","_law_added","_law_found"] (ak (top 51)) (.lst (.cons (.lst (.cons (.tup .nil) .nil)) (.cons (.lst (.cons (.tup (.cons (.int 0) .nil)) .nil)) (.cons (.lst (.cons (.tup (.cons (.int 0) (.cons (.int 1) (.cons (.int 1) .nil)))) .nil)) (.cons (.lst (.cons (.tup (.cons (.int 1) (.cons (.int 0) .nil))) .nil)) (.cons (.lst (.cons (.tup (.cons (.int 0) (.cons (.int 0) .nil))) .nil)) (.cons (.lst (.cons (.tup (.cons (.int 0) (.cons (.var 0) .nil))) .nil)) (.cons (.lst (.cons (.tup (.cons (.neg 1) (.cons (.int 0) .nil))) .nil)) (.cons (.lst (.cons (.tup (.cons (.bl false) (.cons (.int 1) .nil))) .nil)) (.cons (.lst (.cons (.tup (.cons (.int 0) (.cons (.bl true) .nil))) .nil)) .nil)))))))))) (by decide +kernel))))
  (Œ (ö none (i:=2) nd rfl zQ (ë (Í 2) (Wr.jy ["_law_n","_law_added","_law_found"] (ak (top 51)) (.lst (.cons (.lst (.cons (.tup (.cons (.int 0) (.cons (.str "1") .nil))) .nil)) (.cons (.lst (.cons (.tup (.cons (.tup (.cons (.int 0) .nil)) (.cons (.int 1) .nil))) .nil)) (.cons (.lst (.cons (.tup (.cons (.int 0) (.cons .non .nil))) .nil)) (.cons (.lst (.cons (.tup (.cons (.lst (.cons (.int 0) .nil)) (.cons (.lst (.cons (.int 1) .nil)) .nil))) .nil)) (.cons (.lst (.cons (.tup (.cons (.int 0) (.cons (.int 2) .nil))) (.cons (.tup (.cons (.int 0) (.cons (.int 1) .nil))) .nil))) (.cons (.lst (.cons (.tup (.cons (.int 1) (.cons (.int 2) .nil))) (.cons (.tup (.cons (.int 0) (.cons (.int 1) .nil))) .nil))) .nil))))))) (by decide +kernel))))
  (Œ (ö none (i:=2) nd rfl zQ (ë (Í 2) (ì (Â (Wr.jy ["_law_n","_law_added","_law_found"] (ak (top 51)) (.lst (.cons (.tup (.cons (.int 0) (.cons (.int 1) .nil))) (.cons (.tup (.cons (.int 0) (.cons (.int 0) .nil))) .nil))) (by decide +kernel)) (Â (ë (Í 1) (ì (Â Wr.lH Ç))) (Â (ë (ì (Â (Č Ç) Ç)) (Í 1)) (Â (ë (Í 1) (ì (Â (Č (Â Õ (Â (Wr.qU Õ Õ) Ç))) Ç))) (Â (ë (ì (Â (Č (Â (Í 0) (Â (ë (Í 0) Õ) Ç))) Ç)) (Í 1)) Ç))))))))
  (Œ (ö none (i:=2) nd rfl zQ (ë (Í 2) (Wr.jy ["_law_n","_law_added","_law_found"] (ak (top 51)) (.lst (.cons (.lst (.cons (.tup (.cons (.int 0) (.cons (.int 1) .nil))) (.cons (.tup (.cons (.int 0) (.cons .non .nil))) .nil))) (.cons (.lst (.cons (.tup (.cons (.int 0) (.cons (.int 1) .nil))) (.cons (.tup (.cons (.int 0) (.cons (.str "1") .nil))) .nil))) (.cons (.lst (.cons (.tup (.cons (.int 0) (.cons (.int 1) .nil))) (.cons (.tup (.cons (.str "0") (.cons (.int 1) .nil))) .nil))) (.cons (.lst (.cons (.tup (.cons (.int 0) (.cons (.int 1) .nil))) (.cons .non .nil))) (.cons (.lst (.cons (.tup (.cons (.int 0) (.cons (.int 1) .nil))) (.cons (.lst (.cons (.int 0) (.cons (.int 1) .nil))) .nil))) .nil)))))) (by decide +kernel))))
  (Œ (ö none (i:=2) nd rfl zQ (ë (Í 2) (Wr.jy ["_law_n","_law_added","_law_found"] (ak (top 51)) (.lst (.cons (.lst (.cons (.tup (.cons (.int 0) (.cons (.int 1) .nil))) (.cons (.int 7) .nil))) (.cons (.lst (.cons (.tup (.cons (.int 0) (.cons (.int 1) .nil))) (.cons (.tup .nil) .nil))) (.cons (.lst (.cons (.tup (.cons .non (.cons (.int 1) .nil))) (.cons (.tup (.cons (.int 0) (.cons (.int 1) .nil))) .nil))) .nil)))) (by decide +kernel))))
  (Dl.qN (ë (Í 2) (ì (Â (ë (ŗ ["_law_one"] rfl (ĭ (Í 1)) (λc=>(ú (i:=0) oR rfl zQ)) (λc=>ń) (λc=>(Wr.vJ B.list (Â (Í 0) Ç)))) (ì (Â Õ Ç))) Ç)))))))))),rR h ?_⟩
 rintro ds P ⟨n,A,rfl,n1,n8,lA,q⟩
 refine⟨[.im (.int n),.sh (lT A),.any],rfl,?_⟩
 have lm:(A.map pD).length=A.length:=Á ..
 have i1:=g8 A
 have en:∀k,norm k (č (A.map pD))=.imm:=λk=>ř i1
 refine⟨_,rfl,zK,rfl,rfl,_,rfl,zK,?_⟩
 simp only[en]
 show Af _ _ P [.im (.int n),.sh (lT A),.sn (.list (ntA A))]
 refine⟨_,_,rfl,zK,.inr ?_⟩
 show Af _ _ P [.im (.int n),.sh (lT A),.sn (.list (ntA A++ntB n))]
 refine⟨_,_,rfl,zK,.inr ?_⟩
 show Af _ _ P [.im (.int n),.sh (lT A),.sn (.list ((ntA A++ntB n)++ntC))]
 refine⟨_,_,rfl,zK,(show(A.map pD).length+1<=1000 by omega),.inl ⟨oW i1 rfl,?_⟩⟩
 refine⟨zK,zK,(show 1+(A.map pD).length<=1000 by omega),.inl ⟨oW (xs:=[.tuple []]) rfl i1,?_⟩⟩
 refine⟨⟨by decide,by decide,by decide⟩,zK,zK,(show(A.map pD).length+1<=1000 by omega),.inl ⟨oW i1 rfl,?_⟩⟩
 refine⟨zK,zK,(show 1+(A.map pD).length<=1000 by omega),.inl ⟨oW (xs:=[.tuple [.int n,.int (n+1)]]) rfl i1,?_⟩⟩
 refine⟨zK,zK,.inr ?_⟩
 show Af _ _ P [.im (.int n),.sh (lT A),.sn (.list (((ntA A++ntB n)++ntC)++ntD n A))]
 refine⟨_,_,rfl,zK,.inr ?_⟩
 show Af _ _ P [.im (.int n),.sh (lT A),.sn (.list ((((ntA A++ntB n)++ntC)++ntD n A)++ntE))]
 refine⟨_,_,rfl,zK,.inr ?_⟩
 show Qz (t2 yS (tV 2) (Cq (bM (t2 yS (dLC 1 (iSq (tV 1)) (gNm 0) (λx P=>P true) (tCl Dl.J2 (bM (tV 0) iy))) (Cq (bM (tK (Ã 0)) iy))) iy))) P [.im (.int n),.sh (lT A),.sn (.list (((((ntA A++ntB n)++ntC)++ntD n A)++ntE)++ntF))]
 refine wB A pD (λt=>ÿ [.int t.1,.int t.2]) .new rfl (by omega) (λt ht A' B hA=>aK (B:=B) (.inl ⟨rfl,rfl,hA⟩)) ?_
 exact⟨zK,by rw[Á];show A.length+1<=1000;omega,.inr ⟨zK,zK,.inr q⟩⟩
end
def JV{k:Kd}{d1 d2:D}{ρ:List Sl}{Q:List Sl->Prop}{i j:Nat}(h:∀s5 s6,s5=qI (norm (norm k d1) d1) d1->s6=qI (norm (norm k d2) d2) d2->Q ((ρ.set i s5).set j s6)):oX (gNm i) (oX (gNm j) DQ) k [d1,d2] ρ Q:=h _ _ rfl rfl
def zU{k:Kd}{Q:List Sl->Prop}{ρ:List Sl}{n:Int}{us:List Tie}(h:Q ((ρ.set 2 (.im (.int n))).set 3 (.im (.tuple (us.map pD))))):oX (gNm 2) (oX (gNm 3) DQ) k [.int n,.tuple (us.map pD)] ρ Q:=by
 have en:∀k,norm k (.tuple (us.map pD))=.imm:=λk=>ř (g8 us)
 show Q ((ρ.set 2 (qI (norm _ (.int n)) (.int n))).set 3 (qI (norm _ (.tuple (us.map pD))) (.tuple (us.map pD))))
 rw[en,show norm (norm k (.int n)) (.int n)=.imm from ř rfl]
 exact h
def Oj{N:Nat}{W:List Int->Int}{out:List (List Int)}(h:uO N W out):(out.map W).sum=eV (fV N W) N (2 ^ N - 1):=by
 obtain⟨ks,ha,hp,_⟩:=h
 have e:(out.map W).sum=pN (fV N W) ks:=by
  rw[yp (hp.map W)]
  unfold pN
  rw[õ]
  congr 1
  refine Ĭ λk hk=>?_
  have:=ha.rng k hk
  obtain⟨q,rfl⟩:∃q:Nat,k=((q:Nat):Int):=⟨k.toNat,by omega⟩
  rw[Ø,(qF (by omega) (by omega)).1]
  rfl
 rw[e,ha.tot]
 rfl
def Ag{n k:Nat}{us A:List Tie}{F:List (List Int)}(n1:1<=n)(n8:n<=8)(k2:2<=k)(k3:k<=3)(hu:RgT n us)(h:PutsOk n k us A F) :
  (A.length<=13/\(∀t∈A,0<=t.1/\t.1<t.2/\t.2<(n:Int)))/\((A.length:Nat):Int)=((F.map (aQ us ((k:Int) - 1))).sum+1) / 2/\∀X,Cut.Prp n X->(k:Int) - 1<((Cut.dg (us++A) X:Nat):Int):=by
 obtain⟨g1,g2,g3,g4⟩:=K8 n1 n8 k2 k3 hu
 obtain⟨e1,e2,e3,e4,e5,e6⟩:=wU (k:=k) n1 n8 k3 hu
 obtain⟨Fw,so,ln⟩:=Br (k:=k) n1 n8 hu
 have la:=h.perm.length_eq
 have bs:=KZ n1 n8 hu Fw.rg Fw.C Fw.tg h.fam (Oj h.fam)
 refine⟨⟨by omega,λt ht=>g3 t (h.perm.mem_iff.mp ht)⟩,?_,λX hX=>?_⟩
 ·rw[bs]
  unfold endsF at g2
  split at g2
  ·rw[Ù] at g2
   omega
  ·omega
 ·have:=g4 X hX
  rw[qy (a:=us++A) (b:=GZ n k us++us) ((List.perm_append_comm).trans (h.perm.append_right us)) X]
  omega
def Ky{P:DEnds}{ρ:List Sl}{rg:Option Nat}{i:Nat}{k:Kd}{d:D}{s:Sl}(e:stK rg ρ i (norm k d) d=some s)(h:P.nx (ρ.set i s)):wY i rg (λ_ P=>P k d) P ρ:=by
 unfold wY
 dsimp only
 rw[e]
 exact h
def j9{n:Int}{es:List D}{e:D}(he:e∈es)(h:aG n e=false):sZ n (.list es)=false:=by
 have:es.all (aG n)=false:=by
  rw[←Bool.not_eq_true,ü]
  intro z
  rw[z e he] at h
  cases h
 show(es.all (aG n)&&pQ (es.flatMap dG))=false
 rw[this]
 rfl
def Ol{n:Int}{es:List D}{x:Int}(h:¬(es.flatMap dG).Nodup):sZ n (.list es)=false:=by
 show(es.all (aG n)&&pQ (es.flatMap dG))=false
 have:pQ (es.flatMap dG)=false:=decide_eq_false λz=>h ((lK _).mp z)
 rw[this,Bool.and_false]
def tR(F:List (List Int))(l:List Int):List D:=[.none,.int 0,.bool true,.str "",.tuple [],.dict [],.tuple (F.map iD++[.list [.int 0]]),.list [iD l,iD l]]
def Hz(l:List Int):List D:=[.list [iD l,.none],.list [iD l,.list [.none]],.list [iD l,.int 7],.list [.list ((l.take 1).map Ã++[.str "1"]),iD l],.list [iD l,.list [.tuple [.int 0,.int 1]]]]
structure BadF(n:Int)(e:D):Prop where
 no:sZ n e=false
 few:K9 e
 sh:Sh 5 3000 e
def lX{n:Int}{d:D}(h:∀es,d≠.list es)(hn:sZ n d=false)(s:Sh 5 3000 d):BadF n d:=⟨hn,λes e=>absurd e (h es),s⟩
def iW{n:Int}{es:List D}(hn:sZ n (.list es)=false)(hl:es.length<=2)(hf:∀e∈es,Few e)(hs:∀e∈es,Sh 4 1200 e):BadF n (.list es) :=
 ⟨hn,λes' e=>by injection e with e;rw[←e];exact⟨by omega,hf⟩,Sh.list (k:=4) (m:=1200) hs (by omega)⟩
def DX{d:D}(h:∀es,d≠.list es):Few d:=λes e=>absurd e (h es)
def qt{es:List D}(h:es.length<=400):Few (.list es):=λes' e=>by injection e with e;rw[←e];exact h
def Hy{n:Int}{l:List Int}{F:List (List Int)}(n1:1<=n)(n8:n<=8)(h:LS n l)(fk:Ci n F)(lf:F.length<=8):∀e∈((iK n l).map (λd=>ÿ [d])++tR F l)++Hz l,BadF n e:=by
 have n16:n<=16:=by omega
 have sl:∀x∈l,-1000<=x/\x<=1000:=λx hx=>by have:=h.rng x hx;omega
 have h2:=h.few
 have si:Sh 4 1200 (iD l):=(Sh.list (k:=1) (m:=0) (iB sl) (c:=20) (by rw[Á];omega)).mono (by decide) (by decide)
 have fi:Few (iD l):=nJ (by omega)
 have st:Sh 4 1200 (.list ((l.take 1).map Ã++[.str "1"])):=(Sh.list (k:=1) (m:=2) (fma (iB λx hx=>sl x (ş hx)) (by decide +kernel)) (c:=20) (by
  rw[Æ,Á,ă]
  show(min 1 l.length+1) * 3<=20
  omega)).mono (by decide) (by decide)
 have sF:∀e∈F.map iD,Sh 2 20 e:=λe he=>by
  obtain⟨a,ha,rfl⟩:=Ý.mp he
  have p:=fk.1 a ha
  exact Sh.list (k:=1) (m:=0) (iB λx hx=>by have:=p.rng x hx;omega) (by rw[Á];have:=p.few;omega)
 refine fma (fma ?_ ?_) ?_
 ·intro e he
  obtain⟨d,hd,rfl⟩:=Ý.mp he
  have B:=yF n1 n8 h d hd
  exact iW (j9 À B.np) (by show 1<=2;decide) (fmc B.few fmn) (fmc (B.sh.mono (by decide) (by decide)) fmn)
 ·refine fmc (lX (λ_ e=>by cases e) rfl (by decide +kernel)) (fmc (lX (λ_ e=>by cases e) rfl (by decide +kernel)) (fmc (lX (λ_ e=>by cases e) rfl (by decide +kernel))
   (fmc (lX (λ_ e=>by cases e) rfl (by decide +kernel)) (fmc (lX (λ_ e=>by cases e) rfl (by decide +kernel)) (fmc (lX (λ_ e=>by cases e) rfl (by decide +kernel))
   (fmc (lX (λ_ e=>by cases e) rfl ?_) (fmc (iW ?_ (by show 2<=2;decide) (fmc fi (fmc fi fmn)) (fmc si (fmc si fmn))) fmn)))))))
  ·exact(Sh.tuple (k:=2) (m:=20) (fma sF (fmc (by decide +kernel) fmn)) (c:=200) (by
    rw[Æ,Á]
    show(F.length+1) * 21<=200
    omega)).mono (by decide) (by decide)
  ·have e1:([iD l,iD l]:List D).flatMap dG=l++(l++[]):=by simp[ź,pW]
   refine Ol (x:=0) λz=>?_
   rw[e1,ø] at z
   cases l with
   |nil=>exact absurd h.one (by decide)
   |cons x r=>exact(List.nodup_append.mp z).2.2 x À x À rfl
 ·exact fmc (iW (j9 (e:=.none) (Ä _ À) rfl) (by show 2<=2;decide) (fmc fi (fmc (DX λ_ e=>by cases e) fmn)) (fmc si (fmc (by decide +kernel) fmn)))
   (fmc (iW (j9 (e:=.list [.none]) (Ä _ À) (cu (e:=.none) n16 À λi e=>by cases e)) (by show 2<=2;decide) (fmc fi (fmc (qt (by decide)) fmn)) (fmc si (fmc (by decide +kernel) fmn)))
   (fmc (iW (j9 (e:=.int 7) (Ä _ À) rfl) (by show 2<=2;decide) (fmc fi (fmc (DX λ_ e=>by cases e) fmn)) (fmc si (fmc (by decide +kernel) fmn)))
   (fmc (iW (j9 À (cu (e:=.str "1") n16 (â _ À) λi e=>by cases e)) (by show 2<=2;decide) (fmc (qt (by rw[Æ,Á,ă];show min 1 l.length+1<=400;omega)) (fmc fi fmn)) (fmc st (fmc si fmn)))
   (fmc (iW (j9 (e:=.list [.tuple [.int 0,.int 1]]) (Ä _ À) (cu (e:=.tuple [.int 0,.int 1]) n16 À λi e=>by cases e)) (by show 2<=2;decide) (fmc fi (fmc (qt (by decide)) fmn)) (fmc si (fmc (by decide +kernel) fmn))) fmn))))
structure BadP(n k:Nat)(us:List Tie)(p:D×D):Prop where
 no:¬G5 n k us p.1 p.2
 fd:G4 p.1
 fe:K9 p.2
 ok:Jm (.tuple [p.1,p.2])
def qK{a b:D}(ha:Sh 5 3000 a)(hb:Sh 5 3000 b):Jm (.tuple [a,b]):=(Sh.tuple (k:=5) (m:=3000) (fmc ha (fmc hb fmn)) (c:=10000) (by show 2 * 3001<=10000;decide)).ok (by decide) (by decide)
def Fp{n k:Nat}{us A:List Tie}{F:List (List Int)}{l:List Int}(n1:1<=n)(n8:n<=8)(h:LS ((n:Nat):Int) l)(fk:Ci ((n:Nat):Int) F)(lf:F.length<=8)(g:GdN n A)(lA:A.length<=13){S:List D}(hS:∀e∈S,BadF ((n:Nat):Int) e) :
  ∀p∈((iJ ((n:Nat):Int) A).map (λd=>(d,lF F))++S.map (λd=>(lT A,d)))++[(.none,.none),(.dict [],.list [.list [.int 0,.int 0]]),(.str "",.str "")],BadP n k us p:=by
 have sA:Sh 5 3000 (lT A):=(Sh.list (k:=2) (m:=10) (λd hd=>by
  obtain⟨t,ht,rfl⟩:=Ý.mp hd
  have:=g t ht
  exact Sh.tuple (k:=1) (m:=0) (fmc (Sh.int (by omega) (by omega)) (fmc (Sh.int (by omega) (by omega)) fmn)) (by show 2 * 1<=10;decide)) (c:=200) (by rw[Á];omega)).mono (by decide) (by decide)
 have sF:Sh 5 3000 (lF F):=(Sh.list (k:=2) (m:=20) (λe he=>by
  obtain⟨a,ha,rfl⟩:=Ý.mp he
  have p:=fk.1 a ha
  exact Sh.list (k:=1) (m:=0) (iB λx hx=>by have:=p.rng x hx;omega) (by rw[Á];have:=p.few;omega)) (c:=200) (by rw[Á];omega)).mono (by decide) (by decide)
 have fF:K9 (lF F):=λes e=>by
  injection e with e
  rw[←e]
  refine⟨by rw[Á];omega,λe he=>?_⟩
  obtain⟨a,ha,rfl⟩:=Ý.mp he
  have:=(fk.1 a ha).few
  exact nJ (by omega)
 have dl:∀d e,(∀es,d≠.list es)->¬G5 n k us d e:=λd e h ⟨A,_,e1,_⟩=>h _ e1
 intro p hp
 rcases ä.mp hp with hp|hp
 ·rcases ä.mp hp with hp|hp
  ·obtain⟨d,hd,rfl⟩:=Ý.mp hp
   have B:=yE n1 n8 g lA d hd
   exact⟨λ⟨A,G,e1,_,g,z⟩=>B.no ⟨A,e1,g,z.1.1,z.1.2⟩,B.few,fF,qK (B.sh.mono (by decide) (by decide)) sF⟩
  ·obtain⟨d,hd,rfl⟩:=Ý.mp hp
   have B:=hS d hd
   refine⟨λ⟨A,G,_,e2,g,z⟩=>?_,jK (by rw[Á];omega),B.few,qK sA B.sh⟩
   have b:=B.no
   rw[show d=.list (G.map iD) from e2,(wM (by omega)).mpr z.2.1] at b
   cases b
 ·simp only[List.mem_cons,List.not_mem_nil,or_false] at hp
  rcases hp with rfl|rfl|rfl
  ·exact⟨dl _ _ λ_ e=>(by cases e),λ_ e=>(by cases e),λ_ e=>(by cases e),qK (by decide +kernel) (by decide +kernel)⟩
  ·exact⟨dl _ _ λ_ e=>(by cases e),λ_ e=>(by cases e),λes e=>(by injection e with e;rw[←e];exact⟨by decide,fmc (qt (by decide)) fmn⟩),qK (by decide +kernel) (by decide +kernel)⟩
  ·exact⟨dl _ _ λ_ e=>(by cases e),λ_ e=>(by cases e),λ_ e=>(by cases e),qK (by decide +kernel) (by decide +kernel)⟩
def vV{k:Kd}{d:D}(h:k.le .shr=true):(norm k d).le .shr=true:=by
 by_cases i:d8 d=true
 ·rw[ř i]
  rfl
 ·rw[bR i]
  exact h
def xV{d T:D}{s:Sl}(e:s=qI (norm (norm (norm .shr T) d) d) d):s=.im d\/s=.sh d:=by
 subst e
 have hk:norm .shr T=.imm\/norm .shr T=.shr:=by
  by_cases h:d8 T=true
  ·exact .inl (ř h)
  ·exact .inr (bR h)
 rcases hk with hk|hk
 ·exact .inl (by rw[hk];rfl)
 rw[hk]
 by_cases h:d8 d=true
 ·exact .inl (by rw[ř (k:=norm .shr d) h];rfl)
 ·exact .inr (by rw[bR h,bR h];rfl)
def RT{A B:Prop}{c:Bool}{G:List Int->Prop}{p:List Int->Prop}(h1:c=true->(∀l,p l->G l)->A)(h2:c=false->(∀l,p l->G l)->B)(hG:∀l,p l->G l):if c=true then A else B:=by
 cases c with
 |true=>exact h1 rfl hG
 |false=>exact h2 rfl hG
section
variable {P:Program}{w:World}{K:Ú}{mg:Str->Option Value}{base:Heap}{f:Addr}{fd:FuncData}{CN PT:Addr}
def HD:FnScope ["_law_script","_law_pen_here","_law_n","_law_ties_here","_law_falls","_law_added","_law_family","_law_some","_law_sets","_law_pairs","_law_one","_law_other","_law_kept"] ["_law_script"] (ak (top 52)):=zC
def rE:(["_law_bad","_law_script","_law_pen_here","_law_n","_law_ties_here","_law_falls","_law_added","_law_family","_law_some","_law_sets","_law_pairs","_law_one","_law_other","_law_kept"]:List Str).Nodup:=by decide +kernel
def Rq(F:Fun K "law" "law" (top 52) f fd)(B:ľ mg)(m_repr:mg "repr"=none)(SY:Dl.zO base)(C__law_pen:Ą P w K mg base 1 "_law_pen" ["_law_script"] (Ht K))(C__law_web:Ą P w K mg base 3 "_law_web" ["_law_pen_here","_law_most"] (spP CP Vp))(C__law_draw:Ą P w K mg base 1 "_law_draw" ["_law_pen_here","_law_many"] (spP CP uz))(C_puts:Ą P w K mg base 12 "puts" ["web","falls"] (spT (bZ PT) Pz))(C__law_set:Ą P w K mg base 3 "_law_set" ["_law_pen_here","_law_n"] (spP CP Vs))(C__law_no_sets:Ą P w K mg base 1 "_law_no_sets" ["_law_n","_law_some"] (spR fNS))(C__law_no_ties:Ą P w K mg base 1 "_law_no_ties" ["_law_n","_law_added"] (spR fNT))(C_lets_by:Ą P w K mg base 11 "lets_by" ["web","falls","added","family"] (spD Vt)):FnOk P w K mg base CX0 13 f fd ["_law_script"] (Hv K (bZ PT)):=by
 refine F.ok HD (λvs H Q E h=>by obtain⟨a,ns,rfl,_⟩:=h;rfl) (λcdv A outer s H vs Q E hr h=>?_)
 obtain⟨sc,ns,rfl,hS,q⟩:=h
 have nd:=HD.nd
 refine⟨_,(Ŷ (bU (i:=1) nd rfl zQ (pcS C__law_pen hr (bY (pv 0) gK) (by decide) rfl (by decide) rfl rfl)) (Ķ (å (Wr.wW (Wr.dcP (Dl.Cal.plus (T:=(bZ PT)) C__law_web) hr (Wr.wv 1) (Â Õ Ç)) (Wr.fU (n:=2) rfl (Ġ (ú (i:=2) nd rfl zQ) (Ġ (ú (i:=3) nd rfl zQ) Wr.dU))))
  (å (ö none (i:=4) nd rfl zQ (ë Õ (Wr.dcP (Dl.Cal.plus (T:=(bZ PT)) C__law_draw) hr (Wr.wv 1) (Â Õ Ç))))
  (å (Wr.wW (Wr.dcT (C:=CP) (i:=1) C_puts hr (Â (Č (Â (Í 2) (Â (Í 3) Ç))) (Â (Í 4) Ç))) (Wr.fU (n:=2) rfl (Ġ (ú (i:=5) nd rfl zQ) (Ġ (ú (i:=6) nd rfl zQ) Wr.dU))))
  (å (ö none (i:=7) nd rfl zQ (ì (Â Õ Ç)))
  (å (Wr.cU (Wr.lG (Í 2) Õ) (Ĕ (ö none (i:=7) nd rfl zQ (Wr.dcP (Dl.Cal.plus (T:=(bZ PT)) C__law_set) hr (Wr.wv 1) (Â (Í 2) Ç)))) Ł)
  (å (ö none (i:=8) nd rfl zQ (ë (ŗ ["_law_bad"] rfl (ĭ (Dl.dcR C__law_no_sets hr (Â (Í 2) (Â (Í 7) Ç)))) (λc=>(ú (i:=0) rE rfl zQ)) (λc=>ń) (λc=>(ì (Â (Í 0) Ç)))) (ì (Wr.dZ 6 ["_law_script","_law_pen_here","_law_n","_law_ties_here","_law_falls","_law_added","_law_family","_law_some","_law_sets","_law_pairs","_law_one","_law_other","_law_kept"] (ak (top 52)) (.cons .non (.cons (.int 0) (.cons (.bl true) (.cons (.str "") (.cons (.tup .nil) (.cons .dct .nil)))))) (Â (ë (Wr.gq B.tuple (Â (Í 6) Ç)) (Č (Â (ì (Â Õ Ç)) Ç))) (Â (ì (Â (Í 7) (Â (Í 7) Ç))) Ç)) (by decide +kernel)))))
  (å (ö none (i:=8) nd rfl zQ (ë (Í 8) (ì (Wr.dZ 3 ["_law_script","_law_pen_here","_law_n","_law_ties_here","_law_falls","_law_added","_law_family","_law_some","_law_sets","_law_pairs","_law_one","_law_other","_law_kept"] (ak (top 52)) (.cons (.lst (.cons (.var 7) (.cons .non .nil))) (.cons (.lst (.cons (.var 7) (.cons (.lst (.cons .non .nil)) .nil))) (.cons (.lst (.cons (.var 7) (.cons (.int 7) .nil))) .nil))) (Â (ì (Â (ë (Wr.mV (Í 7) Wr.dO (ų Õ)) (ì (Â Wr.vC Ç))) (Â (Í 7) Ç))) (Â (ì (Wr.dZ 2 ["_law_script","_law_pen_here","_law_n","_law_ties_here","_law_falls","_law_added","_law_family","_law_some","_law_sets","_law_pairs","_law_one","_law_other","_law_kept"] (ak (top 52)) (.cons (.var 7) (.cons (.lst (.cons (.tup (.cons (.int 0) (.cons (.int 1) .nil))) .nil)) .nil)) Ç (by decide +kernel))) Ç)) (by decide +kernel)))))
  (å (ö none (i:=9) nd rfl zQ (ë (ŗ ["_law_bad"] rfl (ĭ (Dl.dcR C__law_no_ties hr (Â (Í 2) (Â (Í 5) Ç)))) (λc=>(ú (i:=0) rE rfl zQ)) (λc=>ń) (λc=>(Č (Â (Í 0) (Â (Í 7) Ç))))) (ŗ ["_law_bad"] rfl (ĭ (Í 8)) (λc=>(ú (i:=0) rE rfl zQ)) (λc=>ń) (λc=>(Č (Â (Í 6) (Â (Í 0) Ç)))))))
  (å (Wr.eF Ē rfl (ĭ (ë (Í 9) (Wr.jy ["_law_script","_law_pen_here","_law_n","_law_ties_here","_law_falls","_law_added","_law_family","_law_some","_law_sets","_law_pairs","_law_one","_law_other","_law_kept"] (ak (top 52)) (.lst (.cons (.tup (.cons .non (.cons .non .nil))) (.cons (.tup (.cons .dct (.cons (.lst (.cons (.lst (.cons (.int 0) (.cons (.int 0) .nil))) .nil)) .nil))) (.cons (.tup (.cons (.str "") (.cons (.str "") .nil))) .nil)))) (by decide +kernel)))) (Wr.fU (n:=2) rfl (Ġ (ú (i:=10) nd rfl zQ) (Ġ (ú (i:=11) nd rfl zQ) Wr.dU))) (å (ö none (i:=12) nd rfl zQ (Wr.mW SY hr.gd hr.units m_repr (Â (Č (Â (Í 10) (Â (Í 11) Ç))) Ç)))
  (å (Wr.cU (Wr.wpt (Wr.jw (Wr.lE (ũ C_lets_by hr (Â (Č (Â (Í 2) (Â (Í 3) Ç))) (Â (Í 4) (Â (Í 10) (Â (Í 11) Ç))))) Wr.gU) (Wr.gn (Wr.qe hr.units (Wr.mW SY hr.gd hr.units m_repr (Â (Č (Â (Í 10) (Â (Í 11) Ç))) Ç)) (Í 12))))) (Ĕ (Ĩ Wr.gU)) Ł) (Ĺ [10,11,12] Ł))))
  (Ĺ [10,11,12] (Ĕ (Ĩ (Wr.Ar (ũ C_lets_by hr (Â (Č (Â (Í 2) (Â (Í 3) Ç))) (Â (Í 4) (Â (Í 5) (Â (Í 6) Ç))))) Wr.gU))))))))))))))),Sv hS q (by decide) ?_⟩
 refine⟨rfl,8,rfl,by decide,by decide,λn us n1 n8 lu ok=>⟨rfl,zU ?_⟩⟩
 obtain⟨m,rfl⟩:∃m:Nat,n=((m:Nat):Int):=⟨n.toNat,by omega⟩
 have hu:RgT m us:=λt ht=>ok t ht
 show rY _ _ _ [.any,.pen (CT CP (bZ PT)),.im (.int ((m:Nat):Int)),.im (.tuple (us.map pD)),.any,.any,.any,.any,.any,.any,.any,.any,.any]
 refine⟨rfl,2,rfl,by decide,by decide,λr r0 r1=>?_⟩
 obtain⟨k,ek,k2,k3⟩:∃k:Nat,(1:Int)+r=(k:Int) - 1/\2<=k/\k<=3:=⟨(r+2).toNat,by omega,by omega,by omega⟩
 show wY 4 none (λ_ Q=>Q .imm (.int (1+r))) _ [.any,.pen (CT CP (bZ PT)),.im (.int ((m:Nat):Int)),.im (.tuple (us.map pD)),.any,.any,.any,.any,.any,.any,.any,.any,.any]
 rw[ek]
 refine Ky (s:=.im (.int ((k:Int) - 1))) rfl ?_
 refine⟨rfl,zK,m,k,us,rfl,by omega,by omega,k2,k3,by omega,hu,λA F pk=>⟨rfl,JV λs5 s6 e5 e6=>?_⟩⟩
 obtain⟨⟨lA,rA⟩,eB,sS⟩:=Ag (by omega) (by omega) k2 k3 hu pk
 obtain⟨pr,ndf,ll,_⟩:=uy (by omega) (by omega) (nj us _) pk.fam
 have e5:s5=.sn (lT A):=e5
 have e6:s6=.sn (lF F):=e6
 subst e5 e6
 clear e5 e6
 have gA:GdN m A:=λt ht=>by have:=rA t ht;exact⟨by omega,by omega,by omega⟩
 have fk:Ci ((m:Nat):Int) F:=⟨pr,ndf⟩
 show rY _ _ _ [.any,.pen (CT CP (bZ PT)),.im (.int ((m:Nat):Int)),.im (.tuple (us.map pD)),.im (.int ((k:Int) - 1)),.sn (lT A),.sn (lF F),.any,.any,.any,.any,.any,.any]
 refine⟨zK,?_⟩
 refine RT (c:=decide (1<((m:Nat):Int))) (p:=λl=>LS ((m:Nat):Int) l/\(1<m->Proper ((m:Nat):Int) l)) (λc kk=>⟨rfl,((m:Nat):Int),rfl,by have:=of_decide_eq_true c;omega,n8,λl hl=>kk l ⟨⟨hl.one,by have:=hl.few;omega,hl.rng,hl.rise⟩,λ_=>hl⟩⟩) (λc kk=>kk [0] ⟨⟨by decide,by decide,λx hx=>by rw[ï.mp hx];omega,by simp⟩,λz=>absurd (decide_eq_true (show 1<((m:Nat):Int) by omega)) (by rw[c];decide)⟩) ?_
 rintro l ⟨hl,hp⟩
 show rY _ _ _ [.any,.pen (CT CP (bZ PT)),.im (.int ((m:Nat):Int)),.im (.tuple (us.map pD)),.im (.int ((k:Int) - 1)),.sn (lT A),.sn (lF F),.sn (iD l),.any,.any,.any,.any,.any]
 refine⟨rfl,((m:Nat):Int),l,rfl,by omega,by omega,hl.one,hl.few,?_⟩
 have n16:((m:Nat):Int)<=16:=by omega
 refine⟨zK,.shr,λi ys=>ys=((iK ((m:Nat):Int) l).take i).map λd=>ÿ [d],rfl,λi d ys hd hy=>?_,λys hy=>?_⟩
 ·subst hy
  by_cases hi:d8 d=true
  ·have en:∀k,norm k d=.imm:=λk=>ř hi
   unfold gNm
   simp only[en]
   exact aK (B:=True) ⟨zK,rfl,(cY _ hd).symm⟩
  ·have en:∀k,norm k d=k:=λk=>bR hi
   unfold gNm
   simp only[en]
   exact aK (B:=True) ⟨zK,rfl,(cY _ hd).symm⟩
 dsimp only at hy
 rw[ĉ] at hy
 subst hy
 have lf8:=Eb (by omega) fk
 have lm:(F.map iD).length=F.length:=Á ..
 have ls:(l.map Ã).length=l.length:=Á ..
 refine⟨_,rfl,zK,zK,by rw[lm];show F.length+1<=1000;omega,zK,zK,zK,.inr ?_⟩
 show wY 8 none (λ_ Q=>Q _ (.list ((iK ((m:Nat):Int) l).map (λd=>ÿ [d])++tR F l))) _ [.any,.pen (CT CP (bZ PT)),.im (.int ((m:Nat):Int)),.im (.tuple (us.map pD)),.im (.int ((k:Int) - 1)),.sn (lT A),.sn (lF F),.sn (iD l),.any,.any,.any,.any,.any]
 refine Ky (s:=.sh (.list ((iK ((m:Nat):Int) l).map (λd=>ÿ [d])++tR F l))) ?_ ?_
 ·cases F <;> rfl
 show rY _ _ _ [.any,.pen (CT CP (bZ PT)),.im (.int ((m:Nat):Int)),.im (.tuple (us.map pD)),.im (.int ((k:Int) - 1)),.sn (lT A),.sn (lF F),.sn (iD l),.sh (.list ((iK ((m:Nat):Int) l).map (λd=>ÿ [d])++tR F l)),.any,.any,.any,.any]
 have c1:=Em l hl.one
 have t1:((l.take 1).map Ã).length<=1:=by rw[Á,ă];omega
 refine⟨_,rfl,.inl ⟨by rw[c1];exact œ _,zK,by rw[c1];show((l.take 1).map Ã).length+1<=1000;omega,.inl ⟨by rw[c1];exact oW (œ _) rfl,zK,_,rfl,zK,zK,zK,.inr ?_⟩⟩⟩
 rw[c1]
 show rY _ _ _ [.any,.pen (CT CP (bZ PT)),.im (.int ((m:Nat):Int)),.im (.tuple (us.map pD)),.im (.int ((k:Int) - 1)),.sn (lT A),.sn (lF F),.sn (iD l),.sh (.list (((iK ((m:Nat):Int) l).map (λd=>ÿ [d])++tR F l)++Hz l)),.any,.any,.any,.any]
 generalize hS:((iK ((m:Nat):Int) l).map (λd=>ÿ [d])++tR F l)++Hz l=S
 have lS:S.length=44:=by rw[←hS];rfl
 refine⟨rfl,((m:Nat):Int),A,rfl,by omega,by omega,lA,?_⟩
 have step:∀(es:List D) (i:Nat) (d:D),es[i]?=some d->∀(f:D->D),(es.take i).map f++[f d]=(es.take (i+1)).map f:=λes i d hd f=>(cY f hd).symm
 refine⟨zK,.shr,λi ys=>ys=((iJ ((m:Nat):Int) A).take i).map λd=>č [d,lF F],rfl,λi d ys hd hy=>?_,λys hy=>?_⟩
 ·subst hy
  by_cases hi:d8 d=true
  ·have en:∀k,norm k d=.imm:=λk=>ř hi
   unfold gNm
   simp only[en]
   exact aK (B:=True) ⟨zK,vV (vV rfl),(cY _ hd).symm⟩
  ·have en:∀k,norm k d=k:=λk=>bR hi
   unfold gNm
   simp only[en]
   exact aK (B:=True) ⟨zK,vV (vV rfl),(cY _ hd).symm⟩
 dsimp only at hy
 rw[ĉ] at hy
 subst hy
 refine⟨(show S.length<=1000 by omega),.shr,λi ys=>ys=(S.take i).map λd=>č [lT A,d],rfl,λi d ys hd hy=>?_,λys hy=>?_⟩
 ·subst hy
  by_cases hi:d8 d=true
  ·have en:∀k,norm k d=.imm:=λk=>ř hi
   unfold gNm
   simp only[en]
   exact aK (B:=True) ⟨zK,rfl,(cY _ hd).symm⟩
  ·have en:∀k,norm k d=k:=λk=>bR hi
   unfold gNm
   simp only[en]
   exact aK (B:=True) ⟨zK,rfl,(cY _ hd).symm⟩
 dsimp only at hy
 rw[ĉ] at hy
 subst hy
 have lN:(iJ ((m:Nat):Int) A).length=42:=rfl
 refine⟨by rw[Á,Á];omega,.inr ?_⟩
 show rY _ _ _ [.any,.pen (CT CP (bZ PT)),.im (.int ((m:Nat):Int)),.im (.tuple (us.map pD)),.im (.int ((k:Int) - 1)),.sn (lT A),.sn (lF F),.sn (iD l),.sh (.list S),.sh (.list ((iJ ((m:Nat):Int) A).map (λd=>č [d,lF F])++S.map λd=>č [lT A,d])),.any,.any,.any]
 refine⟨_,.list [.tuple [.none,.none],.tuple [.dict [],.list [.list [.int 0,.int 0]]],.tuple [.str "",.str ""]],rfl,by rw[Æ,Á,Á];show _+3<=1000;omega,.inr ?_⟩
 have bad:=Fp (k:=k) (us:=us) (by omega) (by omega) hl fk lf8 gA lA (S:=S) (by rw[←hS];exact Hy (by omega) n8 hl fk lf8)
 generalize hps:((iJ ((m:Nat):Int) A).map (λd=>(d,lF F))++S.map (λd=>(lT A,d)))++[((.none:D),(.none:D)),(.dict [],.list [.list [.int 0,.int 0]]),(.str "",.str "")]=ps at bad
 have eP:((iJ ((m:Nat):Int) A).map (λd=>č [d,lF F])++S.map λd=>č [lT A,d])++[.tuple [.none,.none],.tuple [.dict [],.list [.list [.int 0,.int 0]]],.tuple [.str "",.str ""]]=ps.map λp:D×D=>č [p.1,p.2]:=by
  rw[←hps,Þ,Þ,õ,õ]
  rfl
 rw[eP]
 refine Og ps (λp:D×D=>č [p.1,p.2]) (λρ=>ρ=[.any,.pen (CT CP (bZ PT)),.im (.int ((m:Nat):Int)),.im (.tuple (us.map pD)),.im (.int ((k:Int) - 1)),.sn (lT A),.sn (lF F),.sn (iD l),.sh (.list S),.sh (.list ((iJ ((m:Nat):Int) A).map (λd=>č [d,lF F])++S.map λd=>č [lT A,d])),.any,.any,.any]) rfl rfl rfl ?_ ?_
 ·rintro p hp ρ rfl
  have b:=bad p hp
  refine⟨rfl,JV λs10 s11 e10 e11=>?_⟩
  rcases xV e10 with rfl|rfl
  all_goals
   rcases xV e11 with rfl|rfl
   all_goals
    clear e10 e11
    refine⟨zK,_,_,rfl,b.ok,zK,m,k,us,p.1,p.2,rfl,by omega,by omega,k2,k3,by omega,hu,b.fd,b.fe,λv hv=>?_⟩
    have:v=false:=by rw[←Bool.not_eq_true];exact λz=>b.no (hv.mp z)
    subst this
    refine bD (A:=True) ⟨zK,_,_,rfl,b.ok,?_⟩
    show if (!decide ((č [p.1,p.2]).shown=(č [p.1,p.2]).shown))=true then _ else _
    rw[decide_eq_true rfl]
    exact bD (A:=True) rfl
 ·rintro ρ rfl
  refine⟨zK,m,k,us,lT A,lF F,rfl,by omega,by omega,k2,k3,by omega,hu,jK (by rw[Á];omega),λes e=>?_,λb hb=>?_⟩
  ·injection e with e
   rw[←e]
   refine⟨by rw[Á];omega,λe he=>?_⟩
   obtain⟨a,ha,rfl⟩:=Ý.mp he
   have:=(fk.1 a ha).few
   exact nJ (by omega)
  have:b=true:=hb.mpr ⟨A,F,rfl,rfl,gA,⟨pk.so,λt ht=>(rA t ht).2.1⟩,fk,by omega,sS⟩
  subst this
  exact⟨rfl,rfl⟩
end
def len1{α:Type}:∀us:List α,us.length=1->∃a,us=[a]
 |[a],_=>⟨a,rfl⟩
def len2{α:Type}:∀us:List α,us.length=2->∃a b,us=[a,b]
 |[a,b],_=>⟨a,b,rfl⟩
def WQ{α:Type}:∀us:List α,us.length=3->∃a b c,us=[a,b,c]
 |[a,b,c],_=>⟨a,b,c,rfl⟩
def Nv{α:Type}:∀us:List α,us.length=4->∃a b c d,us=[a,b,c,d]
 |[a,b,c,d],_=>⟨a,b,c,d,rfl⟩
def wG{K:Ú}{f:Addr}{oc:Value}{od:Option Addr}{fd:FuncData}{sl:Array (Option Value)}(l:K.lookup f=some ⟨oc,od,.func fd,sl⟩):W.keepIn K (.ref f)=true:=by
 unfold W.keepIn
 simp only[l]
def BX{P:Program}{w:World}{K:Ú}{mg:Str->Option Value}{base:Heap}{k:Nat}{x:Str}{st:Stmt}{f:Addr}{fd:FuncData}{ps:List Str}{sp:Sp}(F:Fun K x x st f fd)(b:Binds K fd ps [])(m:mg x=some (.ref f))(h:FnOk P w K mg base CX0 k f fd ps sp) :
  Ą P w K mg base k x ps sp:=⟨f,fd,h,b,F.kp,m⟩
abbrev zl(K:Ú)(f:Addr)(x:Str)(st:Stmt)(oc:Value)(od:Option Addr)(kV dc pm:Value)(an:Option Addr)(cd ct:Value)(sl:Array (Option Value)):Prop:=K.lookup f=some ⟨oc,od,.func (W.fnOf x x (gw st) (cH st) (ak st) .none kV dc pm an cd ct),sl⟩
abbrev za(K:Ú)(x:Str)(f:Addr):Prop:=W.nsIn K mainGlobals x=some (some (.ref f))
abbrev zc(K:Ú)(x:Str)(cd:Value):Prop:=W.codeIn K cd x=true
abbrev zn(K:Ú)(x:Str):Prop:=W.nsIn K mainGlobals x=some none
abbrev zf(K:Ú)(f:Addr)(x:Str)(st:Stmt):Prop:=∃oc od kV dc pm an cd ct sl,za K x f/\zl K f x st oc od kV dc pm an cd ct sl/\zc K x cd
def zE{K:Ú}{f:Addr}{x:Str}{st:Stmt}{oc:Value}{od:Option Addr}{kV dc pm:Value}{an:Option Addr}{cd ct:Value}{sl:Array (Option Value)}(a:za K x f)(l:zl K f x st oc od kV dc pm an cd ct sl)(c:zc K x cd):zf K f x st:=⟨_,_,_,_,_,_,_,_,_,a,l,c⟩
def zF{K:Ú}{h:Heap}{mg:Str->Option Value}{f:Addr}{x:Str}{st:Stmt}(X:K.In h)(G:h.Ns mainGlobals mg)(z:zf K f x st):∃fd,Fun K x x st f fd/\mg x=some (.ref f):=by
 obtain⟨_,_,_,_,_,_,_,_,_,a,l,c⟩:=z
 exact⟨_,Bp (st:=st) l c (wG l),W.mg_of X G a⟩
def zD(P:Program)(w:World)(base:Heap){K:Ú}{mg:Str->Option Value}{k:Nat}{x:Str}{st:Stmt}{f:Addr}{fd:FuncData}{ps:List Str}{sp:Sp}(F:Fun K x x st f fd)(b:Binds K fd ps [])(m:mg x=some (.ref f))(h:FnOk P w K mg base CX0 k f fd ps sp):Ą P w K mg base k x ps sp:=BX F b m h
def all_mk{l:W.OpenLaw}{w:World}{K:Ú}{h:Heap}{mg:Str->Option Value}{c PT fa f0 f1 f2 f3 f4 f5 f6 f7 f8 f9 f10 f11 f12 f13 f14 f15 f16 f17 f18 f19 f20 f21 f22 f23 f24 f25 f26 f27 f28 f29 f30 f31 f32 f33 f34 f35 f36 f37 f38 f39 f40 f41:Addr}(hT:h.get? PT=some (W.tabObj #[]))(X:K.In h)(G:h.Ns mainGlobals mg)(hfa:mg "law"=some (.ref fa)){od21 an21 od41 an41:Option Addr}{sl21 sl41:Array (Option Value)}{oc21 kV21 dc21 pm21 ct21 oc41 kV41 dc41 pm41 cd41 ct41:Value}(h0:zf K f0 "is_whole" (top 4))(h1:zf K f1 "is_below" (top 5))(h2:zf K f2 "is_tie" (top 6))(h3:zf K f3 "with_ties" (top 7))(h4:zf K f4 "hops" (top 9))(h5:zf K f5 "is_rising" (top 11))(h6:zf K f6 "is_proper_set" (top 12))(h7:zf K f7 "check_set" (top 13))(h8:zf K f8 "sets_below" (top 14))(h9:zf K f9 "proper_sets" (top 15))(h10:zf K f10 "leaves" (top 16))(h11:zf K f11 "ties_that_leave" (top 17))(h12:zf K f12 "leaving" (top 18))(h13:zf K f13 "need" (top 19))(h14:zf K f14 "is_family" (top 21))(h15:zf K f15 "check_family" (top 22))(h16:zf K f16 "half_made_whole" (top 23))(h17:zf K f17 "bound" (top 24))(h18:zf K f18 "best_with" (top 25))(h19:zf K f19 "heaviest_apart" (top 26))(h20:zf K f20 "heaviest_family" (top 27))(a21:za K "best_family" f21)(l21:zl K f21 "best_family" (top 28) oc21 od21 kV21 dc21 pm21 an21 (.ref c) ct21 sl21)(c21:zc K "best_family" (.ref c))(h22:zf K f22 "needy_set" (top 30))(h23:zf K f23 "stands" (top 31))(h24:zf K f24 "are_leads" (top 33))(h25:zf K f25 "are_added" (top 34))(h26:zf K f26 "lets_by" (top 35))(h27:zf K f27 "with_spares" (top 37))(h28:zf K f28 "fewest_ends" (top 38))(h29:zf K f29 "can_be_tied" (top 39))(h30:zf K f30 "tied" (top 40))(h31:zf K f31 "tie_ends" (top 41))(h32:zf K f32 "puts" (top 42))(h33:zf K f33 "_law_pen" (top 44))(h34:zf K f34 "_law_draw" (top 45))(h35:zf K f35 "_law_order" (top 46))(h36:zf K f36 "_law_ties" (top 47))(h37:zf K f37 "_law_web" (top 48))(h38:zf K f38 "_law_set" (top 49))(h39:zf K f39 "_law_no_sets" (top 50))(h40:zf K f40 "_law_no_ties" (top 51))(a41:za K "law" f41)(l41:zl K f41 "law" (top 52) oc41 od41 kV41 dc41 pm41 an41 cd41 ct41 sl41)(c41:zc K "law" cd41)(z0:zn K "isinstance")(z1:zn K "int")(z2:zn K "bool")(z3:zn K "tuple")(z4:zn K "list")(z5:zn K "len")(z6:zn K "all")(z7:zn K "min")(z8:zn K "max")(z9:zn K "sorted")(z10:zn K "range")(z11:zn K "abs")(z12:zn K "zip")(z13:zn K "set")(z14:zn K "sum")(z15:zn K "repr"){occ:Value}{odc:Option Addr}{vsc:Array Value}{slc:Array (Option Value)}(lc:K.lookup c=some ⟨occ,odc,.fields vsc,slc⟩)(v11:vsc[11]?=some (.ref PT))(hP0:K.lookup PT=none)(hcI:W.codeHdIn K c PT=true)
  :
  ∃(K':Ú) (c PT:Addr) (fd:FuncData) (sp:Sp),K'.In h/\K'.lookup PT=none/\W.CodeHd h c PT/\h.get? PT=some (W.tabObj #[])/\(∀(s:Shared) (u:Value),BindsTo s fd ⟨[u],[]⟩ [("_law_script",u)]) /\
    (∀base:Heap,K'.In base->base.Ns mainGlobals mg->base.BuiltinsAt mg PT->Dl.zO base->FnOk l.prog w K' mg base CX0 13 fa fd ["_law_script"] sp)/\∀(H:Hp) (a:Addr) (ns:List Int),SqL K' H a (ns.map ż)->H PT=some (.tbl #[])->sp [.ref a] H (λv _=>v=.bl true) λ_ _ _=>False:=by
 have e:=hfa.symm.trans (W.mg_of X G a41)
 cases e
 obtain⟨_,F0,m0⟩:=zF X G h0
 have b0:=F0.binds (ps:=["thing"])
 obtain⟨_,F1,m1⟩:=zF X G h1
 have b1:=F1.binds (ps:=["limit","thing"])
 obtain⟨_,F2,m2⟩:=zF X G h2
 have b2:=F2.binds (ps:=["n","thing"])
 obtain⟨_,F3,m3⟩:=zF X G h3
 have b3:=F3.binds (ps:=["web","added"])
 obtain⟨_,F4,m4⟩:=zF X G h4
 have b4:=F4.binds (ps:=["places"])
 obtain⟨_,F5,m5⟩:=zF X G h5
 have b5:=F5.binds (ps:=["limit","thing"])
 obtain⟨_,F6,m6⟩:=zF X G h6
 have b6:=F6.binds (ps:=["n","thing"])
 obtain⟨_,F7,m7⟩:=zF X G h7
 have b7:=F7.binds (ps:=["web","thing"])
 obtain⟨_,F8,m8⟩:=zF X G h8
 have b8:=F8.binds (ps:=["count"])
 obtain⟨_,F9,m9⟩:=zF X G h9
 have b9:=F9.binds (ps:=["n"])
 obtain⟨_,F10,m10⟩:=zF X G h10
 have b10:=F10.binds (ps:=["tie","some"])
 obtain⟨_,F11,m11⟩:=zF X G h11
 have b11:=F11.binds (ps:=["web","some"])
 obtain⟨_,F12,m12⟩:=zF X G h12
 have b12:=F12.binds (ps:=["web","some"])
 obtain⟨_,F13,m13⟩:=zF X G h13
 have b13:=F13.binds (ps:=["web","falls","some"])
 obtain⟨_,F14,m14⟩:=zF X G h14
 have b14:=F14.binds (ps:=["n","thing"])
 obtain⟨_,F15,m15⟩:=zF X G h15
 have b15:=F15.binds (ps:=["web","thing"])
 obtain⟨_,F16,m16⟩:=zF X G h16
 have b16:=F16.binds (ps:=["total"])
 obtain⟨_,F17,m17⟩:=zF X G h17
 have b17:=F17.binds (ps:=["web","falls","family"])
 obtain⟨_,F18,m18⟩:=zF X G h18
 have b18:=F18.binds (ps:=["weights","best","top","rest"]) λ_ _ _ _ _ _ us hl=>by obtain⟨_,_,_,_,rfl⟩:=Nv us hl;rfl
 obtain⟨_,F19,m19⟩:=zF X G h19
 have b19:=F19.binds (ps:=["weights"])
 obtain⟨_,F20,m20⟩:=zF X G h20
 have b20:=F20.binds (ps:=["n","weigh"])
 have F21:=Bp (st:=top 28) l21 c21 (wG l21)
 have b21:=F21.binds (ps:=["web","falls"])
 have m21:=W.mg_of X G a21
 obtain⟨_,F22,m22⟩:=zF X G h22
 have b22:=F22.binds (ps:=["web","falls"])
 obtain⟨_,F23,m23⟩:=zF X G h23
 have b23:=F23.binds (ps:=["web","falls"])
 obtain⟨_,F24,m24⟩:=zF X G h24
 have b24:=F24.binds (ps:=["web","thing"])
 obtain⟨_,F25,m25⟩:=zF X G h25
 have b25:=F25.binds (ps:=["web","thing"])
 obtain⟨_,F26,m26⟩:=zF X G h26
 have b26:=F26.binds (ps:=["web","falls","added","family"]) λ_ _ _ _ _ _ us hl=>by obtain⟨_,_,_,_,rfl⟩:=Nv us hl;rfl
 obtain⟨_,F27,m27⟩:=zF X G h27
 have b27:=F27.binds (ps:=["rows","ends","most"])
 obtain⟨_,F28,m28⟩:=zF X G h28
 have b28:=F28.binds (ps:=["n","rows","most"])
 obtain⟨_,F29,m29⟩:=zF X G h29
 have b29:=F29.binds (ps:=["spares","a","b","taken"]) λ_ _ _ _ _ _ us hl=>by obtain⟨_,_,_,_,rfl⟩:=Nv us hl;rfl
 obtain⟨_,F30,m30⟩:=zF X G h30
 have b30:=F30.binds (ps:=["spares","a","b","taken"]) λ_ _ _ _ _ _ us hl=>by obtain⟨_,_,_,_,rfl⟩:=Nv us hl;rfl
 obtain⟨_,F31,m31⟩:=zF X G h31
 have b31:=F31.binds (ps:=["spares","ends"])
 obtain⟨_,F32,m32⟩:=zF X G h32
 have b32:=F32.binds (ps:=["web","falls"])
 obtain⟨_,F33,m33⟩:=zF X G h33
 have b33:=F33.binds (ps:=["_law_script"])
 obtain⟨_,F34,m34⟩:=zF X G h34
 have b34:=F34.binds (ps:=["_law_pen_here","_law_many"])
 obtain⟨_,F35,m35⟩:=zF X G h35
 have b35:=F35.binds (ps:=["_law_pen_here","_law_n"])
 obtain⟨_,F36,m36⟩:=zF X G h36
 have b36:=F36.binds (ps:=["_law_pen_here","_law_n"])
 obtain⟨_,F37,m37⟩:=zF X G h37
 have b37:=F37.binds (ps:=["_law_pen_here","_law_most"])
 obtain⟨_,F38,m38⟩:=zF X G h38
 have b38:=F38.binds (ps:=["_law_pen_here","_law_n"])
 obtain⟨_,F39,m39⟩:=zF X G h39
 have b39:=F39.binds (ps:=["_law_n","_law_some"])
 obtain⟨_,F40,m40⟩:=zF X G h40
 have b40:=F40.binds (ps:=["_law_n","_law_added"])
 have F41:=Bp (st:=top 52) l41 c41 (wG l41)
 have B:ľ mg:=⟨ę X G z0,ę X G z1,ę X G z2,ę X G z3,ę X G z4,ę X G z5,ę X G z6,ę X G z7,ę X G z8,ę X G z9,ę X G z10,ę X G z11⟩
 have N12:=ę X G z12
 have N13:=ę X G z13
 have N14:=ę X G z14
 have N15:=ę X G z15
 have HC:∀h:Heap,K.In h->W.CodeHd h c PT:=λh X2=>W.codeHd_of_K X2 hcI
 refine⟨K,c,PT,W.fnOf "law" "law" (gw (top 52)) (cH (top 52)) (ak (top 52)) .none kV41 dc41 pm41 an41 cd41 ct41,Hv K (bZ PT),X,hP0,W.codeHd_of_K X hcI,hT,λs v=>.of_eq rfl,λbase _ _ hBm SY=>?_,λH a ns hS hT=>⟨a,ns,rfl,hS,⟨_,hT,.inl rfl⟩,λ_=>rfl⟩⟩
 have C0:=λb=>zD l.prog w b F0 b0 m0 (Jh F0 B)
 have C1:=λb=>zD l.prog w b F1 b1 m1 (Jl F1 (C0 b))
 have C2:=λb=>zD l.prog w b F2 b2 m2 (Fy F2 B (C1 b))
 have C3:=λb=>zD l.prog w b F3 b3 m3 (vO F3 B)
 have C4:=λb=>zD l.prog w b F4 b4 m4 (MP F4 B N12)
 have C5:=λb=>zD l.prog w b F5 b5 m5 (Ft F5 B (C1 b) (C4 b))
 have C6:=λb=>zD l.prog w b F6 b6 m6 (Fv F6 B (C5 b))
 have C7:=λb=>zD l.prog w b F7 b7 m7 (yx F7 (C6 b))
 have C8:=λb=>zD l.prog w b F8 b8 m8 (Uy F8 B)
 have C9:=λb=>zD l.prog w b F9 b9 m9 (qY F9 B (C8 b))
 have C10:=λb=>zD l.prog w b F10 b10 m10 (Fx F10 )
 have C11:=λb=>zD l.prog w b F11 b11 m11 (Rm F11 (C7 b) (C10 b))
 have C12:=λb=>zD l.prog w b F12 b12 m12 (MN F12 B (C11 b))
 have C13:=λb=>zD l.prog w b F13 b13 m13 (MK F13 B (C12 b))
 have C14:=λb=>zD l.prog w b F14 b14 m14 (Rr F14 B N13 (C6 b))
 have C15:=λb=>zD l.prog w b F15 b15 m15 (pP F15 B (C14 b))
 have C16:=λb=>zD l.prog w b F16 b16 m16 (lO F16 B)
 have C17:=λb=>zD l.prog w b F17 b17 m17 (Jk F17 B N14 (C15 b) (C16 b) (C13 b))
 have C18:=λb=>zD l.prog w b F18 b18 m18 (vP F18 B)
 have C19:=λb=>zD l.prog w b F19 b19 m19 (mZ F19 B (C18 b))
 have C21:=BX F21 b21 m21 (M5 (P:=l.prog) (w:=w) (base:=base) l21 c21 HC hBm ⟨⟨f20,_,λbase=>(lM (P:=l.prog) (w:=w) (base:=base) F20 B (C8 base) (C19 base)),b20,F20.kp,m20⟩⟩ C13)
 have C22:=λb=>zD l.prog w b F22 b22 m22 (Jj F22 (C8 b) (C13 b))
 have C23:=λb=>zD l.prog w b F23 b23 m23 (Fq F23 (C22 b))
 have C24:=λb=>zD l.prog w b F24 b24 m24 (vQ F24 B (C2 b))
 have C25:=λb=>zD l.prog w b F25 b25 m25 (vR F25 B (C24 b))
 have C26:=λb=>zD l.prog w b F26 b26 m26 (Aw F26 B (C14 b) (C25 b) (C23 b) (C3 b) (C17 b))
 have C27:=λb=>zD l.prog w b F27 b27 m27 (qX F27 B)
 have C28:=λb=>zD l.prog w b F28 b28 m28 (rm F28 B (C27 b))
 have C29:=λb=>zD l.prog w b F29 b29 m29 (rB F29 B)
 have C30:=λb=>zD l.prog w b F30 b30 m30 (Mz F30 B)
 have C31:=λb=>zD l.prog w b F31 b31 m31 (yw F31 B (C29 b) (C30 b))
 have C32:=BX F32 b32 m32 (MJ (P:=l.prog) (w:=w) (base:=base) F32 B (C9 base) (C12 base) (C28 base) (C31 base) (C27 base) C21)
 have C33:=λb=>zD l.prog w b F33 b33 m33 (Ro F33 B)
 have C34:=λb=>zD l.prog w b F34 b34 m34 (M4 F34 B)
 have C35:=λb=>zD l.prog w b F35 b35 m35 (Ji F35 B (C34 b))
 have C36:=λb=>zD l.prog w b F36 b36 m36 (Mx F36 B (C34 b))
 have C37:=λb=>zD l.prog w b F37 b37 m37 (Mw F37 B (C34 b) (C35 b) (C36 b))
 have C38:=λb=>zD l.prog w b F38 b38 m38 (MF F38 B (C34 b) (C35 b))
 have C39:=λb=>zD l.prog w b F39 b39 m39 (q9 F39 B)
 have C40:=λb=>zD l.prog w b F40 b40 m40 (qZ F40 B)
 exact Rq F41 B N15 SY (C33 base) (C37 base) (C34 base) C32 (C38 base) (C39 base) (C40 base) (C26 base)
end Nf
namespace Nf
open PySem PySem.W PyProof.Rows
def uh:List Nat:=[1,2,4,5,6,7,9,11,12,13,14,15,16,17,18,19,21,22,23,24,25,26,27,28,30,31,33,34,35,37,38,39,40,41,42,44,45,46,47,48,49,50,51,52]
def yL(p:Program)(w:World)(os:OsState):=(Fd p 3494 w os).map (λs=>HB p (view p uh) (λs=>xlAt (view p uh) [] s&&recOk [] s) w s.abs)
def goodW(p:Program):=some (true,openGood (view p uh) [])
def frF(fr:Frag)(k:Nat):=some ((fr.map λp=>some p.2).take k)
def frB(fr:Frag)(k:Nat):=some ((fr.map λp=>some p.2).drop k)
def rP(p:Program)(w:World)(os:OsState)(as:List Addr)(k:Nat):=(Fd p 3494 w os).map (λs=>(as.map s.abs.heap.get?).take k)
def zJ(p:Program)(w:World)(os:OsState)(as:List Addr)(k:Nat):=(Fd p 3494 w os).map (λs=>(as.map s.abs.heap.get?).drop k)
def Bb:yL=yL:=rfl
def Bl:goodW=goodW:=rfl
def yU:rP=rP:=rfl
def Cd:zJ=zJ:=rfl
end Nf
lay_quick Nf.yL Nf.goodW Nf.rP Nf.zJ
name_quick lookQ for Nf.yL by Nf.Bb
name_quick goodQ for Nf.goodW by Nf.Bl
name_quick frontQ for Nf.rP by Nf.yU
name_quick backQ for Nf.zJ by Nf.Cd
set_option maxHeartbeats 0 in
def Nf.Nk(w:PySem.World)(os:PySem.OsState):Nf.yL í w os=Nf.goodW í:=by
 rw[PySem.W.Fast.lookQ_eq,PySem.W.Fast.goodQ_eq]
 kernel_rfl
def Nf.well:PySem.Challenge.rw_nofall_k30_whatever_two_things.wellSaid=true:=by kernel_rfl
open PySem PySem.W PyProof.Rows
local macro_rules
 |`(tactic| k_qdec)=>`(tactic| fail)
local macro_rules
 |`(tactic| o_head (kmHook $k $a $e $t))=>`(tactic| o_head (kHook (λP=>List.append (Ĥ (λa=>(a,PySem.W.tabObj #[])) $t) ($k P)) (List.append $t $a) (λ_=>by kernel_rfl)))
local macro_rules
 |`(tactic| o_head (kHook $k $a $e))=>`(tactic| (
  refine holds_open (q:=view í Nf.uh) (loose:=[]) (Xt:=λs=>xlAt (view í Nf.uh) [] s&&recOk [] s) (XP:=XL (view í Nf.uh) []) (Yf:=Hook.obs (kHook $k $a $e)) (Ya:=Hook.val (kHook $k $a $e)) (YP:=Hook.says (kHook $k $a $e)) (N:=3494) ?hl (Hook.of (kHook $k $a $e)) (Hook.keeps (kHook $k $a $e)) (λs e=>xl_of s (Bool.and_eq_true_iff.mp e).1) XL.keeps (by rfl) (by rfl) (by rfl) (λs e=>recFacts_of (Bool.and_eq_true_iff.mp e).2) (by rfl) (by first|assumption|decide +kernel) (by decide +kernel) ⟨rfl,rfl,rfl,rfl,rfl,by decide +kernel⟩ ?hw ?hc))
set_option maxRecDepth 100000 in
set_option maxHeartbeats 0 in
theorem PySem.Challenge.cw_nofall_k30_whatever_two_things_holds : PySem.Challenge.rw_nofall_k30_whatever_two_things.Holds := by
 w_on;refine PySem.W.holds_law Nf.well λsaid=>?_;k_head
 ·refine Nf.Nx 90 (boot_open (by kernel_rfl) rfl (λs=>by kernel_rfl)) Nf.Nk (λw os=>?_) (λw os=>?_)
  ·show Nf.rP í w os _ 90=Nf.frF _ 90
   rw[PySem.W.Fast.frontQ_eq]
   kernel_rfl
  ·show Nf.zJ í w os _ 90=Nf.frB _ 90
   rw[PySem.W.Fast.backQ_eq]
   kernel_rfl
 ·w_witness2
 k_fill
 refine L2.Hf (n:=63) (k:=13) (x:="_law_script") (l:=PySem.Challenge.rw_nofall_k30_whatever_two_things) (by rfl) rfl (by decide) rfl ⟨rfl,by decide,by decide,rfl⟩ (λw h Y=>PySem.W.kIn_of Y) ?F
 case F =>
  intro w mg fa h KX2 G hmg
  obtain⟨KX,hPT⟩:=L2.Qk KX2 (by kernel_rfl)
  refine' Nf.all_mk hPT KX G hmg ?h0 ?h1 ?h2 ?h3 ?h4 ?h5 ?h6 ?h7 ?h8 ?h9 ?h10 ?h11 ?h12 ?h13 ?h14 ?h15 ?h16 ?h17 ?h18 ?h19 ?h20 ?a21 ?l21 ?c21 ?h22 ?h23 ?h24 ?h25 ?h26 ?h27 ?h28 ?h29 ?h30 ?h31 ?h32 ?h33 ?h34 ?h35 ?h36 ?h37 ?h38 ?h39 ?h40 ?a41 ?l41 ?c41 ?z0 ?z1 ?z2 ?z3 ?z4 ?z5 ?z6 ?z7 ?z8 ?z9 ?z10 ?z11 ?z12 ?z13 ?z14 ?z15 ?lc ?v11 ?hP0 ?hcI
  any_goals first|refine' Nf.zE ?_ ?_ ?_|skip
  any_goals (show _=_;k_is)
  case v11=>exact rfl
  case hP0=>kernel_rfl
  case hcI=>kernel_rfl
  all_goals rfl
end
